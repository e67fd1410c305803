/-
  FrameTorn: of at most 10 frames of records of at most 200 bytes, cut off anywhere, with one byte behind the cut that is not the one that was there, just the whole ones ahead are read.
-/
import Derived.Test.YtcagodcmkjdahaaRows
import Derived.Test.YtcagodcmkjdahaaFrameAwake
import Derived.Test.YtcagodcmkjdahaaNested
import Derived.WalkKit
import Derived.ProofKit
import Derived.OpenShut
import Derived.ShutString
import Derived.ChangeOld
import Derived.Below
import Derived.Carry
namespace Go.Proofs.Ytcagodcmkjdahaa.frameTorn
open Go.ChangeShapes Go.WideShapes Go.ChangeAt Go.RowKit
open Go.ChangeMaps (open_string shut_string)
set_option linter.unusedVariables false

theorem own : ownKnob Try.prog.godebug = none := by kernel_rfl
theorem laidOut : laidOutB Try.prog = true := by kernel_rfl
/-- A slice of integers that came in: nil, or a row of 'cap' cells, of which the first 'len' are its elements. -/
def IsRow (k : IntKind) (w : World) (a : Option Addr) (len cap : Nat) (zs : List Int) : Prop :=
  (a = none ∧ len = 0 ∧ cap = 0 ∧ zs = []) ∨
  ∃ x, a = some x ∧ len ≤ cap ∧ cap ≤ maxLen ∧ zs.length = cap ∧ (∀ i, i < zs.length → w.cell? (x.add i) = some (.int k (zs.getD i 0))) ∧ ∀ n ∈ zs, (Lit.int k n).wf = true

theorem fr_len_mono (L : List (List Int)) (i j : Nat) (h : i ≤ j) : (fr L i).length ≤ (fr L j).length := by
  have e : L.take j = L.take i ++ (L.take j).drop i := by
    have := List.take_append_drop i (L.take j)
    rw [List.take_take, Nat.min_eq_left h] at this
    exact this.symm
  unfold fr
  rw [e, frames_app, List.length_append]
  omega
/-- What was cut off in the midst of a frame, and another byte behind. -/
theorem torn_scan (L : List (List Int)) (c wh : Nat) (x : Int) (hL : ∀ r ∈ L, By r) (h8 : ∀ r ∈ L, r.length ≤ 8000) (hc : c < (frames L).length) (hwh : wh ≤ L.length) (h1 : (fr L wh).length ≤ c) (h2 : ∀ j, wh < j → j ≤ L.length → c < (fr L j).length) (hx : 0 ≤ x ∧ x ≤ 255) (hne : x ≠ (frames L)[c]?.getD 0) :
    scanN ((frames L).take c ++ [x]) = (L.take wh, (fr L wh).length, false) := by
  have hlt : wh < L.length := by
    apply Classical.byContradiction
    intro h
    have e : wh = L.length := by omega
    rw [e, fr_all] at h1
    omega
  have hr : L = L.take wh ++ (L.getD wh [] :: L.drop (wh + 1)) := by
    have := List.take_append_drop wh L
    rw [List.drop_eq_getElem_cons hlt] at this
    have e : L.getD wh [] = L[wh] := by simp [List.getD, hlt]
    rw [e]; exact this.symm
  have hmem : L.getD wh [] ∈ L := by
    have e : L.getD wh [] = L[wh] := by simp [List.getD, hlt]
    rw [e]; exact List.getElem_mem hlt
  obtain ⟨R, hR⟩ : ∃ R, R = L.getD wh [] := ⟨_, rfl⟩
  rw [← hR] at hr hmem
  have hfl : frames L = fr L wh ++ (frameN R ++ frames (L.drop (wh + 1))) := by
    have := congrArg frames hr
    rw [frames_app, frames_cons] at this
    exact this
  have hn := h2 (wh + 1) (by omega) (by omega)
  rw [fr_next L wh hlt, ← hR, List.length_append] at hn
  obtain ⟨m, hm⟩ : ∃ m, c = (fr L wh).length + m := ⟨c - (fr L wh).length, by omega⟩
  have hml : m < (frameN R).length := by omega
  have ht : (frames L).take c = fr L wh ++ (frameN R).take m := by
    rw [hfl, hm, List.take_append, List.take_of_length_le (by omega)]
    congr 1
    have : (fr L wh).length + m - (fr L wh).length = m := by omega
    rw [this, List.take_append_of_le_length (by omega)]
  have hat : (frames L)[c]?.getD 0 = (frameN R)[m]?.getD 0 := by
    rw [hfl, hm, List.getElem?_append_right (by omega)]
    have : (fr L wh).length + m - (fr L wh).length = m := by omega
    rw [this, List.getElem?_append_left hml]
  rw [hat] at hne
  have hnone := torn_none R (hL R hmem) (h8 R hmem) m hml x hx hne
  have hs := scan_none (by intro h; have := congrArg List.length h; simp at this) hnone
  rw [ht, List.append_assoc]
  have := scan_frames (L.take wh) ((frameN R).take m ++ [x]) (fun r hr => h8 r (List.mem_of_mem_take hr))
  rw [hs] at this
  simpa [fr] using this

theorem row_second (w : World) (o : Obj) (x : Int) (h : By [x]) : Row ((w.alloc o).alloc (.cells #[.int .u8 x] 5)).drew (some ⟨w.heap.size + 1, 0, none⟩) [x] := by
  have h1 := row_four (w.alloc o) #[.int .u8 x] [x] rfl h
  rw [World.size_alloc] at h1
  exact h1.same rfl
theorem own_second (w : World) (o : Obj) : ((w.alloc o).alloc (.cells #[] 5)).drew.ownsRow w.heap.size 5 1 (.slice (some ⟨w.heap.size + 1, 0, none⟩) 0 0) 0 (bs []) := by
  have h1 := World.ownsRow_made (e := 5) (size := 1) (base := w.heap.size) (w.alloc o) #[] 0 (by simp) (by decide) rfl
  rw [World.size_alloc] at h1
  exact h1.drew
set_option maxHeartbeats 4000000 in
theorem walk (a0 : Option Addr) (len0 cap0 : Nat) (z0 : List (List Int)) (a1 : Int) (a2 : Int) (w : World) (l0 : z0.length = len0) (w0 : RowsOf w a0 cap0 z0) (w1 : (Lit.int .i64 a1).wf = true) (w2 : (Lit.int .u8 a2).wf = true) :
    Calls Try.prog 5 #[.slice a0 len0 cap0, .int .i64 a1, .int .u8 a2] w fun e w' => e = .returned (.bool true) ∧ Below w.heap.size w w' := by
  obtain ⟨m0, m1⟩ := bounds_i64 w1
  obtain ⟨y0, y1⟩ := bounds_u8 w2
  clear w1 w2
  by_cases h0 : 10 < len0
  · have h0' : (10 : Int) < (len0 : Int) := by omega
    clear l0 w0
    go_enter Try.func5, Try.ntmps5
    go_wp2_with (go_at_call 7; refine (awake_any _).mono ?_; rintro e w1 ⟨rfl, hb⟩)
    go_ret
    exact ⟨rfl, hb⟩
  by_cases hby : a2 = 0
  · have hby' : (a2 == 0) = true := by simpa using hby
    clear l0 w0 hby
    go_enter Try.func5, Try.ntmps5
    go_wp2_with (go_at_call 7; refine (awake_any _).mono ?_; rintro e w1 ⟨rfl, hb⟩)
    go_ret
    exact ⟨by simp, hb⟩
  have hby' : (a2 == 0) = false := by simpa using hby
  have HL0 : Hid (z0.length = len0) := l0
  have HR0 : Hid (RowsOf w a0 cap0 z0) := w0
  clear l0 w0
  go_enter Try.func5, Try.ntmps5
  go_wp2_with (go_at_call 7; refine (awake_any _).mono ?_; rintro e w1 ⟨rfl, hb⟩)
  have HB1 : Hid (Below w.heap.size w w1) := hb
  clear hb
  go_loopw [7, 8, 9] (fun x v i wr => ∃ (k n wh : Nat) (ax : Option Addr) (cx : Nat), k ≤ len0 ∧ wh ≤ k ∧ i = .int .i64 k ∧ v = .int .i64 wh ∧ x = .slice ax n cx ∧ n ≤ 212 * k ∧ Hid (wr.ownsRow w1.heap.size 5 1 (.slice ax n cx) n (bs (fr z0 k))) ∧ Hid (By (fr z0 k)) ∧ Hid (∀ r ∈ z0.take k, r.length ≤ 8000 ∧ By r) ∧ Hid (Below w1.heap.size w1 wr) ∧ Hid (wh = 0 ∨ ((fr z0 wh).length : Int) ≤ a1) ∧ Hid (∀ j, wh < j → j ≤ k → a1 < ((fr z0 j).length : Int))) (fun _ _ i _ => len0 - (intOf i).toNat)
  case atStart => exact ⟨0, 0, 0, none, 0, Nat.zero_le _, Nat.le_refl _, rfl, rfl, rfl, Nat.le_refl _, ⟨rfl, .inl ⟨rfl, rfl⟩⟩, by intro z hz; simp [fr, frames] at hz, by intro r hr; simp at hr, Below.refl _ _, .inl rfl, by intro j h1 h2; omega⟩
  case round =>
    obtain ⟨k, n, wh, ax, cx, hk, hwk, rfl, rfl, rfl, hn, HOWN, HBY, H8, HBW, HW1, HW2⟩ := hrel
    obtain ⟨wA, rfl⟩ : ∃ wA : World, wA = wr := ⟨wr, rfl⟩
    have HLN : Hid ((fr z0 k).length = n) := by have := HOWN.out.1; rw [bs_len] at this; show _ = _; omega
    by_cases hlt : k < len0
    · obtain ⟨b, off, x, m, c, rfl, E⟩ := elem_at HR0.out HB1.out (k := k) (by rw [HL0.out]; exact hlt)
      have HE : Hid _ := E
      have hcell := E.cell wA HBW.out
      clear E
      by_cases hbig : 200 < m
      · have hbig' : (200 : Int) < (m : Int) := by omega
        go_wp2
        go_ret
        exact ⟨rfl, HB1.out.trans (HBW.out.mono HB1.out.size)⟩
      · have hnb : ¬ (200 : Int) < (m : Int) := by omega
        have PUT : Hid (Calls Try.prog 8 #[.slice ax n cx, .slice x m c] wA fun e w' => ∃ ay cy, e = .returned (.tuple #[.slice ay (n + (12 + m)) cy, .int .i64 0]) ∧ w'.ownsRow wA.heap.size 5 1 (.slice ay (n + (12 + m)) cy) (n + (12 + m)) (bs (fr z0 k ++ frameN (z0.getD k []))) ∧ Below wA.heap.size wA w') :=
          put_ok ax cx (fr z0 k) n x c (z0.getD k []) m wA HLN.out HE.out.len (own_row HOWN.out HBY.out) (HE.out.row wA HBW.out) (own_nil HOWN.out) HE.out.nil (by omega) (by omega)
        have HF : Hid (fr z0 (k + 1) = fr z0 k ++ frameN (z0.getD k [])) := fr_next z0 k (by rw [HL0.out]; exact hlt)
        have HFL : Hid ((fr z0 (k + 1)).length = n + (12 + m)) := by show _ = _; rw [HF.out, List.length_append, HLN.out, frame_len, HE.out.len]
        have H8' : Hid (∀ r ∈ z0.take (k + 1), r.length ≤ 8000 ∧ By r) := both_next H8.out (by rw [HL0.out]; exact hlt) ⟨by rw [HE.out.len]; omega, (HE.out.row wA HBW.out).bytes⟩
        have HBY' : Hid (By (fr z0 (k + 1))) := by rw [HF.out]; exact HBY.out.app (frame_by _ (HE.out.row wA HBW.out).bytes)
        by_cases hcut : ((n + (12 + m) : Nat) : Int) ≤ a1
        · go_wp2_with (go_at_call 8; refine PUT.out.mono ?_; rintro e w2 ⟨ay, cy, rfl, hown2, hb2⟩; have HO2 : Hid _ := hown2; have HB2 : Hid _ := hb2; clear hown2 hb2)
          go_roundw
          case rel => exact ⟨k + 1, n + (12 + m), k + 1, ay, cy, by omega, Nat.le_refl _, by go_num, by go_num, rfl, by omega, by show World.ownsRow _ _ _ _ _ _ _; rw [HF.out]; exact own_le HO2.out HBW.out.size, HBY'.out, H8'.out, HBW.out.trans (HB2.out.mono HBW.out.size), .inr (by rw [HFL.out]; exact hcut), by intro j h1 h2; omega⟩
          case measure => simp [intOf]; omega
        · go_wp2_with (go_at_call 8; refine PUT.out.mono ?_; rintro e w2 ⟨ay, cy, rfl, hown2, hb2⟩; have HO2 : Hid _ := hown2; have HB2 : Hid _ := hb2; clear hown2 hb2)
          go_roundw
          case rel => exact ⟨k + 1, n + (12 + m), wh, ay, cy, by omega, by omega, by go_num, rfl, rfl, by omega, by show World.ownsRow _ _ _ _ _ _ _; rw [HF.out]; exact own_le HO2.out HBW.out.size, HBY'.out, H8'.out, HBW.out.trans (HB2.out.mono HBW.out.size), HW1.out, by
              intro j h1 h2
              by_cases hjk : j ≤ k
              · exact HW2.out j h1 hjk
              · have : j = k + 1 := by omega
                rw [this, HFL.out]; omega⟩
          case measure => simp [intOf]; omega
    · obtain rfl : k = len0 := by omega
      have efr : fr z0 k = frames z0 := by rw [← HL0.out]; exact fr_all z0
      have HBC : Hid (Below w.heap.size w wA) := HB1.out.trans (HBW.out.mono HB1.out.size)
      by_cases hc0 : a1 < 0
      · clear hlt hk
        go_wp2
        go_ret
        exact ⟨rfl, HBC.out⟩
      obtain ⟨cut, rfl⟩ : ∃ cut : Nat, a1 = cut := ⟨a1.toNat, by omega⟩
      by_cases hcn : n ≤ cut
      · clear hlt hk
        go_wp2
        go_ret
        exact ⟨rfl, HBC.out⟩
      have hcn' : ¬ (n : Int) ≤ (cut : Int) := by omega
      obtain ⟨gf, rfl, hgf, hmine, _⟩ := mine_of_own HOWN.out HBY.out (by omega)
      have hcx : n ≤ cx := own_cap HOWN.out
      rw [efr] at hmine
      have HLF : Hid ((frames z0).length = n) := by show _ = _; rw [← efr]; exact HLN.out
      have fcell : Hid (∀ w', Below wA.heap.size wA w' → w'.cell? ⟨gf, cut, none⟩ = some (.int .u8 ((frames z0)[cut]?.getD 0))) := fun w' h => (h.cell (p := ⟨gf, cut, none⟩) hmine.lt).trans (hmine.cells cut (by rw [HLF.out]; omega))
      have RFC : Hid (∀ w', Below wA.heap.size wA w' → Row w' (some ⟨gf, 0, none⟩) ((frames z0).take cut)) := fun w' h => ((hmine.row).below h (Nat.le_refl _)).take cut
      have HCL : Hid (((frames z0).take cut).length = cut) := by show _ = _; rw [List.length_take, HLF.out]; omega
      have fb := at_byte hmine.bytes cut
      obtain ⟨v, hv⟩ : ∃ v, v = (frames z0)[cut]?.getD 0 := ⟨_, rfl⟩
      rw [← hv] at fcell fb
      have X1 : bits BinOp.xor IntKind.u8 v a2 = ((v.toNat ^^^ a2.toNat : Nat) : Int) := u8_xor _ _ fb.1 (by omega) y0 (by omega)
      have X2 : ((v.toNat ^^^ a2.toNat : Nat) : Int) ≤ 255 := by
        have : v.toNat ^^^ a2.toNat < 256 := Nat.xor_lt_two_pow (n := 8) (by omega) (by omega)
        omega
      obtain ⟨xb, hxb⟩ : ∃ xb, xb = ((v.toNat ^^^ a2.toNat : Nat) : Int) := ⟨_, rfl⟩
      have HXN : Hid (xb ≠ (frames z0)[cut]?.getD 0) := by
        intro h
        rw [← hv, hxb] at h
        have h3 : v.toNat ^^^ a2.toNat = v.toNat := by omega
        have h4 : v.toNat ^^^ (v.toNat ^^^ a2.toNat) = v.toNat ^^^ v.toNat := by rw [h3]
        rw [← Nat.xor_assoc, Nat.xor_self, Nat.zero_xor] at h4
        exact hby (by omega)
      rw [← hxb] at X1 X2
      have hxb0 : 0 ≤ xb := by rw [hxb]; omega
      have HXB : Hid (By [xb]) := by intro z hz; simp at hz; subst hz; exact ⟨hxb0, X2⟩
      have HFB : Hid (By ((frames z0).take cut)) := By.take hmine.bytes cut
      have KS : Hid (∀ w', Below wA.heap.size wA w' → Below wA.heap.size wA w' ∧ w'.cell? ⟨gf, cut, none⟩ = some (.int .u8 v)) := fun w' h => ⟨h, fcell.out w' h⟩
      have HSC : Hid (scanN ((frames z0).take cut ++ [xb]) = (z0.take wh, (fr z0 wh).length, false)) := by
        have e : z0.take k = z0 := by rw [← HL0.out]; exact List.take_length
        have h8 := H8.out
        rw [e] at h8
        refine torn_scan z0 cut wh xb (fun r hr => (h8 r hr).2) (fun r hr => (h8 r hr).1) (by rw [HLF.out]; omega) (by rw [HL0.out]; exact hwk) ?_ ?_ ⟨hxb0, X2⟩ HXN.out
        · rcases HW1.out with h | h
          · rw [h]; simp [fr, frames]
          · omega
        · intro j h1 h2
          have := HW2.out j h1 (by rw [← HL0.out]; exact h2)
          omega
      have HWL : Hid ((fr z0 wh).length ≤ cut) := by
        show _ ≤ _
        rcases HW1.out with h | h
        · rw [h]; simp [fr, frames]
        · omega
      clear hlt hk hv hxb hmine HOWN HBY H8 HW1 HW2 efr HLN
      have HWT : Hid ((z0.take wh).length = wh) := by show _ = _; rw [List.length_take, HL0.out]; omega
      obtain ⟨b0, o0, rfl⟩ : ∃ b0 o0, a0 = some ⟨b0, o0, none⟩ := by
        rcases HR0.out.cells with h | ⟨b, off, h, _⟩
        · have := HL0.out; rw [h] at this; simp at this; omega
        · exact ⟨b, off, h⟩
      have hcap0 : k ≤ cap0 := by have := HR0.out.le; rw [HL0.out] at this; exact this
      have q5 : ¬ cap0 = 0 := by omega
      have q6 : ((fr z0 wh).length : Int) ≤ (cut : Int) := by have := HWL.out; omega
      have q1 : (cut : Int) < (n : Int) := by omega
      have q2 : (cut : Int) ≤ (cx : Int) := by omega
      have q3 : ¬ cx = 0 := by omega
      have q4 : (0 : Int) ≤ (cut : Int) := by omega
      go_wp2
      go_region_held3 (fun w' => Below wA.heap.size wA w' ∧ w'.cell? ⟨gf, cut, none⟩ = some (.int .u8 v)) (first | exact KS.out _ HB4.out | exact KS.out _ HB3.out | exact KS.out _ (HB3.out.alloc HB3.out.size _) | exact KS.out _ (Below.refl _ _).drew | exact KS.out _ ((Below.refl _ _).alloc (Nat.le_refl _) _).drew | exact KS.out _ (((Below.refl _ _).alloc (Nat.le_refl _) _).alloc (by simp) _).drew) (first | (have hgo := HX3.out; clear hgo; refine step_free (w0 := wA) rfl (.tmp 62) (.tmp 69) rfl HB3.out _ cut ((frames z0).take cut) [xb] rfl HO3.out _ _ _ rfl HX3.out rfl (fun h => by cases h) HFB.out (by omega) ?_; intro a4 c4 w4 h1 h2 h3; have HO4 : Hid (w4.ownsRow wA.heap.size 5 1 (.slice a4 (cut + 1) c4) (cut + 1) (bs (((frames z0).take cut) ++ [xb]))) := h1; have HB4 : Hid (Below wA.heap.size wA w4) := h2; clear h1 h2 h3) | (have hgo := HO3.out; clear hgo; refine step_free (w0 := wA) rfl (.tmp 62) (.tmp 69) rfl (HB3.out.alloc HB3.out.size _) _ cut ((frames z0).take cut) [xb] rfl (HO3.out.alloc _) _ _ _ rfl (row_four w3 _ [xb] rfl HXB.out) rfl (fun h => by cases h) HFB.out (by omega) ?_; intro a4 c4 w4 h1 h2 h3; have HO4 : Hid (w4.ownsRow wA.heap.size 5 1 (.slice a4 (cut + 1) c4) (cut + 1) (bs (((frames z0).take cut) ++ [xb]))) := h1; have HB4 : Hid (Below wA.heap.size wA w4) := h2; clear h1 h2 h3) | (refine step_free (w0 := wA) rfl (.tmp 58) (.tmp 61) rfl ((Below.refl _ _).alloc (Nat.le_refl _) _).drew (.slice (some ⟨wA.heap.size, 0, none⟩) 0 0) 0 [] ((frames z0).take cut) rfl (World.ownsRow_made wA #[] 0 (Nat.le_refl _) (by decide) rfl).drew _ _ _ rfl (RFC.out _ ((Below.refl _ _).alloc (Nat.le_refl _) _).drew) HCL.out (fun h => by cases h) (by simp) (by omega) ?_; intro a3 c3 w3 h1 h2 h3; rw [Nat.zero_add, List.nil_append] at h1; rw [Nat.zero_add]; have HO3 : Hid (w3.ownsRow wA.heap.size 5 1 (.slice a3 cut c3) cut (bs ((frames z0).take cut))) := h1; have HB3 : Hid (Below wA.heap.size wA w3) := h2; clear h1 h2 h3) | (refine step_free (w0 := wA) rfl (.tmp 58) (.tmp 61) rfl (((Below.refl _ _).alloc (Nat.le_refl _) _).alloc (by simp) _).drew (.slice (some ⟨wA.heap.size, 0, none⟩) 0 0) 0 [] ((frames z0).take cut) rfl ((World.ownsRow_made wA #[] 0 (Nat.le_refl _) (by decide) rfl).alloc _).drew _ _ _ rfl (RFC.out _ (((Below.refl _ _).alloc (Nat.le_refl _) _).alloc (by simp) _).drew) HCL.out (fun h => by cases h) (by simp) (by omega) ?_; intro a3 c3 w3 h1 h2 h3; rw [Nat.zero_add, List.nil_append] at h1; rw [Nat.zero_add]; have HO3 : Hid (w3.ownsRow wA.heap.size 5 1 (.slice a3 cut c3) cut (bs ((frames z0).take cut))) := h1; have HB3 : Hid (Below wA.heap.size wA w3) := h2; have HX3 : Hid (Row w3 (some ⟨wA.heap.size + 1, 0, none⟩) [xb]) := h3 _ _ (by simp [Value.ownBlock]) (row_second wA _ xb HXB.out); clear h1 h2 h3) | (refine step_free (w0 := wA) rfl (.tmp 58) (.tmp 61) rfl (((Below.refl _ _).alloc (Nat.le_refl _) _).alloc (by simp) _).drew (.slice (some ⟨wA.heap.size + 1, 0, none⟩) 0 0) 0 [] ((frames z0).take cut) rfl (own_second wA _) _ _ _ rfl (RFC.out _ (((Below.refl _ _).alloc (Nat.le_refl _) _).alloc (by simp) _).drew) HCL.out (fun h => by cases h) (by simp) (by omega) ?_; intro a3 c3 w3 h1 h2 h3; rw [Nat.zero_add, List.nil_append] at h1; rw [Nat.zero_add]; have HO3 : Hid (w3.ownsRow wA.heap.size 5 1 (.slice a3 cut c3) cut (bs ((frames z0).take cut))) := h1; have HB3 : Hid (Below wA.heap.size wA w3) := h2; have HX3 : Hid (Row w3 (some ⟨wA.heap.size, 0, none⟩) [xb]) := h3 _ _ (by simp [Value.ownBlock]) (((row_four wA _ [xb] rfl HXB.out).below ((Below.refl _ _).alloc (Nat.le_refl _) _) (Nat.le_refl _)).same rfl); clear h1 h2 h3))
      all_goals
        have HB5 : Hid (Below w.heap.size w w4) := HBC.out.trans (HB4.out.mono HBC.out.size)
        go_wp2_with (first | (have hgo := HO5.out; clear hgo; go_at_call 12; refine (same_true (HO5.out.rows) ((HR0.out.below HB6.out (Nat.le_refl _)).take wh) HWT.out (by omega)).mono ?_; rintro e w7 ⟨rfl, m7, rfl⟩) | (have hgo := HO4.out; clear hgo; go_at_call 9; refine (scan_as a4 c4 ((frames z0).take cut ++ [xb]) (cut + 1) w4 (by rw [List.length_append, HCL.out]; rfl) (own_row HO4.out (HFB.out.app HXB.out)) (own_cap HO4.out) (by omega) HSC.out HWT.out).mono ?_; rintro e w5 ⟨a5, c5, rfl, ho5, hb5⟩; have HO5 : Hid _ := ho5; have HB6 : Hid (Below w.heap.size w w5) := HB5.out.trans (hb5.mono HB5.out.size); clear ho5 hb5))
        go_ret
        exact ⟨rfl, below_drewN HB6.out _⟩

set_option maxRecDepth 100000 in
theorem lifted (os : Os) (started : os.Started) (H : Type) (enc : TypeId × Value → H) :
    ReturnsInHanded {} Try.checked os 5 .any (Rows.frameTornSpec.pre6 enc Try.prog Try.f5 Rows.frameTornRow.domain false) (Rows.frameTornSpec.post enc Try.prog Try.f5 false true false false) := by
  refine returnsInHanded_of_change (C := Try.checked) own started (by kernel_rfl) Try.func5
    (ChangeSpec.witness6 (enc := enc) (C := Try.checked) false ⟨#[], #[.slice none 0 0, .int .i64 0, .int .u8 0], []⟩ 8 (by kernel_rfl) (by kernel_rfl) (by kernel_rfl) (by kernel_rfl)) ?_
  intro W base args ds gs before hval0 hW hcnd _
  have hval : ∀ (j : Nat) t v, Try.f5.params[j]? = some t → args[j]? = some v → Value.okWide Try.prog W .any base t v := hval0
  have hW' := hW
  obtain ⟨p, q, hA0, hV, rfl, hfz, hnd⟩ := hW
  have hA : DataW.TrodAll enc Try.prog W 0 (fun _ => true) true Try.f5.params.toList args.toList ds p := hA0
  rw [Try.params5] at hA hval
  obtain ⟨v0, vs0, d0, ds0, p0, q0, hargs, rfl, rfl, h0, r0⟩ := trodAll_cons hA
  obtain ⟨v1, vs1, d1, ds1, p1, q1, rfl, rfl, rfl, h1, r1⟩ := trodAll_cons r0
  obtain ⟨v2, vs2, d2, ds2, p2, q2, rfl, rfl, rfl, h2, r2⟩ := trodAll_cons r1
  obtain ⟨rfl, rfl, rfl⟩ := trodAll_nil r2
  obtain rfl : args = #[v0, v1, v2] := by cases args; simp_all
  obtain ⟨rfl, rfl⟩ := trodVars_none hV
  obtain ⟨a0, len0, cap0, rfl⟩ := okWide_slice Try.underlying27 (hval 0 27 v0 rfl rfl)
  have k0 := h0
  have lt0 : ∀ x ∈ p0, x.block < W.heap.size := by obtain ⟨m, hm⟩ := k0; exact DataW.trod_lt m _ _ _ hm
  obtain ⟨z0, l0, w0⟩ : ∃ ls : List (List Int), ls.length = len0 ∧ RowsOf W a0 cap0 ls := by
    obtain ⟨fuel, hf⟩ := h0
    exact rows_open Try.underlying27 Try.underlying23 (by kernel_rfl) (by kernel_rfl) hf
  have k1 := h1
  have lt1 : ∀ x ∈ p1, x.block < W.heap.size := by obtain ⟨m, hm⟩ := k1; exact DataW.trod_lt m _ _ _ hm
  obtain ⟨a1, rfl, rfl, rfl, w1⟩ := open_int Try.underlying3 (hval 1 3 v1 rfl rfl) h1
  have k2 := h2
  have lt2 : ∀ x ∈ p2, x.block < W.heap.size := by obtain ⟨m, hm⟩ := k2; exact DataW.trod_lt m _ _ _ hm
  obtain ⟨a2, rfl, rfl, rfl, w2⟩ := open_int Try.underlying5 (hval 2 5 v2 rfl rfl) h2
  clear hA0 hval0
  refine (walk a0 len0 cap0 z0 a1 a2 W l0 w0 w1 w2).mono fun e W' ⟨he, bel⟩ => ?_
  subst he
  exact ⟨_, rfl, _, _, _, [], _, [], hW', trodAll_mk1 (shut_bool Try.underlying4 _), (trodAll_cons_mk (Below.trod laidOut (by kernel_rfl) (of_decide_eq_true (by kernel_rfl)) k0 bel lt0) (trodAll_cons_mk (Below.trod laidOut (by kernel_rfl) (of_decide_eq_true (by kernel_rfl)) k1 bel lt1) (trodAll_cons_mk (Below.trod laidOut (by kernel_rfl) (of_decide_eq_true (by kernel_rfl)) k2 bel lt2) trodAll_mk0))), rfl, bel.frame _, fun h => by cases h⟩

theorem over : Rows.frameTornRow.holds Try.pinned (OpenSpec.ofChange Rows.frameTornSpec) :=
  OpenClaim.holds_of_wide 5 Try.f5 rfl rfl rfl rfl rfl rfl rfl ⟨rfl, rfl, rfl, rfl, rfl⟩ rfl rfl rfl rfl rfl (by kernel_rfl) Try.func5 (by kernel_rfl)
    (of_decide_eq_true (by kernel_rfl)) (by unfold Func.isWrapper; first | (rw [if_pos (by decide +kernel)]; kernel_rfl) | (rw [if_neg (by decide +kernel)]; exact ⟨rfl, rfl⟩))
    (fun os started H enc _ => lifted os started H enc)
theorem proved : Rows.FrameTornSaid := over
#print axioms proved
end Go.Proofs.Ytcagodcmkjdahaa.frameTorn
namespace Go.Proofs.Ytcagodcmkjdahaa
/-- FrameTorn, as given. -/
theorem frameTorn_holds : Rows.FrameTornSaid := frameTorn.proved
end Go.Proofs.Ytcagodcmkjdahaa
