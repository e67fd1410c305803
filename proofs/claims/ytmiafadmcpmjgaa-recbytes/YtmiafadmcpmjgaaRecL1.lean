/-
  The landed rec: putWrites, putParts.
-/
import Derived.Test.YtmiafadmcpmjgaaWw
import Derived.Test.YtmiafadmcpmjgaaRefParts
import Derived.Test.YtmiafadmcpmjgaaWrtBuild
namespace Go.Proofs.Ytmiafadmcpmjgaa
open Go.RowKit
set_option linter.unusedVariables false

theorem take_nextW {α : Type} {l : List α} {i : Nat} {W : α} (h : l[i]? = some W) : l.take (i + 1) = l.take i ++ [W] := by rw [List.take_add_one, h]; rfl
theorem wrtB_len {W : Wrt} (hk : Ky W.k) : (wrtB W).length ≤ W.v.length + 27 := by
  unfold wrtB txtB
  have := Pl.put_length_le 9 (W.v.length : Int)
  simp only [List.length_append, List.length_cons, hk.len]
  unfold Pl.putI
  omega
theorem wrts_len : ∀ {l : List Wrt}, (∀ W ∈ l, Ky W.k ∧ W.v.length ≤ 1000) → (l.flatMap wrtB).length ≤ 1027 * l.length
  | [], _ => by simp
  | W :: r, h => by
    have h1 := wrtB_len (h W (by simp)).1
    have h2 := (h W (by simp)).2
    have h3 := wrts_len (l := r) (fun V hV => h V (by simp [hV]))
    simp only [List.flatMap_cons, List.length_append, List.length_cons]
    omega
/-- What the rounds of putWrites hold. -/
structure PwR (w wr : World) (p : Nat) (zs : List Int) (l : List Wrt) (i : Nat) : Prop where
  ex : ∃ X, Wtr wr p (zs ++ (l.take i).flatMap wrtB) X
  below : Below p w wr
set_option maxHeartbeats 4000000 in
set_option maxRecDepth 8000 in
theorem lputws_any (p : Nat) (zs : List Int) (X : Foot) (a : Option Addr) (N cap : Nat) (l : List Wrt) (w : World) (h : Wtr w p zs X) (hm : zs.length ≤ 100000) (hl : l.length = N) (hN : N ≤ 100) (hv : ∀ W ∈ l, W.v.length ≤ 1000) (hat : ∀ u, Below p w u → WrtsAt u a l) :
    Calls Try.prog 28 #[.pointer (some ⟨p, 0, none⟩), .slice a N cap] w fun e w' => e = .returned (.tuple #[]) ∧ ∃ X', Wtr w' p (zs ++ wrtsB l) X' ∧ Below p w w' := by
  have HL : Hid (l.length = N) := hl
  have HV : Hid (∀ W ∈ l, Ky W.k ∧ W.v.length ≤ 1000) := fun W hW => ⟨((hat w (Below.refl _ _)).oks W hW).key, hv W hW⟩
  have HA : Hid (∀ u, Below p w u → WrtsAt u a l) := hat
  have hpl := Pl.put_length_le 9 (N : Int)
  obtain ⟨ys, hys⟩ : ∃ ys, ys = zs ++ Pl.putI (N : Int) := ⟨_, rfl⟩
  have HY : Hid (ys ++ l.flatMap wrtB = zs ++ wrtsB l) := by show _ = _; rw [hys]; unfold wrtsB; rw [HL.out, List.append_assoc]
  have hyl : ys.length ≤ 100010 := by rw [hys, List.length_append]; unfold Pl.putI; omega
  have HLEN : Hid (∀ i, (ys ++ (l.take i).flatMap wrtB).length ≤ 300000) := fun i => by
    have h1 := wrts_len (l := l.take i) (fun W hW => HV.out W (List.mem_of_mem_take hW))
    have h2 : (l.take i).length ≤ 100 := by rw [List.length_take]; have := HL.out; omega
    rw [List.length_append]; omega
  have CN : Hid (Calls Try.prog 37 #[.pointer (some ⟨p, 0, none⟩), .int .u64 (N : Nat)] w fun e w'' => e = .returned (.tuple #[]) ∧ PwR w w'' p ys l 0) := (wnum_any p zs X N w h (by omega) (by omega) (by omega)).mono (by
    rintro e w' ⟨rfl, X', h1, h2⟩
    refine ⟨rfl, ⟨X', ?_⟩, h.did_below h2⟩
    rw [List.take_zero, List.flatMap_nil, List.append_nil, hys]; exact h1)
  clear h hm hl hv hat hys hyl hpl
  go_enter Try.func28, Try.ntmps28
  go_wp2_with (first | (go_at_call 37; refine CN.out.mono ?_; rintro e w1 ⟨rfl, h1⟩; have H1 : Hid (PwR w w1 p ys l 0) := h1; clear h1))
  go_loopw [13] (fun i wr => ∃ n : Nat, n ≤ N ∧ i = .int .i64 n ∧ Hid (PwR w wr p ys l n)) (fun i _ => N - (intOf i).toNat)
  case atStart => exact ⟨0, Nat.zero_le _, rfl, H1⟩
  case round =>
    obtain ⟨n, hn, rfl, HS⟩ := hrel
    have hn0 : (0 : Int) ≤ (n : Int) := by omega
    by_cases hlt : n < N
    · have h1 : (n : Int) < (N : Int) := by omega
      obtain ⟨W, hW⟩ : ∃ W, l[n]? = some W := ⟨_, List.getElem?_eq_getElem (by rw [HL.out]; exact hlt)⟩
      obtain ⟨b, o, rfl, hwa, hwo⟩ := (HA.out wr HS.out.below).wrt hW
      have HWA : Hid (WrtAt wr b (o + n * 18) W) := hwa
      have HT : Hid ((l.take (n + 1)).flatMap wrtB = (l.take n).flatMap wrtB ++ wrtB W) := by show _ = _; rw [take_nextW hW, List.flatMap_append]; simp
      have KW : Hid (Ky W.k) := hwo.key
      have KV : Hid (Bys W.v ∧ W.v.length ≤ 1000) := ⟨hwo.val, (HV.out W (List.mem_of_getElem? hW)).2⟩
      have hmine := WrtMine.made wr 36 zeroW zeroW_ky
      obtain ⟨hk1, hb1, hz1⟩ := laid_wrt wr 36 (W := W) hwo.key
      rw [zeroW_cells] at hmine hk1 hb1 hz1
      have HMI : Hid _ := hmine
      obtain ⟨U, hU⟩ : ∃ U, U = (wr.alloc (.cells #[.int .u8 0, .int .u8 0, .int .u8 0, .int .u8 0, .int .u8 0, .int .u8 0, .int .u8 0, .int .u8 0, .int .u8 0, .int .u8 0, .int .u8 0, .int .u8 0, .int .u8 0, .int .u8 0, .int .u8 0, .int .u8 0, .string ⟨#[]⟩, .bool false] 36)).setCells wr.heap.size 0 (encW W) := ⟨_, rfl⟩
      rw [← hU] at hk1 hb1
      have HU : Hid (_ = U) := hU.symm
      have HB1 : Hid (Below wr.heap.size wr U) := hb1
      have HK1 : Hid (WrtAt U wr.heap.size 0 W) := hk1.at_
      -- what each call leaves: the writer, and the box
      obtain ⟨X0, hw0⟩ := HS.out.ex
      have HW0 : Hid (Wtr wr p (ys ++ (l.take n).flatMap wrtB) X0) := hw0
      have CK : Hid (Calls Try.prog 65 #[.pointer (some ⟨p, 0, none⟩), kv W.k] U fun e w' => e = .returned (.tuple #[]) ∧ WrtAt w' wr.heap.size 0 W ∧ Below p w w' ∧ ∃ X', Wtr w' p (ys ++ (l.take n).flatMap wrtB ++ W.k) X' ∧ ¬ X' wr.heap.size) := (wkey_any p _ W.k X0 U (HW0.out.past HB1.out) (Nat.le_trans (HLEN.out n) (by omega)) KW.out).mono (by
        rintro e w' ⟨rfl, X', h1, h2⟩
        have hnx : ¬ X0 wr.heap.size := fun e => by have := (HW0.out.lt _ e).2; omega
        have hbk := h2.chg.block wr.heap.size (HK1.out.lt KW.out) hnx
        refine ⟨rfl, ⟨lies_of fun j u hj => (cell_of_block hbk _).1.trans (HK1.out.lies.at j u hj)⟩, (HS.out.below.trans (HB1.out.mono (Nat.le_of_lt HW0.out.hi))).trans ((HW0.out.past HB1.out).did_below h2), X', h1, fun e => ?_⟩
        rcases (h2.new _ e).1 with e | e
        · exact hnx e
        · have := HK1.out.lt KW.out; omega)
      have CF : Hid (∀ u X1, WrtAt u wr.heap.size 0 W → Below p w u → Wtr u p (ys ++ (l.take n).flatMap wrtB ++ W.k) X1 → ¬ X1 wr.heap.size → Calls Try.prog 40 #[.pointer (some ⟨p, 0, none⟩), .bool W.g] u fun e w' => e = .returned (.tuple #[]) ∧ WrtAt w' wr.heap.size 0 W ∧ Below p w w' ∧ ∃ X', Wtr w' p (ys ++ (l.take n).flatMap wrtB ++ W.k ++ [flagB W.g]) X') := fun u X1 hwu hbu hx hnx => (wflag_any p _ X1 W.g u hx (by have := HLEN.out n; rw [List.length_append, KW.out.len]; omega)).mono (by
        rintro e w' ⟨rfl, X', h1, h2⟩
        have hbk := h2.chg.block wr.heap.size (hwu.lt KW.out) hnx
        exact ⟨rfl, ⟨lies_of fun j u hj => (cell_of_block hbk _).1.trans (hwu.lies.at j u hj)⟩, hbu.trans (hx.did_below h2), X', h1⟩)
      have CT : Hid (∀ u X1, Below p w u → Wtr u p (ys ++ (l.take n).flatMap wrtB ++ W.k ++ [flagB W.g]) X1 → Calls Try.prog 66 #[.pointer (some ⟨p, 0, none⟩), .string (strOfNums W.v)] u fun e w' => e = .returned (.tuple #[]) ∧ PwR w w' p ys l (n + 1)) := fun u X1 hbu hx => (wtext_any p _ W.v X1 u hx (by have := HLEN.out n; rw [List.length_append, List.length_append, KW.out.len]; simp only [List.length_singleton]; omega) KV.out.1 (by have := KV.out.2; omega)).mono (by
        rintro e w' ⟨rfl, X', h1, h2⟩
        refine ⟨rfl, ⟨X', ?_⟩, hbu.trans h2⟩
        rw [HT.out]
        have e2 : ys ++ (l.take n).flatMap wrtB ++ W.k ++ [flagB W.g] ++ txtB W.v = ys ++ ((l.take n).flatMap wrtB ++ wrtB W) := by unfold wrtB; simp [List.append_assoc]
        rw [← e2]; exact h1)
      clear hmine hk1 hb1 hz1 hwa hwo hW hU hw0
      go_wp2_with (first | (have hgo := HWA.out; clear hgo; refine wpList_load_wrt 16 (by rfl) (by rfl) _ (by rfl) b (o + n * 18) (by rfl) W KW.out HWA.out ?_) | (have hgo := HMI.out; clear hgo; refine wpList_store_wrt (.tmp 5) (by rfl) _ (by rfl) wr.heap.size 0 zeroW W (by rfl) (by rfl) KW.out HMI.out ?_; intro u2 hu; obtain rfl : U = u2 := by { rw [← HU.out]; exact hu.symm }; clear hu HMI HWA HU) | (have hgo := HK1.out; clear hgo; refine wpList_load_key (by rfl) _ (by rfl) wr.heap.size 0 (by rfl) W.k KW.out (HK1.out.key KW.out) ?_) | (have hgo := HK1.out; clear hgo; go_at_call 65; refine CK.out.mono ?_; rintro e w2 ⟨rfl, k1, k2, X1, k3, k4⟩; have HQ : Hid (WrtAt w2 wr.heap.size 0 W ∧ Below p w w2 ∧ Wtr w2 p (ys ++ (l.take n).flatMap wrtB ++ W.k) X1 ∧ ¬ X1 wr.heap.size) := ⟨k1, k2, k3, k4⟩; have c17 := (k1.cells KW.out).2; clear k1 k2 k3 k4 HK1) | (have hgo := HQ.out; clear hgo; go_at_call 40; refine (CF.out _ X1 HQ.out.1 HQ.out.2.1 HQ.out.2.2.1 HQ.out.2.2.2).mono ?_; rintro e w3 ⟨rfl, k1, k2, X2, k3⟩; have HQ3 : Hid (Below p w w3 ∧ Wtr w3 p (ys ++ (l.take n).flatMap wrtB ++ W.k ++ [flagB W.g]) X2) := ⟨k2, k3⟩; have c16 := (k1.cells KW.out).1; clear k1 k2 k3 HQ) | (have hgo := HQ3.out; clear hgo; go_at_call 66; refine (CT.out _ X2 HQ3.out.1 HQ3.out.2).mono ?_; rintro e w4 ⟨rfl, k1⟩; have H4 : Hid (PwR w w4 p ys l (n + 1)) := k1; clear k1))
      go_roundw
      case rel => exact ⟨n + 1, by omega, by go_num, H4⟩
      case measure => simp [intOf]; omega
    · obtain rfl : n = N := by omega
      have HE : Hid (∃ X', Wtr wr p (zs ++ wrtsB l) X') := by
        have := HS.out.ex
        rw [List.take_of_length_le (by rw [HL.out]; exact Nat.le_refl _), HY.out] at this
        exact this
      have HB : Hid (Below p w wr) := HS.out.below
      clear HS
      go_wp2
      go_end0
      exact ⟨rfl, HE.out.choose, HE.out.choose_spec, HB.out⟩
theorem ints_len : ∀ (l : List Int), (l.flatMap Pl.putI).length ≤ 10 * l.length
  | [] => by simp
  | x :: r => by
    have h1 := Pl.put_length_le 9 x
    have h3 := ints_len r
    simp only [List.flatMap_cons, List.length_append, List.length_cons]
    unfold Pl.putI at *
    omega
/-- What the rounds of putParts hold. -/
structure PpR (w wr : World) (p : Nat) (zs : List Int) (l : List Int) (i : Nat) : Prop where
  ex : ∃ X, Wtr wr p (zs ++ (l.take i).flatMap Pl.putI) X
  below : Below p w wr
set_option maxHeartbeats 4000000 in
set_option maxRecDepth 8000 in
theorem lputps_any (p : Nat) (zs : List Int) (X : Foot) (a : Option Addr) (N cap : Nat) (l : List Int) (w : World) (h : Wtr w p zs X) (hm : zs.length ≤ 100000) (hl : l.length = N) (hN : N ≤ 100) (hv : ∀ z ∈ l, 0 ≤ z ∧ z ≤ 7) (hat : ∀ u, Below p w u → IntsAt u a l) :
    Calls Try.prog 41 #[.pointer (some ⟨p, 0, none⟩), .slice a N cap] w fun e w' => e = .returned (.tuple #[]) ∧ ∃ X', Wtr w' p (zs ++ partsL l) X' ∧ Below p w w' := by
  have HL : Hid (l.length = N) := hl
  have HV : Hid (∀ z ∈ l, 0 ≤ z ∧ z ≤ 7) := hv
  have HA : Hid (∀ u, Below p w u → IntsAt u a l) := hat
  have hpl := Pl.put_length_le 9 (N : Int)
  obtain ⟨ys, hys⟩ : ∃ ys, ys = zs ++ Pl.putI (N : Int) := ⟨_, rfl⟩
  have HY : Hid (ys ++ l.flatMap Pl.putI = zs ++ partsL l) := by show _ = _; rw [hys]; unfold partsL; rw [HL.out, List.append_assoc]
  have hyl : ys.length ≤ 100010 := by rw [hys, List.length_append]; unfold Pl.putI; omega
  have HLEN : Hid (∀ i, (ys ++ (l.take i).flatMap Pl.putI).length ≤ 300000) := fun i => by
    have h1 := ints_len (l.take i)
    have h2 : (l.take i).length ≤ 100 := by rw [List.length_take]; have := HL.out; omega
    rw [List.length_append]; omega
  have CN : Hid (Calls Try.prog 37 #[.pointer (some ⟨p, 0, none⟩), .int .u64 (N : Nat)] w fun e w'' => e = .returned (.tuple #[]) ∧ PpR w w'' p ys l 0) := (wnum_any p zs X N w h (by omega) (by omega) (by omega)).mono (by
    rintro e w' ⟨rfl, X', h1, h2⟩
    refine ⟨rfl, ⟨X', ?_⟩, h.did_below h2⟩
    rw [List.take_zero, List.flatMap_nil, List.append_nil, hys]; exact h1)
  clear h hm hl hv hat hys hyl hpl
  go_enter Try.func41, Try.ntmps41
  go_wp2_with (first | (go_at_call 37; refine CN.out.mono ?_; rintro e w1 ⟨rfl, h1⟩; have H1 : Hid (PpR w w1 p ys l 0) := h1; clear h1))
  go_loopw [13] (fun i wr => ∃ n : Nat, n ≤ N ∧ i = .int .i64 n ∧ Hid (PpR w wr p ys l n)) (fun i _ => N - (intOf i).toNat)
  case atStart => exact ⟨0, Nat.zero_le _, rfl, H1⟩
  case round =>
    obtain ⟨n, hn, rfl, HS⟩ := hrel
    have hn0 : (0 : Int) ≤ (n : Int) := by omega
    by_cases hlt : n < N
    · have h1 : (n : Int) < (N : Int) := by omega
      have hnl : n < l.length := by rw [HL.out]; exact hlt
      have hW : l[n]? = some (l.getD n 0) := by simp [List.getD, hnl]
      obtain ⟨b, o, rfl, hc⟩ : ∃ b off, a = some ⟨b, off, none⟩ ∧ ∀ j, j < l.length → wr.cell? ⟨b, off + j, none⟩ = some (.int .i64 (l.getD j 0)) := by
        rcases (HA.out wr HS.out.below).cells with e | e
        · rw [e] at hnl; simp at hnl
        · exact e
      have hcn := hc n hnl
      obtain ⟨x, hx⟩ : ∃ x, x = l.getD n 0 := ⟨_, rfl⟩
      rw [← hx] at hcn hW
      have hxb := HV.out x (List.mem_of_getElem? hW)
      have hx0 : 0 ≤ x := hxb.1
      have hx1 : x ≤ 7 := hxb.2
      have hwx : IntKind.u64.wrap x = x := by rw [IntKind.wrap_u64]; omega
      have HT : Hid ((l.take (n + 1)).flatMap Pl.putI = (l.take n).flatMap Pl.putI ++ Pl.putI x) := by show _ = _; rw [take_nextW hW, List.flatMap_append]; simp
      obtain ⟨X0, hw0⟩ := HS.out.ex
      have CX : Hid (Calls Try.prog 37 #[.pointer (some ⟨p, 0, none⟩), .int .u64 x] wr fun e w' => e = .returned (.tuple #[]) ∧ PpR w w' p ys l (n + 1)) := (wnum_any p _ X0 x wr hw0 (Nat.le_trans (HLEN.out n) (by omega)) (by omega) (by omega)).mono (by
        rintro e w' ⟨rfl, X', h1, h2⟩
        refine ⟨rfl, ⟨X', ?_⟩, HS.out.below.trans (hw0.did_below h2)⟩
        rw [HT.out, ← List.append_assoc]; exact h1)
      clear hW hx hw0 hxb hc hnl
      go_wp2_with (first | (go_at_call 37; refine CX.out.mono ?_; rintro e w2 ⟨rfl, h2⟩; have H4 : Hid (PpR w w2 p ys l (n + 1)) := h2; clear h2))
      go_roundw
      case rel => exact ⟨n + 1, by omega, by go_num, H4⟩
      case measure => simp [intOf]; omega
    · obtain rfl : n = N := by omega
      have HE : Hid (∃ X', Wtr wr p (zs ++ partsL l) X') := by
        have := HS.out.ex
        rw [List.take_of_length_le (by rw [HL.out]; exact Nat.le_refl _), HY.out] at this
        exact this
      have HB : Hid (Below p w wr) := HS.out.below
      clear HS
      go_wp2
      go_end0
      exact ⟨rfl, HE.out.choose, HE.out.choose_spec, HB.out⟩
end Go.Proofs.Ytmiafadmcpmjgaa
