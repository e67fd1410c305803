/-
  What the document writes: a text behind other bytes.
  What the document reads next: writes: what its rounds hold.
  What package bits answers, for every input: Zig, Zag, goodEnd, Len, Get, Put.
-/
import Derived.Test.YtpnjcflfnoamoaaGreatAu25
import Derived.Lib.AppendStr
import Derived.Test.YtpnjcflfnoamoaaGreatAu31
import Derived.Test.YtpnjcflfnoamoaaGreatAu24
import Derived.Test.YtpnjcflfnoamoaaGreatAu22
namespace Go.Proofs.YtpnjcflfnoamoaaGreat
open Go.RowKit
set_option linter.unusedVariables false

theorem strs_cells {l : List Int} (h : ∀ z ∈ l, 0 ≤ z ∧ z ≤ 255) : Lib.strCells (strOfNums l) = bs l := str_cellsR h
set_option maxRecDepth 8000 in
theorem rtxt14_any (a : Option Addr) (cap len : Nat) (zs l : List Int) (w : World) (hr : Row w a zs) (hl : zs.length = len) (hm : len ≤ 1000000) (hn : a = none → len = 0 ∧ cap = 0) (hb : ∀ z ∈ l, 0 ≤ z ∧ z ≤ 255) (hlm : l.length ≤ 1000000) :
    Calls Tryz.prog 30 #[.slice a len cap, .string (strOfNums l)] w fun e w' => ∃ a' m c', e = .returned (.slice a' m c') ∧ m = (zs ++ txtB l).length ∧ w'.ownsRow w.heap.size 5 1 (.slice a' m c') m (bs (zs ++ txtB l)) ∧ Below w.heap.size w w' := by
  have HZ : Hid ((strOfNums l).size = l.length) := strOfNums_size l
  obtain ⟨s, hs⟩ : ∃ s, s = strOfNums l := ⟨_, rfl⟩
  have HS : Hid (Lib.strCells s = bs l) := hs ▸ strs_cells hb
  rw [← hs] at HZ ⊢
  have hsz : s.size ≤ 1000000 := by rw [HZ.out]; exact hlm
  have CN : Hid (Calls Tryz.prog 26 #[.slice a len cap, .int .u64 (s.size : Nat)] w fun e w'' => ∃ a' m c', e = .returned (.slice a' m c') ∧ m = (zs ++ Pl.putI s.size).length ∧ w''.ownsRow w.heap.size 5 1 (.slice a' m c') m (bs (zs ++ Pl.putI s.size)) ∧ Below w.heap.size w w'') := rnum14_any a cap len zs s.size w hr hl hm hn (by omega) (by omega)
  have hmx : (zs ++ Pl.putI s.size).length ≤ 1000010 := by have := Pl.put_length_le 9 (s.size : Int); rw [List.length_append]; unfold Pl.putI; omega
  have HE : Hid (zs ++ Pl.putI s.size ++ l = zs ++ txtB l ∧ (zs ++ txtB l).length = (zs ++ Pl.putI s.size).length + s.size) := by
    have e : zs ++ txtB l = zs ++ Pl.putI s.size ++ l := by unfold txtB; rw [HZ.out, List.append_assoc]
    exact ⟨e.symm, by rw [e]; simp only [List.length_append, HZ.out]⟩
  obtain ⟨M, hM⟩ : ∃ M, M = (zs ++ Pl.putI s.size).length := ⟨_, rfl⟩
  rw [← hM] at CN hmx HE
  obtain ⟨i0, hi, hz0, hz1, hz2⟩ := info_parts info5
  have HI : Hid (Tryz.prog.info? 5 = some i0) := hi
  clear hr hl hm hn hs hM hi hb hlm
  go_enter Tryz.func30, Tryz.ntmps30
  go_wp2_with (first | (have hgo := HQ.out; clear hgo; at_builtin; refine Lib.wpList_append_own_string _ rfl (.tmp 9) (.tmp 10) 23 9 rfl w.heap.size 5 i0 Tryz.underlying23 Tryz.underlying9 HI.out hz0 hz1 hz2 _ M (bs (zs ++ Pl.putI s.size)) rfl HQ.out.1 s rfl (by unfold maxLen; omega) (by omega) HQ.out.2.size ?_; intro v6 w6 o6 g6 _; obtain ⟨a6, c6, rfl⟩ := own_form o6; have H6 : Hid (w6.ownsRow w.heap.size 5 1 (.slice a6 (M + s.size) c6) (M + s.size) (bs (zs ++ txtB l)) ∧ Below w.heap.size w w6) := ⟨by rw [HS.out, ← bs_app, HE.out.1] at o6; exact o6, HQ.out.2.grown g6 HQ.out.2.size (fun k hk => (HQ.out.1.lt k hk).1)⟩; clear o6 g6) | (go_at_call 26; refine CN.out.mono ?_; rintro e w3 ⟨a', m, c', rfl, h2, h3, h4⟩; obtain rfl := h2.symm; have HQ : Hid (w3.ownsRow w.heap.size 5 1 (.slice a' M c') M (bs (zs ++ Pl.putI s.size)) ∧ Below w.heap.size w w3) := ⟨h3, h4⟩; clear h3 h4))
  go_returns
  exact ⟨a6, M + s.size, c6, rfl, HE.out.2.symm, H6.out.1, H6.out.2⟩
end Go.Proofs.YtpnjcflfnoamoaaGreat

namespace Go.Proofs.YtpnjcflfnoamoaaGreat
open Go.RowKit
set_option linter.unusedVariables false

theorem owns_stay {u u' : World} {base e size n : Nat} {v : Value} {xs : List Value} (h : u.ownsRow base e size v n xs) (hk : ∀ q, base ≤ q → q < u.heap.size → u'.heap[q]? = u.heap[q]?) : u'.ownsRow base e size v n xs := by
  refine ⟨h.1, h.2.imp id ?_⟩
  rintro ⟨g, cap, cur, rfl, h1, h2, h3⟩
  refine ⟨g, cap, cur, rfl, h1, (hk g h1 ?_).trans h2, h3⟩
  exact (h.lt g rfl).2
theorem WrtMine.chg {w w' : World} {b o : Nat} {W : Wrt} {X : Foot} (h : WrtMine w b o W) (hc : Chg w w' X) (hX : ¬ X b) : WrtMine w' b o W :=
  have hb := hc.block b (h.at_.lt h.key) hX
  ⟨⟨lies_of fun j u hj => (cell_of_block hb _).1.trans (h.at_.lies.at j u hj)⟩, fun i hi => (cell_of_block hb _).2.trans (h.free i hi), h.key⟩
theorem WrtMine.setV {w : World} {q : Nat} {W : Wrt} (h : WrtMine w q 0 W) (v : List Int) : WrtMine (w.setCell ⟨q, 16, none⟩ (.string (strOfNums v))) q 0 ⟨W.k, v, W.g⟩ := by
  have hk := kc_len h.key
  refine ⟨⟨lies_of fun j u hj => ?_⟩, fun i hi => by rw [World.frozen?_setCell]; exact h.free i hi, h.key⟩
  rw [Nat.zero_add]
  have hj' : (kc W.k ++ [Value.string (strOfNums v), Value.bool W.g])[j]? = some u := hj
  clear hj
  by_cases e : j = 16
  · subst e
    have hc := (h.at_.cells h.key).1
    rw [Nat.zero_add] at hc
    rw [World.cell?_setCell_same _ _ _ hc]
    rw [List.getElem?_append_right (by omega), hk] at hj'
    simpa using hj'
  · rw [set_off _ _ _ _ _ e]
    have h2 : (encW W)[j]? = some u := by
      unfold encW
      by_cases h16 : j < 16
      · rw [List.getElem?_append_left (by omega)] at hj' ⊢; exact hj'
      · rw [List.getElem?_append_right (by omega), hk] at hj' ⊢
        obtain ⟨m, hm⟩ : ∃ m, j - 16 = m + 1 := ⟨j - 17, by omega⟩
        rw [hm] at hj' ⊢
        exact hj'
    have := h.at_.lies.at j u h2
    rwa [Nat.zero_add] at this
/-- What the rounds hold. -/
structure WrsL (w wr : World) (g : Nat) (a : Option Addr) (cap : Nat) (zs : List Int) (o0 : Option (List Int)) (N : Nat) (v : Value) (m : Nat) : Prop where
  ex : ∃ (k : Nat) (b : Bool) (done : List Wrt), Rd wr g a cap zs k b ∧ Chg w wr (fun j => j = g) ∧ wr.ownsRow w.heap.size 95 18 v m (done.flatMap encW) ∧ (∀ W ∈ done, WrtOk W) ∧ done.length = m ∧ ∀ o2 L, Rds (manyP writeP (N - m)) (stR zs k b) o2 L → Rds (manyP writeP N) o0 o2 (done ++ L)
theorem many_seq {α : Type} {p : Pr α} {n : Nat} {o o1 o2 : Option (List Int)} {x : α} {L : List α} (h1 : Rds p o o1 x) (h2 : Rds (manyP p n) o1 o2 L) : Rds (manyP p (n + 1)) o o2 (x :: L) :=
  h1.seq (h2.seq (.ret _ _))
theorem WrsL.start {w wr : World} {g : Nat} {a : Option Addr} {cap : Nat} {zs : List Int} {k : Nat} {b : Bool} (N : Nat) (h : Rd wr g a cap zs k b) (hc : Chg w wr (fun j => j = g)) : WrsL w wr g a cap zs (stR zs k b) N (.slice none 0 0) 0 :=
  ⟨k, b, [], h, hc, ⟨rfl, .inl ⟨rfl, rfl⟩⟩, fun W hW => by simp at hW, rfl, fun o2 L h => h⟩
/-- What a round lays. -/
theorem WrsL.next {w w6 : World} {g : Nat} {a : Option Addr} {cap : Nat} {zs : List Int} {o0 : Option (List Int)} {N m k k' : Nat} {b b' : Bool} {done : List Wrt} {W : Wrt} {ax : Option Addr} {cx : Nat}
    (hf : ∀ o2 L, Rds (manyP writeP (N - m)) (stR zs k b) o2 L → Rds (manyP writeP N) o0 o2 (done ++ L)) (hm : m < N) (hd : done.length = m) (hok : ∀ X ∈ done, WrtOk X) (hW : WrtOk W)
    (R : Rd w6 g a cap zs k' b') (C : Chg w w6 (fun j => j = g)) (hown : w6.ownsRow w.heap.size 95 18 (.slice ax (m + 1) cx) (m + 1) (done.flatMap encW ++ encW W)) (D : Rds writeP (stR zs k b) (stR zs k' b') W) : WrsL w w6 g a cap zs o0 N (.slice ax (m + 1) cx) (m + 1) := by
  refine ⟨k', b', done ++ [W], R, C, by simpa using hown, fun X hX => ?_, by simp [hd], fun o2 L h => ?_⟩
  · rcases List.mem_append.1 hX with h | h
    · exact hok X h
    · simp at h; rw [h]; exact hW
  · have e : N - m = (N - (m + 1)) + 1 := by omega
    rw [List.append_assoc]
    refine hf o2 _ ?_
    rw [e]
    exact many_seq D h
end Go.Proofs.YtpnjcflfnoamoaaGreat

namespace Go.Proofs.YtpnjcflfnoamoaaGreat
open Go.RowKit
set_option linter.unusedVariables false

theorem good_any (c i : Int) (w : World) :
    Calls Tryz.prog 129 #[.int .u8 c, .int .i64 i] w fun e w' => e = .returned (.bool (Pl.goodB c i)) ∧ w' = w := by
  by_cases h0 : 0 < i
  · by_cases h1 : c = 0
    · have K : Hid (Pl.goodB c i = false) := by simp [Hid, Pl.goodB, h0, h1]
      have h2 : (c == 0) = true := by simp [h1]
      go_enter Tryz.func129, Tryz.ntmps129
      go_wp2
      go_ret
      exact ⟨by rw [K.out]; rfl, rfl⟩
    · have h2 : (c == 0) = false := by simp [h1]
      by_cases h3 : i < 9
      · have K : Hid (Pl.goodB c i = true) := by simp [Hid, Pl.goodB, h1, h3]
        go_enter Tryz.func129, Tryz.ntmps129
        go_wp2
        go_ret
        exact ⟨by rw [K.out]; rfl, rfl⟩
      · have K : Hid (Pl.goodB c i = (c == 1)) := by simp [Hid, Pl.goodB, h1, h3]
        have h4 : decide (i < 9) = false := by simpa using h3
        go_enter Tryz.func129, Tryz.ntmps129
        go_wp2
        go_ret
        exact ⟨by rw [K.out]; simp, rfl⟩
  · have K : Hid (Pl.goodB c i = true) := by have : i < 9 := by omega
                                             simp [Hid, Pl.goodB, h0, this]
    have h3 : i < 9 := by omega
    go_enter Tryz.func129, Tryz.ntmps129
    go_wp2
    go_ret
    exact ⟨by rw [K.out]; rfl, rfl⟩
theorem len_any (v : Int) (w : World) (h0 : 0 ≤ v) (h1 : v ≤ 18446744073709551615) :
    Calls Tryz.prog 90 #[.int .u64 v] w fun e w' => e = .returned (.int .i64 (Pl.putI v).length) ∧ w' = w := by
  have hl := Pl.put_length_le 9 v
  go_enter Tryz.func90, Tryz.ntmps90
  go_wp2
  go_loop [0, 3] (fun x n => ∃ (f : Nat) (X : Int) (k : Nat), x = .int .u64 X ∧ n = .int .i64 k ∧ Pl.Fits f X ∧ k + (Pl.putF f X).length = (Pl.putI v).length + 1) (fun x _ => (intOf x).toNat)
  case atStart => exact ⟨9, v, 1, rfl, rfl, Pl.fits_start v h0 h1, by unfold Pl.putI; omega⟩
  case round =>
    obtain ⟨f, X, k, rfl, rfl, hf, hk⟩ := hrel
    have hX : 0 ≤ X := hf.1
    have hp := Pl.put_length_pos f X
    have hl' : (Pl.putI v).length ≤ 10 := hl
    by_cases hlt : X < 128
    · have K : Hid ((Pl.putI v).length = k) := by rw [Pl.put_last hlt] at hk; simp at hk; exact hk.symm
      clear hk
      go_wp2
      go_ret
      exact ⟨by rw [K.out]; rfl, rfl⟩
    · cases f with
      | zero => exact absurd (Pl.fits_zero hf) hlt
      | succ f =>
        have K : Hid (k + 1 + (Pl.putF f (X / 128)).length = (Pl.putI v).length + 1) := by
          rw [Pl.put_more (by omega)] at hk; simp at hk; show _ = _; omega
        have F := Pl.fits_step hf
        have hkb : k ≤ 10 := by omega
        clear hk
        go_wp2
        go_round
        case rel => exact ⟨f, X / 128, k + 1, rfl, by go_num, F, K.out⟩
        case measure => simp [intOf]; omega
theorem get_any (a : Option Addr) (cap : Nat) (zs : List Int) (w : World) (hrow : Row w a zs) (hmax : zs.length ≤ 140737488351232) :
    Calls Tryz.prog 107 #[.slice a zs.length cap] w fun e w' =>
      e = .returned (.tuple #[.int .u64 (Pl.getI zs).1, .int .i64 (Pl.getI zs).2.1, .int .i64 (Pl.getI zs).2.2]) ∧ w' = w := by
  obtain ⟨hbytes, hcells⟩ := hrow
  rcases hcells with rfl | ⟨b, off, rfl, hc⟩
  · clear hbytes hmax
    go_enter Tryz.func107, Tryz.ntmps107
    go_wp2
    refine wp_loop_rounds 1 ?_
    rw [rounds_succ]
    go_wp2
    go_ret3
    exact ⟨rfl, rfl⟩
  · obtain ⟨len, hlen⟩ : ∃ len, len = zs.length := ⟨_, rfl⟩
    rw [← hlen] at hc hmax ⊢
    go_enter Tryz.func107, Tryz.ntmps107
    go_wp2
    go_loop [2, 5] (fun x i => ∃ (k : Nat) (X : Int), k ≤ len ∧ k ≤ 10 ∧ i = .int .i64 k ∧ x = .int .u64 X ∧ (k ≤ 9 → 0 ≤ X ∧ X < 2 ^ (7 * k)) ∧ Pl.getI zs = Pl.getF (10 - k) X k (zs.drop k)) (fun _ i => len - (intOf i).toNat)
    case atStart => exact ⟨0, 0, by omega, by omega, rfl, rfl, fun _ => by simp, rfl⟩
    case round =>
      obtain ⟨k, X, hk, hk10, rfl, rfl, hX, hd⟩ := hrel
      have HD : Hid (Pl.getI zs = Pl.getF (10 - k) X k (zs.drop k)) := hd
      clear hd
      by_cases hlt : k < len ∧ k < 10
      · obtain ⟨hlt, h10⟩ := hlt
        have hcell : w.cell? ⟨b, off + k, none⟩ = some (.int .u8 (zs.getD k 0)) := hc k hlt
        have hrk := at_byte hbytes k
        have hmask := Pl.mask127 hrk.1 hrk.2
        have HDR : Hid (zs.drop k = zs[k]?.getD 0 :: zs.drop (k + 1)) := drop_at zs k (by omega)
        have HF : Hid (10 - k = (9 - k) + 1) := by show _ = _; omega
        have HL : Hid (len = zs.length) := hlen
        clear hlen hbytes hc
        go_wp2_with (go_at_call 129; refine (good_any _ _ _).mono ?_; rintro e w' ⟨rfl, rfl⟩)
        · have hb : (!Pl.goodB (zs[k]?.getD 0) k) = true := by assumption
          have hlt' : zs[k]?.getD 0 < 128 := by assumption
          go_ret3
          exact ⟨ret3 (step_bad HD.out HDR.out HF.out hlt' hb).symm, rfl⟩
        · have hb : (!Pl.goodB (zs[k]?.getD 0) k) = false := by assumption
          have hlt' : zs[k]?.getD 0 < 128 := by assumption
          go_ret3
          exact ⟨ret3 (step_good HD.out HDR.out HF.out hX h10 hrk.1 hlt' (by simpa using hb)).symm, rfl⟩
        · have hge : 128 ≤ zs[k]?.getD 0 := by assumption
          have R := step_more HD.out HDR.out HF.out hX h10 hrk.1 hrk.2 hge
          go_round
          case rel => exact ⟨k + 1, _, by omega, by omega, by go_num, rfl, R.1, R.2⟩
          case measure => simp [intOf]; omega
      · have HO : Hid (Pl.getI zs = (0, 0, 3)) := step_out HD.out hlen hlt
        clear HD hX hc hbytes hlen
        by_cases h10 : k < 10
        · have hkl : k = len := by omega
          subst hkl
          clear hlt
          go_wp2
          go_ret3
          exact ⟨ret3 HO.out.symm, rfl⟩
        · have hkl : k = 10 := by omega
          subst hkl
          clear hlt
          go_wp2
          all_goals
            go_ret3
            exact ⟨ret3 HO.out.symm, rfl⟩
/-- One byte more, within the room. -/
theorem own_more {w w1 w2 : World} {g len cap : Nat} {zs P : List Int} {c : Int} {o : Obj} (hb : Below g w w1) (hs : g < w1.heap.size)
    (hown : w2.ownsRow g 5 1 (.slice (some ⟨g, 0, none⟩) (len + P.length + 1) cap) (len + P.length + 1) (bs (zs ++ P) ++ [.int .u8 c])) (hg : (w1.alloc o).grownBy w2 (some g)) :
    w2.ownsRow g 5 1 (.slice (some ⟨g, 0, none⟩) (len + (P ++ [c]).length) cap) (len + (P ++ [c]).length) (bs (zs ++ (P ++ [c]))) ∧ Below g w w2 ∧ g < w2.heap.size := by
  have e : len + (P ++ [c]).length = len + P.length + 1 := by simp; omega
  have e2 : bs (zs ++ (P ++ [c])) = bs (zs ++ P) ++ [.int .u8 c] := by simp [bs]
  have hs2 := hg.size
  simp at hs2
  rw [e, e2]
  exact ⟨hown, (hb.alloc (by omega) o).grown hg (by simp; omega) (fun k hk => by simp at hk; omega), by omega⟩
set_option maxRecDepth 8000 in
theorem put_any (a : Option Addr) (cap : Nat) (zs : List Int) (v : Int) (w : World) (hrow : Row w a zs) (hmax : zs.length ≤ 140737488351232) (h0 : 0 ≤ v) (h1 : v ≤ 18446744073709551615) :
    Calls Tryz.prog 59 #[.slice a zs.length cap, .int .u64 v] w fun e w' =>
      e = .returned (.slice (some ⟨w.heap.size, 0, none⟩) (zs.length + (Pl.putI v).length) (zs.length + (Pl.putI v).length)) ∧
      w'.ownsRow w.heap.size 5 1 (.slice (some ⟨w.heap.size, 0, none⟩) (zs.length + (Pl.putI v).length) (zs.length + (Pl.putI v).length)) (zs.length + (Pl.putI v).length) (bs (zs ++ Pl.putI v)) ∧
      Below w.heap.size w w' := by
  obtain ⟨i0, hi, hz0, hz1, hz2⟩ := info_parts info5
  have hl : (Pl.putI v).length ≤ 10 := Pl.put_length_le 9 v
  have hp : 1 ≤ (Pl.putI v).length := Pl.put_length_pos 9 v
  obtain ⟨n, hn⟩ : ∃ n, (Pl.putI v).length = n := ⟨_, rfl⟩
  have hlen := len_any v
  rw [hn] at hl hp hlen ⊢
  obtain ⟨len, hzl⟩ : ∃ len, zs.length = len := ⟨_, rfl⟩
  rw [hzl] at hmax ⊢
  have hmk := fun w => run_make (P := Tryz.prog) w 23 5 i0 (.int .u8 0) Tryz.underlying23 hi hz0 .i64 .i64 (len : Int) ((len : Int) + (n : Int)) (by omega) (by omega) (by rw [hz2]; omega) (by omega)
  rw [hz1] at hmk
  have e1 : ((len : Int)).toNat = len := by omega
  have e2 : ((len : Int) + (n : Int)).toNat * 1 = len + n := by omega
  have e3 : ((len : Int) + (n : Int)).toNat = len + n := by omega
  rw [e1, e2, e3] at hmk
  obtain ⟨Z, hZ⟩ : ∃ Z, Z = madeCells (Value.int IntKind.u8 0).cells (len + n) := ⟨_, rfl⟩
  rw [← hZ] at hmk
  have hZs : Z.size = len + n := by rw [hZ, size_madeCells]
  clear hZ e1 e2 e3
  have HN : Hid ((Pl.putI v).length = n) := hn
  have HZL : Hid (zs.length = len) := hzl
  have HZS : Hid (Z.size = len + n) := hZs
  obtain ⟨w1, hcp, hown, hB1, hs1⟩ := copy_row w a cap zs Z len n hrow hzl hZs (by unfold maxLen; omega)
  have HOWN : Hid _ := hown
  have HB1 : Hid _ := hB1
  clear hown hB1
  have HLEN := fun w => (hlen w h0 h1)
  clear hn hzl hZs hrow hlen
  go_enter Tryz.func59, Tryz.ntmps59
  go_wp2_with (first | (go_at_call 90; refine (HLEN _).mono ?_; rintro e w' ⟨rfl, hw⟩; obtain rfl := hw.symm; clear hw))
  clear hmk hcp HLEN
  go_loopw [1, 5] (fun x out wr => ∃ (f : Nat) (X : Int) (P : List Int), x = .int .u64 X ∧ Pl.Fits f X ∧ Hid (P ++ Pl.putF f X = Pl.putI v) ∧ out = .slice (some ⟨w.heap.size, 0, none⟩) (len + P.length) (len + n) ∧
      wr.ownsRow w.heap.size 5 1 (.slice (some ⟨w.heap.size, 0, none⟩) (len + P.length) (len + n)) (len + P.length) (bs (zs ++ P)) ∧ Below w.heap.size w wr ∧ w.heap.size < wr.heap.size) (fun x _ _ => (intOf x).toNat)
  case atStart => exact ⟨9, v, [], rfl, Pl.fits_start v h0 h1, rfl, rfl, by rw [List.append_nil]; exact HOWN.out, HB1.out, hs1⟩
  case round =>
    obtain ⟨f, X, P, rfl, hf, HP, rfl, hown, hB, hsz⟩ := hrel
    have hX : 0 ≤ X := hf.1
    have hPl : P.length + (Pl.putF f X).length = n := by have := congrArg List.length HP.out; rw [List.length_append, HN.out] at this; exact this
    have hp1 := Pl.put_length_pos f X
    have hroom : len + P.length + 1 ≤ len + n := by omega
    have HPL : Hid (P.length + (Pl.putF f X).length = n) := hPl
    clear hPl HOWN HB1
    by_cases hlt : X < 128
    · have HP' : Hid (P ++ [X] = Pl.putI v) := by have h := HP.out; rw [Pl.put_last hlt] at h; exact h
      have hn1 : Hid (len + n = len + (P ++ [X]).length) := by have := HPL.out; rw [Pl.put_last hlt] at this; simp at this; show _ = _; simp; omega
      have hm : X % 256 = X := by omega
      clear HP hf HPL hp1
      go_wp2_with (at_builtin; refine wpList_append_fits _ rfl (.tmp 27) (.tmp 30) 23 rfl w.heap.size 5 i0 1 Tryz.underlying23 hi hz1 w.heap.size (len + P.length) (len + n) (bs (zs ++ P)) rfl (hown.alloc _) ⟨wr.heap.size, 0, none⟩ 1 1 [.int .u8 X] rfl rfl (cell_one_new _ _ _) (ints_oneCell _ [X]) hroom ?_; intro w2 hown2 hgrow2)
      have R := own_more hB hsz hown2 hgrow2
      clear hown2 hgrow2 hown
      go_wp2
      go_ret
      refine ⟨?_, ?_, R.2.1⟩
      · have e : len + n = len + P.length + 1 := by have := hn1.out; simp at this; omega
        rw [e]; rfl
      · have h := R.1
        rw [← hn1.out, HP'.out] at h
        exact h
    · cases f with
      | zero => exact absurd (Pl.fits_zero hf) hlt
      | succ f =>
        have HP' : Hid ((P ++ [X % 128 + 128]) ++ Pl.putF f (X / 128) = Pl.putI v) := by
          have h := HP.out
          rw [Pl.put_more (by omega)] at h
          show _ = _
          rw [← h]; simp
        have F := Pl.fits_step hf
        have hor : bits .or .u8 (X % 256) 128 = X % 128 + 128 := by
          rw [Pl.or128 _ (by omega) (by omega)]; omega
        clear HP hf
        go_wp2_with (at_builtin; refine wpList_append_fits _ rfl (.tmp 19) (.tmp 23) 23 rfl w.heap.size 5 i0 1 Tryz.underlying23 hi hz1 w.heap.size (len + P.length) (len + n) (bs (zs ++ P)) rfl (hown.alloc _) ⟨wr.heap.size, 0, none⟩ 1 1 [.int .u8 (X % 128 + 128)] rfl rfl (cell_one_new _ _ _) (ints_oneCell _ [X % 128 + 128]) hroom ?_; intro w2 hown2 hgrow2)
        have R := own_more hB hsz hown2 hgrow2
        clear hown2 hgrow2 hown
        go_wp2
        go_roundw
        case rel => exact ⟨f, X / 128, P ++ [X % 128 + 128], rfl, F, HP', by simp [Nat.add_assoc], R.1, R.2.1, R.2.2⟩
        case measure => simp [intOf]; omega
theorem put_row (a : Option Addr) (cap : Nat) (zs : List Int) (v : Int) (w : World) (hrow : Row w a zs) (hmax : zs.length ≤ 140737488351232) (h0 : 0 ≤ v) (h1 : v ≤ 18446744073709551615) :
    Calls Tryz.prog 59 #[.slice a zs.length cap, .int .u64 v] w fun e w' =>
      e = .returned (.slice (some ⟨w.heap.size, 0, none⟩) (zs ++ Pl.putI v).length (zs ++ Pl.putI v).length) ∧ Row w' (some ⟨w.heap.size, 0, none⟩) (zs ++ Pl.putI v) ∧ Below w.heap.size w w' ∧ w.heap.size < w'.heap.size := by
  refine (put_any a cap zs v w hrow hmax h0 h1).mono ?_
  rintro e w' ⟨rfl, hown, hb⟩
  refine ⟨by rw [List.length_append], row_of_own (by simpa only [List.length_append] using hown) ?_, hb, (hown.lt _ rfl).2⟩
  intro z hz
  rcases List.mem_append.1 hz with h | h
  · exact hrow.1 z h
  · exact Pl.put_bytes 9 v (Pl.fits_start v h0 h1) z h
end Go.Proofs.YtpnjcflfnoamoaaGreat

