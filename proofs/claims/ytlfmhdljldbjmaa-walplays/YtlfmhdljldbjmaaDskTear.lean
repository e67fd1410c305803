/-
  What the landed package disk leaves: tear.
-/
import Derived.Test.YtlfmhdljldbjmaaDskCut
namespace Go.Proofs.Ytlfmhdljldbjmaa
open Go.RowKit
set_option linter.unusedVariables false

theorem FileD.setbyte {u : World} {g q c i : Nat} {f : FileV} {Y : Foot} {x : Int} (h : FileD u g f Y) (k0 : u.cell? ⟨g, 0, none⟩ = some (.slice (some ⟨q, 0, none⟩) f.b.length c)) : FileD (u.setCell ⟨q, i, none⟩ (.int .u8 x)) g { f with b := f.b.set i x } Y := by
  obtain ⟨h1, h2, h3, ⟨a', c', h4, h5, h6⟩, h7⟩ := h
  rw [k0] at h4
  injection h4 with h4
  injection h4 with e1 e2 e3
  subst e1 e3
  have hqg := (h6 q rfl).2
  have hk := Below.heap_setCell u ⟨q, i, none⟩ (.int .u8 x) g (Ne.symm hqg)
  refine ⟨h1, fun k y => by rw [World.size_setCell]; exact h2 k y, fun j => by rw [World.frozen?_setCell]; exact h3 j, ⟨some ⟨q, 0, none⟩, c, ?_, ?_, ?_⟩, (cell_kept hk 1).trans h7⟩
  · show _ = some (Value.slice _ (f.b.set i x).length _)
    rw [List.length_set]
    exact (cell_kept hk 0).trans k0
  · show World.ownsRow _ 0 5 1 (Value.slice _ (f.b.set i x).length _) (f.b.set i x).length (bs (f.b.set i x))
    rw [List.length_set]
    refine ⟨by rw [bs_len, List.length_set]; omega, .inr ?_⟩
    rcases h5.2 with ⟨e, _⟩ | ⟨q', cap, cur, e, y1, y2, y3, y4, y5, y6⟩
    · cases e
    · injection e with e1 e2 e3
      injection e1 with e1
      injection e1 with e1
      subst e1 e3
      refine ⟨q, c, cur.setIfInBounds i (.int .u8 x), rfl, y1, heap_setCell_same u q i cur 5 _ y2, y3, y4, by rw [Array.size_setIfInBounds]; exact y5, ?_⟩
      rw [Array.toList_setIfInBounds, List.take_set, y6]
      simp [bs]
  · show ∀ q', (Value.slice _ (f.b.set i x).length _).ownBlock = some q' → _
    exact h6
theorem FileD.byte {u : World} {g q c i : Nat} {f : FileV} {Y : Foot} (h : FileD u g f Y) (k0 : u.cell? ⟨g, 0, none⟩ = some (.slice (some ⟨q, 0, none⟩) f.b.length c)) (hb : By f.b) (hi : i < f.b.length) : u.cell? ⟨q, i, none⟩ = some (.int .u8 (f.b.getD i 0)) ∧ u.frozen? ⟨q, i, none⟩ = false := by
  obtain ⟨h1, h2, h3, ⟨a', c', h4, h5, h6⟩, h7⟩ := h
  rw [k0] at h4
  injection h4 with h4
  injection h4 with e1 e2 e3
  subst e1 e3
  refine ⟨?_, ?_⟩
  · rcases (own_row h5 hb).2 with e | ⟨b, off, e, hc⟩
    · rw [e] at hi; simp at hi
    · injection e with e; injection e with e1 e2; subst e1 e2
      have := hc i hi
      rw [Nat.zero_add] at this
      exact this
  · rcases h5.2 with ⟨e, _⟩ | ⟨q', cap, cur, e, y1, y2, _⟩
    · cases e
    · injection e with e1 e2 e3
      injection e1 with e1
      injection e1 with e1
      subst e1
      simp [World.frozen?, y2]
theorem torn_all (bb : List Int) (k : Nat) (x : Int) (h : k < bb.length) : (bb.set k x).take (k + 1) = bb.take k ++ [x] := by
  rw [List.set_eq_take_append_cons_drop, if_pos h, List.take_append, List.take_of_length_le (by rw [List.length_take]; omega), List.length_take, Nat.min_eq_left (by omega), show k + 1 - k = 1 by omega]
  rfl
/-- What is turned stays out of the disk's own block. -/
theorem Turned.far {w u : World} {b g Z : Nat} {f : FileV} {Y Y' : Foot} (h : Turned w u b g f Y Y' Z) (hb : ¬ Y b) (hbl : b < w.heap.size) : ¬ Y' b := fun y => by
  rcases h.new b y with x | x
  · exact hb x
  · omega
theorem Turned.start {w u : World} {b g Z : Nat} {f : FileV} {Y : Foot} (hd : FileD w g f Y) (hbl : b < w.heap.size) (c2 : w.cell? ⟨b, 2, none⟩ = some (.int .i64 (Z : Int))) (hb : Below w.heap.size w u) : Turned w u b g f Y Y Z :=
  ⟨hd.kept hb.size (fun k x => hb.block k (hd.lt k x)), fun k x => .inl x, Chg.of_below hb _, (cell_kept (hb.block b hbl) 2).trans c2, fun j _ => cell_kept (hb.block b hbl) j, fun j => frozen_kept (hb.block b hbl) j⟩
theorem Turned.trans {w u u' : World} {b g Z Z' : Nat} {f f' : FileV} {Y Y' Y2 : Foot} (h : Turned w u b g f Y Y' Z) (k : Turned u u' b g f' Y' Y2 Z') : Turned w u' b g f' Y Y2 Z' :=
  ⟨k.file, fun j x => by
    rcases k.new j x with y | y
    · exact h.new j y
    · exact .inr (Nat.le_trans h.chg.size y), h.chg.trans k.chg (fun j hj x => by
    rcases x with x | x
    · rcases h.new j x with y | y
      · exact .inl y
      · omega
    · exact .inr x), k.c2, fun j hj => (k.oth j hj).trans (h.oth j hj), fun j => (k.fr j).trans (h.fr j)⟩
theorem Turned.cell {w u : World} {b g Z x i : Nat} {f f' : FileV} {Y Y' : Foot} {v : Value} (h : Turned w u b g f Y Y' Z) (hb : ¬ Y b) (hbl : b < w.heap.size) (hx : Y' x) (hf : FileD (u.setCell ⟨x, i, none⟩ v) g f' Y') : Turned w (u.setCell ⟨x, i, none⟩ v) b g f' Y Y' Z := by
  have hne : b ≠ x := fun e => h.far hb hbl (e ▸ hx)
  have hk := Below.heap_setCell u ⟨x, i, none⟩ v b hne
  refine ⟨hf, h.new, h.chg.trans (Chg.set u ⟨x, i, none⟩ v (X := fun k => k = x) rfl) (fun j hj e => ?_), (cell_kept hk 2).trans h.c2, fun j hj => (cell_kept hk j).trans (h.oth j hj), fun j => (frozen_kept hk j).trans (h.fr j)⟩
  subst e
  rcases h.new j hx with y | y
  · exact .inl y
  · omega
theorem Turned.as {w u : World} {b g Z Z' : Nat} {f f' : FileV} {Y Y' : Foot} (h : Turned w u b g f Y Y' Z) (e : f = f') (e2 : Z = Z') : Turned w u b g f' Y Y' Z' := by rw [← e, ← e2]; exact h
theorem dec_yes {a c b : Nat} (h : a + c + 1 < b) : decide ((a : Int) + (c : Int) + 1 < (b : Int)) = true := decide_eq_true (by omega)
theorem dec_no {a c b : Nat} (h : ¬ a + c + 1 < b) : decide ((a : Int) + (c : Int) + 1 < (b : Int)) = false := decide_eq_false (by omega)
theorem xor_byte (x y : Int) (hx : 0 ≤ x ∧ x ≤ 255) (hy : 0 ≤ y ∧ y ≤ 255) : bits BinOp.xor IntKind.u8 x y = xorB x y := u8_xor x y hx.1 (by omega) hy.1 (by omega)
theorem xor_range (x y : Int) (hx : 0 ≤ x ∧ x ≤ 255) (hy : 0 ≤ y ∧ y ≤ 255) : 0 ≤ xorB x y ∧ xorB x y ≤ 255 := by
  unfold xorB
  have h1 : x.toNat < 2 ^ 8 := by omega
  have h2 : y.toNat < 2 ^ 8 := by omega
  have := Nat.xor_lt_two_pow h1 h2
  omega
set_option maxHeartbeats 2000000 in
set_option maxRecDepth 4000 in
theorem dtear_torn (b g Z : Nat) (f : FileV) (Y : Foot) (keep torn : Int) (w : World) (hd : FileD w g f Y) (hb : ¬ Y b) (hbl : b < w.heap.size) (c2 : w.cell? ⟨b, 2, none⟩ = some (.int .i64 (Z : Int))) (f2 : w.frozen? ⟨b, 2, none⟩ = false) (hZ : f.b.length ≤ Z) (hz : Z ≤ 1099511627776) (hs : f.safe ≤ f.b.length) (hby : By f.b)
    (ht : 0 ≤ torn ∧ torn ≤ 255) (hk : keep.toNat < f.b.length - f.safe) (ht0 : torn ≠ 0) (hk0 : -9223372036854775808 ≤ keep) (hk1 : keep ≤ 9223372036854775807) :
    Calls Try.prog 42 #[.pointer (some ⟨b, 0, none⟩), .pointer (some ⟨g, 0, none⟩), .int .i64 keep, .int .u8 torn] w fun e w' => e = .returned (.tuple #[]) ∧ ∃ Y', Turned w w' b g (crashF keep.toNat torn f) Y Y' (Z - f.b.length + (crashF keep.toNat torn f).b.length) := by
  obtain ⟨K, hK⟩ : ∃ K, K = keep.toNat := ⟨_, rfl⟩
  obtain ⟨aa, cc, k0, hown, hq⟩ := hd.c0
  have k1 := hd.c1
  obtain ⟨L, hL⟩ : ∃ L, L = f.b.length := ⟨_, rfl⟩
  obtain ⟨F, hF⟩ : ∃ F, F = f.safe := ⟨_, rfl⟩
  obtain ⟨P, hP⟩ : ∃ P, P = F + K := ⟨_, rfl⟩
  have hPL : P < L := by omega
  obtain ⟨o1, o2, o3, o4⟩ := owns_parts hown
  have hLZ : L ≤ Z := by rw [hL]; exact hZ
  have hLc : L ≤ cc := by rw [hL]; exact o1
  obtain ⟨q, rfl⟩ : ∃ q, aa = some ⟨q, 0, none⟩ := by
    cases aa with
    | none => have := o3 rfl; omega
    | some ad => obtain ⟨q, e⟩ := o4 ad rfl; exact ⟨q, by rw [e]⟩
  obtain ⟨B0, hB0⟩ : ∃ B0, B0 = f.b.getD P 0 := ⟨_, rfl⟩
  have hB0r : 0 ≤ B0 ∧ B0 ≤ 255 := by rw [hB0]; simpa [List.getD] using at_byte hby P
  obtain ⟨XX, hXX⟩ : ∃ XX, XX = xorB B0 torn := ⟨_, rfl⟩
  have hxor : bits BinOp.xor IntKind.u8 B0 torn = XX := by rw [hXX]; exact xor_byte B0 torn hB0r ht
  have hXr : 0 ≤ XX ∧ XX ≤ 255 := by rw [hXX]; exact xor_range B0 torn hB0r ht
  have hcr : crashF keep.toNat torn f = ⟨f.name, f.b.take P ++ [XX], P + 1⟩ := by
    unfold crashF
    simp only
    rw [if_pos ⟨hk, ht0⟩, ← hF, ← hK, ← hP, ← hB0, ← hXX]
    simp; omega
  rw [hcr]
  show Calls _ _ _ _ fun e w' => e = .returned (.tuple #[]) ∧ ∃ Y', Turned w w' b g ⟨f.name, f.b.take P ++ [XX], P + 1⟩ Y Y' (Z - f.b.length + (f.b.take P ++ [XX]).length)
  have hZn : Z - f.b.length + (f.b.take P ++ [XX]).length = Z - (L - (P + 1)) := by rw [List.length_append, List.length_take, ← hL]; simp; omega
  rw [hZn]
  have hwl : IntKind.i64.wrap ((L : Int) - (F : Int)) = (L : Int) - (F : Int) := by rw [IntKind.wrap_i64]; omega
  have hmm : min (max keep 0) ((L : Int) - (F : Int)) = (K : Int) := by omega
  have hkl : decide ((K : Int) < (L : Int) - (F : Int)) = true := decide_eq_true (by omega)
  have ht1 : (torn != 0) = true := by simpa using ht0
  have HD : Hid (FileD w g f Y) := hd
  have HST : Hid (∀ u, Below w.heap.size w u → Turned w u b g f Y Y Z) := fun u hu => Turned.start hd hbl c2 hu
  have HB : Hid (¬ Y b ∧ b < w.heap.size) := ⟨hb, hbl⟩
  have HBY : Hid (By f.b) := hby
  have HLE : Hid (L = f.b.length ∧ F = f.safe ∧ B0 = f.b.getD P 0) := ⟨hL, hF, hB0⟩
  have HY : Hid (Y q ∧ q ≠ g) := hq q rfl
  have HF2 : Hid (w.frozen? ⟨b, 2, none⟩ = false) := f2
  rw [← hL] at k0
  rw [← hF] at k1
  clear hown hq hd o2 o3 o4 hcr hZn hXX hB0 hF hL hK o1 hb hbl hby hZ hs hk ht0 c2 f2
  subst hP
  go_enter Try.func42, Try.ntmps42
  go_wp2
  go_quiet (fail)
  obtain ⟨U, hU⟩ : ∃ U, U = w.drewN nq := ⟨_, rfl⟩
  have HBW : Hid (Below w.heap.size w U) := by rw [hU]; exact below_drewN (Below.refl _ _) nq
  have HTU : Hid (Turned w U b g f Y Y Z) := HST.out U HBW.out
  have j0 : U.cell? ⟨g, 0, none⟩ = some (.slice (some ⟨q, 0, none⟩) L cc) := (HBW.out.cell (p := ⟨g, 0, none⟩) (lt_of_cell k0)).trans k0
  have j1 : U.cell? ⟨g, 1, none⟩ = some (.int .i64 (F : Int)) := (HBW.out.cell (p := ⟨g, 1, none⟩) (lt_of_cell k1)).trans k1
  rw [← hU]
  clear hU k0 k1
  have j0' : U.cell? ⟨g, 0, none⟩ = some (.slice (some ⟨q, 0, none⟩) f.b.length cc) := by rw [← HLE.out.1]; exact j0
  obtain ⟨bq, fq⟩ := HTU.out.file.byte j0' HBY.out (i := F + K) (by rw [← HLE.out.1]; exact hPL)
  rw [← HLE.out.2.2] at bq
  have HT1 : Hid (Turned w (U.setCell ⟨q, F + K, none⟩ (.int .u8 XX)) b g { f with b := f.b.set (F + K) XX } Y Y Z) := HTU.out.cell HB.out.1 HB.out.2 HY.out.1 (HTU.out.file.setbyte j0')
  have g0 : (U.setCell ⟨q, F + K, none⟩ (.int .u8 XX)).cell? ⟨g, 0, none⟩ = some (.slice (some ⟨q, 0, none⟩) L cc) := (cell_kept (Below.heap_setCell U ⟨q, F + K, none⟩ _ g (Ne.symm HY.out.2)) 0).trans j0
  have g1 : (U.setCell ⟨q, F + K, none⟩ (.int .u8 XX)).cell? ⟨g, 1, none⟩ = some (.int .i64 (F : Int)) := (cell_kept (Below.heap_setCell U ⟨q, F + K, none⟩ _ g (Ne.symm HY.out.2)) 1).trans j1
  clear j0'
  by_cases hlast : F + K + 1 < L
  · have bl := dec_yes hlast
    have HE : Hid (∀ (w2 : World) (Y' : Foot) (sf : Nat), Turned w w2 b g ⟨f.name, (f.b.set (F + K) XX).take (F + K + 1), sf⟩ Y Y' (Z - (L - (F + K + 1))) → Turned w (w2.setCell ⟨g, 1, none⟩ (.int .i64 ((F : Int) + (K : Int) + 1))) b g ⟨f.name, f.b.take (F + K) ++ [XX], F + K + 1⟩ Y Y' (Z - (L - (F + K + 1)))) := by
      intro w2 Y' sf h
      have h1 := h.cell (v := .int .i64 ((F + K + 1 : Nat) : Int)) (i := 1) HB.out.1 HB.out.2 h.file.own (h.file.nowsafe (F + K + 1))
      rw [torn_all _ _ _ (by rw [← HLE.out.1]; exact hPL)] at h1
      exact h1
    have CT : Hid (Calls Try.prog 58 #[.pointer (some ⟨b, 0, none⟩), .pointer (some ⟨g, 0, none⟩), .int .i64 ((F : Int) + (K : Int) + 1)] (U.setCell ⟨q, F + K, none⟩ (.int .u8 XX)) fun e w' => e = .returned (.tuple #[]) ∧ ∃ (Y' : Foot) (sf : Nat), w'.cell? ⟨g, 1, none⟩ = some (.int .i64 (sf : Int)) ∧ w'.frozen? ⟨g, 1, none⟩ = false ∧ Turned w w' b g ⟨f.name, (f.b.set (F + K) XX).take (F + K + 1), sf⟩ Y Y' (Z - (L - (F + K + 1)))) := by
      have hl2 : (f.b.set (F + K) XX).length = L := by rw [List.length_set, HLE.out.1]
      have hc := dcut_in b g (F + K + 1) Z { f with b := f.b.set (F + K) XX } Y (U.setCell ⟨q, F + K, none⟩ (.int .u8 XX)) HT1.out.file HB.out.1 (Nat.lt_of_lt_of_le HB.out.2 HT1.out.chg.size) HT1.out.c2 ((HT1.out.fr 2).trans HF2.out) (by show F + K + 1 ≤ (f.b.set (F + K) XX).length; rw [hl2]; exact Nat.le_of_lt hlast) (by show (f.b.set (F + K) XX).length ≤ Z; rw [hl2]; exact hLZ) hz (by show f.safe ≤ _; rw [← HLE.out.2.1]; exact Nat.le_trans (Nat.le_trans (Nat.le_add_right F K) (Nat.le_of_lt hPL)) (Nat.le_trans hLZ hz)) (fun z hz' => by
        rcases List.mem_or_eq_of_mem_set hz' with x | x
        · exact HBY.out z x
        · rw [x]; exact hXr)
      refine hc.mono ?_
      rintro e w2 ⟨rfl, Y', h2⟩
      refine ⟨rfl, Y', min f.safe (F + K + 1), h2.file.c1, h2.file.free 1, ?_⟩
      have h3 := HT1.out.trans h2
      exact h3.as rfl (by show Z - ((f.b.set (F + K) XX).length - (F + K + 1)) = _; rw [hl2])
    go_wp2_with (go_at_call 58; refine CT.out.mono ?_; rintro e w2 ⟨rfl, Y', sf, e1, e2, e3⟩; have HE3 : Hid (Turned w w2 b g ⟨f.name, (f.b.set (F + K) XX).take (F + K + 1), sf⟩ Y Y' (Z - (L - (F + K + 1)))) := e3; clear e3)
    go_end0
    exact ⟨rfl, Y', HE.out w2 Y' sf HE3.out⟩
  · have bl := dec_no hlast
    have hLe : L = F + K + 1 := Nat.le_antisymm (Nat.le_of_not_lt hlast) hPL
    have HLe : Hid (L = F + K + 1) := hLe
    clear hLe
    have f1 : (U.setCell ⟨q, F + K, none⟩ (.int .u8 XX)).frozen? ⟨g, 1, none⟩ = false := HT1.out.file.free 1
    have HE : Hid (Turned w ((U.setCell ⟨q, F + K, none⟩ (.int .u8 XX)).setCell ⟨g, 1, none⟩ (.int .i64 ((F : Int) + (K : Int) + 1))) b g ⟨f.name, f.b.take (F + K) ++ [XX], F + K + 1⟩ Y Y (Z - (L - (F + K + 1)))) := by
      have h1 := HT1.out.cell (v := .int .i64 ((F + K + 1 : Nat) : Int)) (i := 1) HB.out.1 HB.out.2 HT1.out.file.own (HT1.out.file.nowsafe (F + K + 1))
      have hall : f.b.set (F + K) XX = f.b.take (F + K) ++ [XX] := by
        rw [← torn_all _ _ _ (by rw [← HLE.out.1]; exact hPL), List.take_of_length_le (by rw [List.length_set, ← HLE.out.1, HLe.out]; exact Nat.le_refl _)]
      rw [hall] at h1
      exact h1.as rfl (by rw [HLe.out, Nat.sub_self, Nat.sub_zero])
    go_wp2
    go_end0
    exact ⟨rfl, Y, HE.out⟩
theorem dec_lt {a c b : Nat} (h : a + c < b) : decide ((a : Int) + (c : Int) < (b : Int)) = true := decide_eq_true (by omega)
set_option maxHeartbeats 2000000 in
set_option maxRecDepth 4000 in
theorem dtear_short (b g Z : Nat) (f : FileV) (Y : Foot) (keep : Int) (w : World) (hd : FileD w g f Y) (hb : ¬ Y b) (hbl : b < w.heap.size) (c2 : w.cell? ⟨b, 2, none⟩ = some (.int .i64 (Z : Int))) (f2 : w.frozen? ⟨b, 2, none⟩ = false) (hZ : f.b.length ≤ Z) (hz : Z ≤ 1099511627776) (hs : f.safe ≤ f.b.length) (hby : By f.b)
    (hk : keep.toNat < f.b.length - f.safe) (hk0 : -9223372036854775808 ≤ keep) (hk1 : keep ≤ 9223372036854775807) :
    Calls Try.prog 42 #[.pointer (some ⟨b, 0, none⟩), .pointer (some ⟨g, 0, none⟩), .int .i64 keep, .int .u8 0] w fun e w' => e = .returned (.tuple #[]) ∧ ∃ Y', Turned w w' b g (crashF keep.toNat 0 f) Y Y' (Z - f.b.length + (crashF keep.toNat 0 f).b.length) := by
  obtain ⟨K, hK⟩ : ∃ K, K = keep.toNat := ⟨_, rfl⟩
  obtain ⟨aa, cc, k0, hown, hq⟩ := hd.c0
  have k1 := hd.c1
  obtain ⟨L, hL⟩ : ∃ L, L = f.b.length := ⟨_, rfl⟩
  obtain ⟨F, hF⟩ : ∃ F, F = f.safe := ⟨_, rfl⟩
  have hPL : F + K < L := by omega
  have hLZ : L ≤ Z := by rw [hL]; exact hZ
  have hcr : crashF keep.toNat 0 f = ⟨f.name, f.b.take (F + K), F + K⟩ := by
    unfold crashF
    simp only
    rw [if_neg (fun h => h.2 rfl), ← hF, ← hK, ← hL, Nat.min_eq_left (by omega)]
    rw [List.length_take, ← hL, Nat.min_eq_left (by omega)]
  rw [hcr]
  show Calls _ _ _ _ fun e w' => e = .returned (.tuple #[]) ∧ ∃ Y', Turned w w' b g ⟨f.name, f.b.take (F + K), F + K⟩ Y Y' (Z - f.b.length + (f.b.take (F + K)).length)
  have hZn : Z - f.b.length + (f.b.take (F + K)).length = Z - (L - (F + K)) := by rw [List.length_take, ← hL]; omega
  rw [hZn]
  have hwl : IntKind.i64.wrap ((L : Int) - (F : Int)) = (L : Int) - (F : Int) := by rw [IntKind.wrap_i64]; omega
  have hmm : min (max keep 0) ((L : Int) - (F : Int)) = (K : Int) := by omega
  have hkl : decide ((K : Int) < (L : Int) - (F : Int)) = true := decide_eq_true (by omega)
  have bl := dec_lt hPL
  have HST : Hid (∀ u, Below w.heap.size w u → Turned w u b g f Y Y Z) := fun u hu => Turned.start hd hbl c2 hu
  have HB : Hid (¬ Y b ∧ b < w.heap.size) := ⟨hb, hbl⟩
  have HBY : Hid (By f.b) := hby
  have HLE : Hid (L = f.b.length ∧ F = f.safe) := ⟨hL, hF⟩
  have HF2 : Hid (w.frozen? ⟨b, 2, none⟩ = false) := f2
  rw [← hL] at k0
  rw [← hF] at k1
  clear hown hq hd hcr hZn hF hL hK hb hbl hby hZ hs hk c2 f2
  go_enter Try.func42, Try.ntmps42
  go_wp2
  go_quiet (fail)
  obtain ⟨U, hU⟩ : ∃ U, U = w.drewN nq := ⟨_, rfl⟩
  have HBW : Hid (Below w.heap.size w U) := by rw [hU]; exact below_drewN (Below.refl _ _) nq
  have HTU : Hid (Turned w U b g f Y Y Z) := HST.out U HBW.out
  have j0 : U.cell? ⟨g, 0, none⟩ = some (.slice aa L cc) := (HBW.out.cell (p := ⟨g, 0, none⟩) (lt_of_cell k0)).trans k0
  have j1 : U.cell? ⟨g, 1, none⟩ = some (.int .i64 (F : Int)) := (HBW.out.cell (p := ⟨g, 1, none⟩) (lt_of_cell k1)).trans k1
  rw [← hU]
  clear hU k0 k1
  have HE : Hid (∀ (w2 : World) (Y' : Foot) (sf : Nat), Turned w w2 b g ⟨f.name, f.b.take (F + K), sf⟩ Y Y' (Z - (L - (F + K))) → Turned w (w2.setCell ⟨g, 1, none⟩ (.int .i64 ((F : Int) + (K : Int)))) b g ⟨f.name, f.b.take (F + K), F + K⟩ Y Y' (Z - (L - (F + K)))) := by
    intro w2 Y' sf h
    exact h.cell (v := .int .i64 ((F + K : Nat) : Int)) (i := 1) HB.out.1 HB.out.2 h.file.own (h.file.nowsafe (F + K))
  have CT : Hid (Calls Try.prog 58 #[.pointer (some ⟨b, 0, none⟩), .pointer (some ⟨g, 0, none⟩), .int .i64 ((F : Int) + (K : Int))] U fun e w' => e = .returned (.tuple #[]) ∧ ∃ (Y' : Foot) (sf : Nat), w'.cell? ⟨g, 1, none⟩ = some (.int .i64 (sf : Int)) ∧ w'.frozen? ⟨g, 1, none⟩ = false ∧ Turned w w' b g ⟨f.name, f.b.take (F + K), sf⟩ Y Y' (Z - (L - (F + K)))) := by
    have hc := dcut_in b g (F + K) Z f Y U HTU.out.file HB.out.1 (Nat.lt_of_lt_of_le HB.out.2 HTU.out.chg.size) HTU.out.c2 ((HTU.out.fr 2).trans HF2.out) (by rw [← HLE.out.1]; exact Nat.le_of_lt hPL) (by rw [← HLE.out.1]; exact hLZ) hz (by rw [← HLE.out.2]; exact Nat.le_trans (Nat.le_trans (Nat.le_add_right F K) (Nat.le_of_lt hPL)) (Nat.le_trans hLZ hz)) HBY.out
    refine hc.mono ?_
    rintro e w2 ⟨rfl, Y', h2⟩
    refine ⟨rfl, Y', min f.safe (F + K), h2.file.c1, h2.file.free 1, ?_⟩
    exact (HTU.out.trans h2).as rfl (by rw [HLE.out.1])
  go_wp2_with (go_at_call 58; refine CT.out.mono ?_; rintro e w2 ⟨rfl, Y', sf, e1, e2, e3⟩; have HE3 : Hid (Turned w w2 b g ⟨f.name, f.b.take (F + K), sf⟩ Y Y' (Z - (L - (F + K)))) := e3; clear e3)
  go_end0
  exact ⟨rfl, Y', HE.out w2 Y' sf HE3.out⟩
set_option maxHeartbeats 2000000 in
set_option maxRecDepth 4000 in
theorem dtear_all (b g Z : Nat) (f : FileV) (Y : Foot) (keep torn : Int) (w : World) (hd : FileD w g f Y) (hb : ¬ Y b) (hbl : b < w.heap.size) (c2 : w.cell? ⟨b, 2, none⟩ = some (.int .i64 (Z : Int))) (hZ : f.b.length ≤ Z) (hz : Z ≤ 1099511627776) (hs : f.safe ≤ f.b.length)
    (hk : ¬ keep.toNat < f.b.length - f.safe) (hk0 : -9223372036854775808 ≤ keep) (hk1 : keep ≤ 9223372036854775807) :
    Calls Try.prog 42 #[.pointer (some ⟨b, 0, none⟩), .pointer (some ⟨g, 0, none⟩), .int .i64 keep, .int .u8 torn] w fun e w' => e = .returned (.tuple #[]) ∧ ∃ Y', Turned w w' b g (crashF keep.toNat torn f) Y Y' (Z - f.b.length + (crashF keep.toNat torn f).b.length) := by
  obtain ⟨aa, cc, k0, hown, hq⟩ := hd.c0
  have k1 := hd.c1
  have f1 := hd.free 1
  obtain ⟨L, hL⟩ : ∃ L, L = f.b.length := ⟨_, rfl⟩
  obtain ⟨F, hF⟩ : ∃ F, F = f.safe := ⟨_, rfl⟩
  obtain ⟨J, hJ⟩ : ∃ J, L = F + J := ⟨L - F, by omega⟩
  have hLZ : L ≤ Z := by rw [hL]; exact hZ
  have hcr : crashF keep.toNat torn f = ⟨f.name, f.b, L⟩ := by
    unfold crashF
    simp only
    rw [if_neg (fun h => hk h.1), Nat.min_eq_right (by omega), show f.safe + (f.b.length - f.safe) = f.b.length by omega, List.take_length, ← hL]
  rw [hcr]
  show Calls _ _ _ _ fun e w' => e = .returned (.tuple #[]) ∧ ∃ Y', Turned w w' b g ⟨f.name, f.b, L⟩ Y Y' (Z - f.b.length + f.b.length)
  have hZn : Z - f.b.length + f.b.length = Z := by omega
  rw [hZn]
  have hwl : IntKind.i64.wrap ((L : Int) - (F : Int)) = (J : Int) := by rw [IntKind.wrap_i64]; omega
  have hlf : (L : Int) - (F : Int) = (J : Int) := by omega
  have hmm : min (max keep 0) (J : Int) = (J : Int) := by omega
  have HST : Hid (∀ u, Below w.heap.size w u → Turned w u b g f Y Y Z) := fun u hu => Turned.start hd hbl c2 hu
  have HB : Hid (¬ Y b ∧ b < w.heap.size) := ⟨hb, hbl⟩
  have HFD : Hid (g < w.heap.size) := hd.lt g hd.own
  have HLJ : Hid (L = F + J) := hJ
  have hFJ : F + J ≤ 1099511627776 := by omega
  rw [← hL, hJ] at k0
  rw [← hF] at k1
  rw [hJ] at hwl hlf
  clear hown hq hd hcr hZn hF hL hb hbl hZ hs hk c2 hJ hLZ
  go_enter Try.func42, Try.ntmps42
  go_wp2
  go_quiet (fail)
  obtain ⟨U, hU⟩ : ∃ U, U = w.drewN nq := ⟨_, rfl⟩
  have HBW : Hid (Below w.heap.size w U) := by rw [hU]; exact below_drewN (Below.refl _ _) nq
  have HTU : Hid (Turned w U b g f Y Y Z) := HST.out U HBW.out
  have j0 : U.cell? ⟨g, 0, none⟩ = some (.slice aa (F + J) cc) := (HBW.out.cell (p := ⟨g, 0, none⟩) (lt_of_cell k0)).trans k0
  have j1 : U.cell? ⟨g, 1, none⟩ = some (.int .i64 (F : Int)) := (HBW.out.cell (p := ⟨g, 1, none⟩) (lt_of_cell k1)).trans k1
  have j2 : U.frozen? ⟨g, 1, none⟩ = false := (HBW.out.frozen (p := ⟨g, 1, none⟩) HFD.out).trans f1
  rw [← hU]
  clear hU k0 k1 f1
  have HE : Hid (Turned w (U.setCell ⟨g, 1, none⟩ (.int .i64 ((F : Int) + (J : Int)))) b g ⟨f.name, f.b, L⟩ Y Y Z) := by
    have h1 := HTU.out.cell (v := .int .i64 ((F + J : Nat) : Int)) (i := 1) HB.out.1 HB.out.2 HTU.out.file.own (HTU.out.file.nowsafe (F + J))
    rw [HLJ.out]
    exact h1
  have hend : min (max keep 0) ((F : Int) + (J : Int) - (F : Int)) = (J : Int) := by rw [show (F : Int) + (J : Int) - (F : Int) = (J : Int) by omega]; exact hmm
  have HEND : Hid (min (max keep 0) ((F : Int) + (J : Int) - (F : Int)) = (J : Int)) := hend
  clear hend
  go_wp2
  go_end0
  refine ⟨rfl, Y, ?_⟩
  rw [HEND.out]
  exact HE.out
theorem dtear_any (b g Z : Nat) (f : FileV) (Y : Foot) (keep torn : Int) (w : World) (hd : FileD w g f Y) (hb : ¬ Y b) (hbl : b < w.heap.size) (c2 : w.cell? ⟨b, 2, none⟩ = some (.int .i64 (Z : Int))) (f2 : w.frozen? ⟨b, 2, none⟩ = false) (hZ : f.b.length ≤ Z) (hz : Z ≤ 1099511627776) (hs : f.safe ≤ f.b.length) (hby : By f.b)
    (ht : 0 ≤ torn ∧ torn ≤ 255) (hk0 : -9223372036854775808 ≤ keep) (hk1 : keep ≤ 9223372036854775807) :
    Calls Try.prog 42 #[.pointer (some ⟨b, 0, none⟩), .pointer (some ⟨g, 0, none⟩), .int .i64 keep, .int .u8 torn] w fun e w' => e = .returned (.tuple #[]) ∧ ∃ Y', Turned w w' b g (crashF keep.toNat torn f) Y Y' (Z - f.b.length + (crashF keep.toNat torn f).b.length) := by
  by_cases hk : keep.toNat < f.b.length - f.safe
  · by_cases ht0 : torn = 0
    · subst ht0
      exact dtear_short b g Z f Y keep w hd hb hbl c2 f2 hZ hz hs hby hk hk0 hk1
    · exact dtear_torn b g Z f Y keep torn w hd hb hbl c2 f2 hZ hz hs hby ht hk ht0 hk0 hk1
  · exact dtear_all b g Z f Y keep torn w hd hb hbl c2 hZ hz hs hk hk0 hk1
end Go.Proofs.Ytlfmhdljldbjmaa
