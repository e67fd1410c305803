/-
  Writes, and lists of one to three writes, made of their parts.
  What package store answers: Scan.
  What layer 12's own helpers and the document's own Items answer: long, at, k, keys, Items.
  A store of the call's own, as layer 12's statements use it; what their own awake answers.
-/
import Derived.Test.YtpnjcflfnoamoaaGreatAu29
import Derived.Test.YtpnjcflfnoamoaaGreatAu15
import Derived.Test.YtpnjcflfnoamoaaGreatStB
import Derived.Test.YtpnjcflfnoamoaaGreatAu19
namespace Go.Proofs.YtpnjcflfnoamoaaGreat
open Go.RowKit
set_option linter.unusedVariables false

/-- A part of one cell laid into a row of cells. -/
theorem fill_cell (place : Nat → Option (Nat × Nat)) (C : List Value) (i off : Nat) (v : Value) (hp : place i = some (off, 1)) (hv : v.cells = #[v]) (hs : off < C.length) (rest : List (Nat × Value)) :
    Instr.fill place C.toArray ((i, v) :: rest) = Instr.fill place (C.set off v).toArray rest := by
  conv => lhs; unfold Instr.fill
  have h0 : ¬ (decide (v.cells.size ≠ 1) || decide (off + v.cells.size > C.toArray.size)) = true := by rw [hv]; simp; omega
  simp only [hp]
  rw [if_neg h0, hv]
  simp
/-- A write is made of its parts. -/
theorem encW_zero_len : (encW zeroW).length = 18 := encW_len zeroW_ky
theorem fill_key0 (place : Nat → Option (Nat × Nat)) (hp : place 0 = some (0, 16)) (k : List Int) (hk : Ky k) (rest : List (Nat × Value)) : Instr.fill place (encW zeroW).toArray ((0, kv k) :: rest) = Instr.fill place (encW ⟨k, [], false⟩).toArray rest := by
  show Instr.fill place (encW zeroW).toArray ((0, .agg (kc k).toArray) :: rest) = _
  rw [fill_step place (encW zeroW) 0 0 16 (kc k) hp (kc_len hk) (by rw [encW_zero_len]; omega)]
  congr 2
theorem run_build_w3 (w : World) (k : List Int) (g : Bool) (hk : Ky k) : (Instr.build 95 #[(0, kv k), (2, .bool g)]).run Tryz.prog w = .ok (wv ⟨k, [], g⟩) w := by
  have hf : Instr.fill (fun x => [(0, 16), (16, 1), (17, 1)][x]?) (encW zeroW).toArray [(0, kv k), (2, .bool g)] = some (encW ⟨k, [], g⟩).toArray := by
    rw [fill_key0 _ rfl k hk, fill_cell (fun x => [(0, 16), (16, 1), (17, 1)][x]?) _ 2 17 (.bool g) rfl rfl (by rw [encW_len (W := ⟨k, [], false⟩) hk]; omega)]
    show some _ = some _
    congr 2
    unfold encW
    rw [List.set_append_right _ _ (by rw [kc_len hk]; omega), kc_len hk]
    rfl
  simp [Instr.build, run_underlying Tryz.underlying95]
  have hf2 : Instr.fill (fun x => [(0, 16), (16, 1), (17, 1)][x]?) (Value.agg #[.int .u8 0, .int .u8 0, .int .u8 0, .int .u8 0, .int .u8 0, .int .u8 0, .int .u8 0, .int .u8 0, .int .u8 0, .int .u8 0, .int .u8 0, .int .u8 0, .int .u8 0, .int .u8 0, .int .u8 0, .int .u8 0, .string ⟨#[]⟩, .bool false]).cells [(0, kv k), (2, .bool g)] = some (encW ⟨k, [], g⟩).toArray := hf
  rw [hf2]
  rfl
/-- Lists of one, two, three writes are made. -/
theorem run_build_ws1 (w : World) (A : Wrt) (hA : Ky A.k) :
    (Instr.buildSlice 43 1 #[(0, wv A)]).run Tryz.prog w = .ok (.slice (some ⟨w.heap.size, 0, none⟩) 1 1) (w.alloc (.cells (encW A).toArray 95)) := by
  have hf : Instr.fill (fun i => some (i * 18, 18)) (encW zeroW).toArray [(0, wv A)] = some (encW A).toArray := by
    rw [fill_step _ (encW zeroW) 0 0 18 (encW A) rfl (encW_len hA) (by rw [encW_zero_len]; omega)]
    show some _ = some _
    congr 2
    rw [List.drop_eq_nil_of_le (by rw [encW_zero_len]; omega)]
    simp
  simp [Instr.buildSlice, run_underlying Tryz.underlying43]
  generalize hz : Array.map _ (Array.range 18) = Z
  have hz2 : Z = (encW zeroW).toArray := by rw [← hz]; kernel_rfl
  rw [hz2, hf]
  simp [newRow]
theorem wrts_made (w : World) (l : List Wrt) (h : ∀ W ∈ l, WrtOk W) : WrtsAt (w.alloc (.cells (l.flatMap encW).toArray 95)) (some ⟨w.heap.size, 0, none⟩) l := by
  refine ⟨.inr ⟨w.heap.size, 0, rfl, fun i W hW => ⟨?_⟩⟩, h⟩
  have hl := lies_made w (l.flatMap encW).toArray 95
  rw [List.toList_toArray] at hl
  exact hl.el (fun V hV => encW_len (h V hV).key) hW
end Go.Proofs.YtpnjcflfnoamoaaGreat

namespace Go.Proofs.YtpnjcflfnoamoaaGreat
open Go.RowKit
set_option linter.unusedVariables false

/-- The boxes of Scan: two keys, a stamp. -/
structure ScB (w u : World) (a b : List Int) (t n : Int) : Prop where
  below : Below w.heap.size w u
  a : KeyAt u w.heap.size 0 a
  b : KeyAt u (w.heap.size + 1) 0 b
  c0 : u.cell? ⟨w.heap.size + 2, 0, none⟩ = some (.int .i64 t)
  c1 : u.cell? ⟨w.heap.size + 2, 1, none⟩ = some (.int .u8 n)
theorem ScB.made (w : World) {a b : List Int} (ha : Ky a) (hb : Ky b) (t n : Int) (T T' : TypeId) : ScB w (((w.alloc (.cells (kcs a) T)).alloc (.cells (kcs b) T)).alloc (.cells #[.int .i64 t, .int .u8 n] T')) a b t n := by
  obtain ⟨u1, h1⟩ : ∃ u, u = w.alloc (.cells (kcs a) T) := ⟨_, rfl⟩
  have e1 : u1.heap.size = w.heap.size + 1 := by rw [h1]; simp
  have k1 : KeyAt u1 w.heap.size 0 a := by rw [h1]; exact KeyAt.made w T a ha
  have b1 : Below w.heap.size w u1 := by rw [h1]; exact (Below.refl _ _).alloc (Nat.le_refl _) _
  rw [← h1]
  obtain ⟨u2, h2⟩ : ∃ u, u = u1.alloc (.cells (kcs b) T) := ⟨_, rfl⟩
  have e2 : u2.heap.size = w.heap.size + 2 := by rw [h2]; simp; omega
  have k2 : KeyAt u2 (w.heap.size + 1) 0 b := by rw [h2, ← e1]; exact KeyAt.made u1 T b hb
  have b2 : Below u1.heap.size u1 u2 := by rw [h2]; exact (Below.refl _ _).alloc (Nat.le_refl _) _
  rw [← h2]
  have b3 : Below u2.heap.size u2 (u2.alloc (.cells #[.int .i64 t, .int .u8 n] T')) := (Below.refl _ _).alloc (Nat.le_refl _) _
  refine ⟨(b1.trans (b2.mono b1.size)).trans (b3.mono (by omega)), (k1.past b2).past b3, k2.past b3, ?_, ?_⟩ <;> (rw [← e2, World.cell?_alloc_new]; rfl)
theorem ScB.past {w u u' : World} {a b : List Int} {t n : Int} (h : ScB w u a b t n) (hb : Below u.heap.size u u') : ScB w u' a b t n :=
  ⟨h.below.trans (hb.mono h.below.size), h.a.past hb, h.b.past hb, (hb.cell (p := ⟨w.heap.size + 2, 0, none⟩) (cell_lt h.c0)).trans h.c0, (hb.cell (p := ⟨w.heap.size + 2, 1, none⟩) (cell_lt h.c0)).trans h.c1⟩
end Go.Proofs.YtpnjcflfnoamoaaGreat

namespace Go.Proofs.YtpnjcflfnoamoaaGreat
open Go.RowKit
set_option linter.unusedVariables false

theorem range_made (w : World) (cs : List Value) (T : TypeId) : (w.alloc (.cells cs.toArray T)).rangeAt w.heap.size 0 cs := by
  intro j v hv
  rw [Nat.zero_add, World.cell?_alloc_new]
  simpa using hv
/-- Are writes more than is asked of? -/
def longW (l : List Wrt) : Bool := decide (20 < l.length) || l.any (fun W => decide (250 < W.v.length))
theorem WrtAt.str {w : World} {b o : Nat} {W : Wrt} (h : WrtAt w b o W) (hk : Ky W.k) : w.cell? ⟨b, o + 16, none⟩ = some (.string (strOfNums W.v)) := (h.cells hk).1
set_option maxHeartbeats 1000000 in
theorem llong_any (a : Option Addr) (N cap : Nat) (l : List Wrt) (w : World) (hl : l.length = N) (hc : N ≤ cap) (hN : N ≤ 9223372036854775807) (hat : WrtsAt w a l) :
    Calls Tryz.prog 15 #[.slice a N cap] w fun e w' => e = .returned (.bool (longW l)) ∧ w' = w := by
  obtain ⟨R, hR⟩ : ∃ R, R = longW l := ⟨_, rfl⟩
  have hR2 : R = (decide (20 < N) || l.any (fun W => decide (250 < W.v.length))) := by rw [hR, ← hl]; rfl
  rw [← hR]
  clear hR
  by_cases h20 : 20 < N
  · have HR : Hid (R = true) := by show R = true; rw [hR2, decide_eq_true h20]; rfl
    have d1 : (20 : Int) < (N : Int) := by omega
    clear hR2 hat hl
    go_enter Tryz.func15, Tryz.ntmps15
    go_wp2
    go_ret
    exact ⟨by rw [HR.out]; rfl, rfl⟩
  have d1 : ¬ (20 : Int) < (N : Int) := by omega
  have HR : Hid (R = l.any (fun W => decide (250 < W.v.length))) := by show R = _; rw [hR2, decide_eq_false h20]; rfl
  have HL : Hid (l.length = N) := hl
  have HA : Hid (WrtsAt w a l) := hat
  clear hR2 hat hl
  go_enter Tryz.func15, Tryz.ntmps15
  go_wp2
  go_loop [3] (fun i => ∃ n : Nat, n ≤ N ∧ i = .int .i64 n ∧ Hid (∀ W ∈ l.take n, W.v.length ≤ 250)) (fun i => N - (intOf i).toNat)
  case atStart => exact ⟨0, Nat.zero_le _, rfl, fun W hW => by simp at hW⟩
  case round =>
    obtain ⟨n, hn, rfl, HS⟩ := hrel
    have hn0 : (0 : Int) ≤ (n : Int) := by omega
    by_cases hlt : n < N
    · have h1 : (n : Int) < (N : Int) := by omega
      obtain ⟨W, hW⟩ : ∃ W, l[n]? = some W := ⟨_, List.getElem?_eq_getElem (by rw [HL.out]; exact hlt)⟩
      obtain ⟨b, o, rfl, hwa, hwo⟩ := HA.out.wrt hW
      have y0 := hwa.str hwo.key
      have HT : Hid (l.take (n + 1) = l.take n ++ [W]) := by show _ = _; rw [List.take_add_one, hW]; rfl
      have HWM : Hid (W ∈ l) := List.mem_of_getElem? hW
      obtain ⟨S, hS⟩ : ∃ S, S = strOfNums W.v := ⟨_, rfl⟩
      obtain ⟨m, hm⟩ : ∃ m, m = W.v.length := ⟨_, rfl⟩
      have HMW : Hid (m = W.v.length) := hm
      have hsz : S.size = m := by rw [hS, hm]; exact strOfNums_size _
      have hfew : m ≤ 9223372036854775807 := by
        have := hwo.few
        unfold maxLen at this
        rw [hm]
        exact Nat.le_trans this (by omega)
      rw [← hS] at y0
      clear hS hm hwa hwo hW
      by_cases hlong : 250 < m
      · have d2 : (250 : Int) < (m : Int) := by omega
        have HRT : Hid (R = true) := by
          show R = true
          rw [HR.out]
          exact List.any_eq_true.2 ⟨W, HWM.out, decide_eq_true (by rw [← HMW.out]; exact hlong)⟩
        go_wp2
        go_ret
        exact ⟨by rw [HRT.out]; rfl, rfl⟩
      · have d2 : ¬ (250 : Int) < (m : Int) := by omega
        have HS2 : Hid (∀ W ∈ l.take (n + 1), W.v.length ≤ 250) := fun V hV => by
          rw [HT.out] at hV
          rcases List.mem_append.1 hV with e | e
          · exact HS.out V e
          · simp at e; rw [e, ← HMW.out]; omega
        go_wp2
        go_round
        case rel => exact ⟨n + 1, by omega, by go_num, HS2⟩
        case measure => simp [intOf]; omega
    · obtain rfl : n = N := by omega
      have HRF : Hid (R = false) := by
        show R = false
        rw [HR.out]
        refine List.any_eq_false.2 (fun W hW => ?_)
        have := HS.out W (by rw [List.take_of_length_le (by rw [HL.out]; exact Nat.le_refl _)]; exact hW)
        simp; omega
      go_wp2
      go_ret
      exact ⟨by rw [HRF.out]; rfl, rfl⟩
end Go.Proofs.YtpnjcflfnoamoaaGreat

namespace Go.Proofs.YtpnjcflfnoamoaaGreat
open Go.RowKit
set_option linter.unusedVariables false

/-- A store that has come since w. -/
def StX (w u : World) (p : Nat) (L : List Ver) : Prop := ∃ X, StD u p L X ∧ Below w.heap.size w u ∧ ∀ k, X k → w.heap.size ≤ k
theorem StX.below {w u : World} {p : Nat} {L : List Ver} (h : StX w u p L) : Below w.heap.size w u := by obtain ⟨X, _, h, _⟩ := h; exact h
theorem StX.sto {w u : World} {p : Nat} {L : List Ver} (h : StX w u p L) : StoG L := by obtain ⟨X, h, _⟩ := h; exact h.1
theorem StX.past {w u u' : World} {p : Nat} {L : List Ver} (h : StX w u p L) (hb : Below u.heap.size u u') : StX w u' p L := by
  obtain ⟨X, h1, h2, h3⟩ := h
  exact ⟨X, h1.past hb, h2.trans (hb.mono h2.size), h3⟩
theorem StX.to {w0 w u : World} {p : Nat} {L : List Ver} (h : StX w u p L) (hb : Below w0.heap.size w0 w) : StX w0 u p L := by
  obtain ⟨X, h1, h2, h3⟩ := h
  exact ⟨X, h1, hb.trans (h2.mono hb.size), fun k hk => Nat.le_trans hb.size (h3 k hk)⟩
theorem xnew_any (w : World) : Calls Tryz.prog 19 #[] w fun e w' => ∃ p, e = .returned (.pointer (some ⟨p, 0, none⟩)) ∧ StX w w' p [] :=
  (snew_any w).mono (fun e w' ⟨p, X, h1, h2, h3, h4⟩ => ⟨p, h1, X, h2, h3, h4⟩)
theorem xkeys_any {w u : World} {p : Nat} {L : List Ver} (h : StX w u p L) :
    Calls Tryz.prog 20 #[.pointer (some ⟨p, 0, none⟩)] u fun e w' => (∃ a' cap', e = .returned (.slice a' (keysV L).length cap') ∧ KeysAt w' a' (keysV L) ∧ (keysV L).length ≤ cap') ∧ Below u.heap.size u w' ∧ StX w w' p L := by
  obtain ⟨X, h1, h2, h3⟩ := h
  exact (skeys_any p L X u h1).mono (fun e w' ⟨e1, hb⟩ => ⟨e1, hb, StX.past ⟨X, h1, h2, h3⟩ hb⟩)
/-- The store turns; what else came since w, in blocks that are not the store's, stays. -/
theorem xapply_far {w u : World} {p : Nat} {L : List Ver} {X : Foot} (h1 : StD u p L X) (h2 : Below w.heap.size w u) (h3 : ∀ k, X k → w.heap.size ≤ k) (t n : Int) (hn : 0 ≤ n ∧ n ≤ 255) (a : Option Addr) (N cap : Nat) (l : List Wrt) (hl : l.length = N) (hc : N ≤ cap) (hN : N ≤ 1000000) (hat : WrtsAt u a l) (hfar : l ≠ [] → Far a X) :
    Calls Tryz.prog 16 #[.pointer (some ⟨p, 0, none⟩), .agg #[.int .i64 t, .int .u8 n], .slice a N cap] u fun e w' => e = .returned (.int .i64 (applyV L t n l).1) ∧ StX w w' p (applyV L t n l).2 := by
  refine (sapply_any p L X t n hn a N cap l u h1 hl hc hN hat hfar).mono ?_
  rintro e w' ⟨rfl, X', j1, j2⟩
  exact ⟨rfl, X', j1, h2.trans (j2.chg.below h2.size h3), fun k hk => (j2.new k hk).1.elim (h3 k) (fun e => Nat.le_trans h2.size e)⟩
/-- Writes that lay there when w was. -/
theorem xapply_in {w u : World} {p : Nat} {L : List Ver} (h : StX w u p L) (t n : Int) (hn : 0 ≤ n ∧ n ≤ 255) (a : Option Addr) (N cap : Nat) (l : List Wrt) (hl : l.length = N) (hc : N ≤ cap) (hN : N ≤ 1000000) (hat : WrtsAt w a l) :
    Calls Tryz.prog 16 #[.pointer (some ⟨p, 0, none⟩), .agg #[.int .i64 t, .int .u8 n], .slice a N cap] u fun e w' => e = .returned (.int .i64 (applyV L t n l).1) ∧ StX w w' p (applyV L t n l).2 := by
  obtain ⟨X, h1, h2, h3⟩ := h
  refine xapply_far h1 h2 h3 t n hn a N cap l hl hc hN (hat.past h2) (fun hne b o e hx => ?_)
  have hlt : b < w.heap.size := by
    rcases hat.cells with e2 | ⟨b2, o2, e2, hc2⟩
    · exact absurd e2 hne
    · rw [e] at e2
      cases e2
      cases l with
      | nil => exact absurd rfl hne
      | cons W r => exact (hc2 0 W rfl).lt (hat.oks W (by simp)).key
  have := h3 b hx
  omega
theorem xtrim_s {w u : World} {p : Nat} {L : List Ver} (h : StX w u p L) (t n : Int) :
    Calls Tryz.prog 17 #[.pointer (some ⟨p, 0, none⟩), .agg #[.int .i64 t, .int .u8 n]] u fun e w' => e = .returned (.int .i64 ((L.length : Int) - ((restV L t n).length : Int))) ∧ StX w w' p (restV L t n) := by
  obtain ⟨X, h1, h2, h3⟩ := h
  refine (strim_any p L X t n u h1).mono ?_
  rintro e w' ⟨rfl, X', j1, j2⟩
  exact ⟨rfl, X', j1, h2.trans (j2.chg.below h2.size h3), fun k hk => (j2.new k hk).1.elim (h3 k) (fun e => Nat.le_trans h2.size e)⟩
end Go.Proofs.YtpnjcflfnoamoaaGreat

