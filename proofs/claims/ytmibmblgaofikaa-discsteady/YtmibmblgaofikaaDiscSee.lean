/-
  What See of a clock of package disc answers.
-/
import Derived.Test.YtmibmblgaofikaaDiscN
namespace Go.Proofs.Ytmibmblgaofikaa
open Go.RowKit
set_option linter.unusedVariables false

/-! Operations of See's test that are passed over where the stamp may not be. -/
def opD9 (p : String) : Oper := { dst := some 9, op := Op.fieldAddr 32 (Operand.tmp 3) 0, type := 0, pos := p, after := #[{ on := 3, ground := Ground.guard }], guard := some (3, false) }
def opD10 (p : String) : Oper := { dst := some 10, op := Op.load 2 (Operand.tmp 9), type := 2, pos := p, after := #[{ on := 4, ground := Ground.data }, { on := 3, ground := Ground.guard }], guard := some (3, false) }
def opD11 (p : String) : Oper := { dst := some 11, op := Op.move (Operand.tmp 0), type := 23, pos := p, after := #[{ on := 3, ground := Ground.guard }], guard := some (3, false) }
def opD12 (p : String) : Oper := { dst := some 12, op := Op.nilCheck (Operand.tmp 11), type := 0, pos := p, after := #[{ on := 6, ground := Ground.data }, { on := 3, ground := Ground.guard }], guard := some (3, false) }
def opD13 (p : String) : Oper := { dst := some 13, op := Op.fieldAddr 49 (Operand.tmp 12) 1, type := 0, pos := p, after := #[{ on := 7, ground := Ground.data }, { on := 3, ground := Ground.guard }], guard := some (3, false) }
def opD14 (p : String) : Oper := { dst := some 14, op := Op.load 2 (Operand.tmp 13), type := 2, pos := p, after := #[{ on := 8, ground := Ground.data }, { on := 3, ground := Ground.guard }], guard := some (3, false) }
def opD15 (p : String) : Oper := { dst := some 15, op := Op.binOp BinOp.leq 2 (Operand.tmp 10) (Operand.tmp 14) 2, type := 4, pos := p, after := #[{ on := 5, ground := Ground.data }, { on := 9, ground := Ground.data }, { on := 3, ground := Ground.guard }], guard := some (3, false) }
set_option maxHeartbeats 1000000 in
theorem dsee_any (b : Nat) (node high off t n : Int) (w : World) (h : CkD w b node high off) (g1 : -1 ≤ high) (g2 : high ≤ 36028797018963967) :
    Calls Try.prog 13 #[.pointer (some ⟨b, 0, none⟩), .agg #[.int .i64 t, .int .u8 n]] w fun e w' => e = .returned (.bool (decide (okT t ∧ high < t))) ∧ WentD w w' b node (seeN high t) off := by
  obtain ⟨V, hV⟩ : ∃ V, V = w.alloc (.cells #[.int .i64 t, .int .u8 n] 32) := ⟨_, rfl⟩
  have HVB : Hid (Below w.heap.size w V) := by rw [hV]; exact (Below.refl _ _).alloc (Nat.le_refl _) _
  have q0 : V.cell? ⟨w.heap.size, 0, none⟩ = some (.int .i64 t) := by rw [hV, World.cell?_alloc_new]; rfl
  have q1 : V.cell? ⟨w.heap.size, 1, none⟩ = some (.int .u8 n) := by rw [hV, World.cell?_alloc_new]; rfl
  have hVs : w.heap.size < V.heap.size := by rw [hV]; simp
  have HC : Hid (∀ u, Below V.heap.size V u → CkR u b node high off) := fun u hb => (by rw [hV] at hb; exact (h.past _).step hb)
  have HT : Hid (∀ u, Below V.heap.size V u → u.cell? ⟨w.heap.size, 0, none⟩ = some (.int .i64 t)) := fun u hb => by rw [hb.cell (p := ⟨w.heap.size, 0, none⟩) hVs]; exact q0
  have CG : Hid (∀ u, Below V.heap.size V u → Calls Try.prog 25 #[.agg #[.int .i64 t, .int .u8 n]] u fun e w' => e = .returned (.bool (decide (okT t))) ∧ Below V.heap.size V w') := fun u hb => (dgood_any t n u).mono (by rintro e u' ⟨rfl, h'⟩; exact ⟨rfl, hb.trans (h'.mono hb.size)⟩)
  have GV : Hid (∀ u, Below V.heap.size V u → w.grownBy u (some b)) := fun u hb => grown_of_below (HVB.out.trans (hb.mono HVB.out.size)) _
  by_cases ho : okT t
  · rw [decide_eq_true ho] at CG
    by_cases hl : high < t
    · rw [decide_eq_true (show okT t ∧ high < t from ⟨ho, hl⟩)]
      have es : seeN high t = t := if_pos ⟨ho, hl⟩
      rw [es]
      have hlb : ¬ t ≤ high := by omega
      have hlb2 : decide (t ≤ high) = false := decide_eq_false hlb
      clear es ho hVs h
      go_enter Try.func13, Try.ntmps13
      go_wp2
      rw [← hV]
      clear hV
      go_region_with (go_at_call 25; refine (CG.out _ (by first | exact Below.refl _ _ | exact (Below.refl _ _).drew)).mono ?_; rintro e v1 ⟨rfl, hb1⟩; have B1 : Hid (Below V.heap.size V v1) := hb1; have t1 := HT.out v1 hb1; have k1 := (HC.out v1 hb1).c1; have f1 := (HC.out v1 hb1).free 1; clear hb1)
      all_goals go_wp2
      all_goals go_ret
      all_goals exact ⟨rfl, (HC.out v1 B1.out).high t, (GV.out v1 B1.out).trans (grown_set _ b 1 _)⟩
    · rw [decide_eq_false (show ¬ (okT t ∧ high < t) from fun h => hl h.2)]
      have es : seeN high t = high := if_neg (fun h => hl h.2)
      rw [es]
      have hlb : t ≤ high := by omega
      have hlb2 : decide (t ≤ high) = true := decide_eq_true hlb
      clear es ho hVs h hl
      go_enter Try.func13, Try.ntmps13
      go_wp2
      rw [← hV]
      clear hV
      go_region_with (go_at_call 25; refine (CG.out _ (by first | exact Below.refl _ _ | exact (Below.refl _ _).drew)).mono ?_; rintro e v1 ⟨rfl, hb1⟩; have B1 : Hid (Below V.heap.size V v1) := hb1; have t1 := HT.out v1 hb1; have k1 := (HC.out v1 hb1).c1; have f1 := (HC.out v1 hb1).free 1; clear hb1)
      all_goals go_wp2
      all_goals go_ret
      all_goals exact ⟨rfl, HC.out v1 B1.out, GV.out v1 B1.out⟩
  · rw [decide_eq_false ho] at CG
    rw [decide_eq_false (show ¬ (okT t ∧ high < t) from fun h => ho h.1)]
    have KS0 : Hid (∀ u, Below V.heap.size V u → u.cell? ⟨w.heap.size, 0, none⟩ = some (.int .i64 t) ∧ u.cell? ⟨w.heap.size, 1, none⟩ = some (.int .u8 n)) := fun u hb => ⟨HT.out u hb, by rw [hb.cell (p := ⟨w.heap.size, 1, none⟩) hVs]; exact q1⟩
    have es : seeN high t = high := if_neg (fun h => ho h.1)
    rw [es]
    clear es ho hVs h
    go_enter Try.func13, Try.ntmps13
    go_wp2
    rw [← hV]
    clear hV
    have KS : Hid (∀ u, Below V.heap.size V u → u.cell? ⟨w.heap.size, 0, none⟩ = some (.int .i64 t) ∧ u.cell? ⟨w.heap.size, 1, none⟩ = some (.int .u8 n)) := KS0
    have hop9 : ∀ p, opD9 p = { dst := some 9, op := Op.fieldAddr 32 (Operand.tmp 3) 0, type := 0, pos := p, after := #[{ on := 3, ground := Ground.guard }], guard := some (3, false) } := fun _ => rfl
    have hop10 : ∀ p, opD10 p = { dst := some 10, op := Op.load 2 (Operand.tmp 9), type := 2, pos := p, after := #[{ on := 4, ground := Ground.data }, { on := 3, ground := Ground.guard }], guard := some (3, false) } := fun _ => rfl
    have hop11 : ∀ p, opD11 p = { dst := some 11, op := Op.move (Operand.tmp 0), type := 23, pos := p, after := #[{ on := 3, ground := Ground.guard }], guard := some (3, false) } := fun _ => rfl
    have hop12 : ∀ p, opD12 p = { dst := some 12, op := Op.nilCheck (Operand.tmp 11), type := 0, pos := p, after := #[{ on := 6, ground := Ground.data }, { on := 3, ground := Ground.guard }], guard := some (3, false) } := fun _ => rfl
    have hop13 : ∀ p, opD13 p = { dst := some 13, op := Op.fieldAddr 49 (Operand.tmp 12) 1, type := 0, pos := p, after := #[{ on := 7, ground := Ground.data }, { on := 3, ground := Ground.guard }], guard := some (3, false) } := fun _ => rfl
    have hop14 : ∀ p, opD14 p = { dst := some 14, op := Op.load 2 (Operand.tmp 13), type := 2, pos := p, after := #[{ on := 8, ground := Ground.data }, { on := 3, ground := Ground.guard }], guard := some (3, false) } := fun _ => rfl
    have hop15 : ∀ p, opD15 p = { dst := some 15, op := Op.binOp BinOp.leq 2 (Operand.tmp 10) (Operand.tmp 14) 2, type := 4, pos := p, after := #[{ on := 5, ground := Ground.data }, { on := 9, ground := Ground.data }, { on := 3, ground := Ground.guard }], guard := some (3, false) } := fun _ => rfl
    rw [← hop9, ← hop10, ← hop11, ← hop12, ← hop13, ← hop14, ← hop15]
    go_region_held3 (fun u => u.cell? ⟨w.heap.size, 0, none⟩ = some (.int .i64 t) ∧ u.cell? ⟨w.heap.size, 1, none⟩ = some (.int .u8 n)) (first | exact KS.out _ (by assumption) | exact KS.out _ (Below.refl _ _).drew) (first | (go_at_call 25; refine (CG.out _ (by first | assumption | exact (Below.refl _ _).drew)).mono ?_; rintro e v1 ⟨rfl, hb1⟩))
    all_goals go_wp2
    all_goals go_ret
    all_goals exact ⟨rfl, HC.out v1 hb1, GV.out v1 hb1⟩
end Go.Proofs.Ytmibmblgaofikaa
