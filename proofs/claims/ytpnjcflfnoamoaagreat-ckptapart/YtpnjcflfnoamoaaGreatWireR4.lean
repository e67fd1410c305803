/-
  The landed reader: Stamp.
-/
import Derived.Test.YtpnjcflfnoamoaaGreatAu25
namespace Go.Proofs.YtpnjcflfnoamoaaGreat
open Go.RowKit
set_option linter.unusedVariables false

theorem sunpack_ex (v : Int) (w : World) (hv : 0 ≤ v ∧ v ≤ 18446744073709551615) :
    Calls Tryz.prog 130 #[.int .u64 v] w fun e w' => ∃ t n E : Int, e = .returned (.tuple #[.agg #[.int .i64 t, .int .u8 n], .int .i64 E]) ∧ ((E = 0 ∧ t = v / 256 ∧ n = v % 256 ∧ v < 9223372036854775808) ∨ (E = 1 ∧ t = 0 ∧ n = 0 ∧ ¬ v < 9223372036854775808)) ∧ Below w.heap.size w w' := by
  refine (sunpack_any v w hv).mono ?_
  rintro e w' ⟨rfl, hb⟩
  by_cases h : v < 9223372036854775808
  · rw [if_pos h, if_pos h, if_pos h]
    exact ⟨_, _, _, rfl, .inl ⟨rfl, rfl, rfl, h⟩, hb⟩
  · rw [if_neg h, if_neg h, if_neg h]
    exact ⟨_, _, _, rfl, .inr ⟨rfl, rfl, rfl, h⟩, hb⟩
/-- A box for the answer, another for the stamp, and the reader beside them. -/
structure WsB (w u : World) (g q : Nat) (zs : List Int) (b : Bool) (t n : Int) : Prop where
  r0 : u.cell? ⟨w.heap.size, 0, none⟩ = some (.int .i64 0)
  r1 : u.cell? ⟨w.heap.size, 1, none⟩ = some (.int .u8 0)
  s0 : u.frozen? ⟨w.heap.size, 0, none⟩ = false
  s1 : u.frozen? ⟨w.heap.size, 1, none⟩ = false
  q0 : u.cell? ⟨q, 0, none⟩ = some (.int .i64 t)
  q1 : u.cell? ⟨q, 1, none⟩ = some (.int .u8 n)
  lr : LR u g zs b
  chg : Chg w u (fun j => j = g)
  ne : w.heap.size < q
theorem WsB.turn {w u u' : World} {g q : Nat} {zs zs' : List Int} {b b' : Bool} {t n : Int} (h : WsB w u g q zs b t n) (hg : g < w.heap.size) (hc : Chg u u' (fun j => j = g)) (hl : LR u' g zs' b') : WsB w u' g q zs' b' t n := by
  have b1 := hc.block w.heap.size (lt_of_cell h.r0) (by omega)
  have b2 := hc.block q (lt_of_cell h.q0) (by have := h.ne; omega)
  exact ⟨(cell_of_block b1 0).1.trans h.r0, (cell_of_block b1 1).1.trans h.r1, (cell_of_block b1 0).2.trans h.s0, (cell_of_block b1 1).2.trans h.s1, (cell_of_block b2 0).1.trans h.q0, (cell_of_block b2 1).1.trans h.q1, hl, h.chg.trans hc (fun _ _ x => x), h.ne⟩
theorem chg_twoS (u : World) (q : Nat) (x y : Value) : Chg u ((u.setCell ⟨q, 0, none⟩ x).setCell ⟨q, 1, none⟩ y) (fun j => j = q) :=
  (Chg.set (X := fun j => j = q) u ⟨q, 0, none⟩ x rfl).trans (Chg.set (X := fun j => j = q) _ ⟨q, 1, none⟩ y rfl) (fun _ _ x => x)
theorem two_cellsS {u : World} {q : Nat} {x y x0 y0 : Value} (h0 : u.cell? ⟨q, 0, none⟩ = some x0) (h1 : u.cell? ⟨q, 1, none⟩ = some y0) : ((u.setCell ⟨q, 0, none⟩ x).setCell ⟨q, 1, none⟩ y).cell? ⟨q, 0, none⟩ = some x ∧ ((u.setCell ⟨q, 0, none⟩ x).setCell ⟨q, 1, none⟩ y).cell? ⟨q, 1, none⟩ = some y :=
  ⟨(set_off _ _ _ _ _ (by omega)).trans (World.cell?_setCell_same _ _ _ h0), World.cell?_setCell_same _ _ _ ((set_off _ _ _ _ _ (by omega)).trans h1)⟩
theorem WsB.done {w u : World} {g q : Nat} {zs : List Int} {b : Bool} {t n : Int} (h : WsB w u g q zs b t n) (hg : g < w.heap.size) (x y : Value) : LR ((u.setCell ⟨w.heap.size, 0, none⟩ x).setCell ⟨w.heap.size, 1, none⟩ y) g zs b ∧ Chg w ((u.setCell ⟨w.heap.size, 0, none⟩ x).setCell ⟨w.heap.size, 1, none⟩ y) (fun j => j = g) := by
  have c := chg_twoS u w.heap.size x y
  exact ⟨h.lr.above c (fun j e => by omega), h.chg.trans c (fun j hj e => by omega)⟩
theorem lstamp_any (g : Nat) (zs : List Int) (b : Bool) (w : World) (h : LR w g zs b) :
    Calls Tryz.prog 108 #[.pointer (some ⟨g, 0, none⟩)] w fun e w' => ∃ (t n : Int), e = .returned (.agg #[.int .i64 t, .int .u8 n]) ∧ okS t ∧ 0 ≤ n ∧ n ≤ 255 ∧ LRed w w' g zs b stampP (t, n) := by
  have H : Hid (LR (w.alloc (.cells #[.int .i64 0, .int .u8 0] 42)) g zs b) := h.past ((Below.refl _ _).alloc (Nat.le_refl _) _)
  have HG : Hid (g < w.heap.size) := h.lt
  have HS : Hid (∀ w1 w2 zs1 b1 t n, LR w1 g zs1 b1 → Chg (w.alloc (.cells #[.int .i64 0, .int .u8 0] 42)) w1 (fun j => j = g) → Below w1.heap.size w1 w2 → WsB w (w2.alloc (.cells #[.int .i64 t, .int .u8 n] 42)) g w2.heap.size zs1 b1 t n) := fun w1 w2 zs1 b1 t n L1 C1 B2 => by
    have hg := HG.out
    obtain ⟨r0, r1, s0, s1, z1, z2⟩ := st_kept hg C1 B2
    have ba : Below w2.heap.size w2 (w2.alloc (.cells #[.int .i64 t, .int .u8 n] 42)) := (Below.refl _ _).alloc (Nat.le_refl _) _
    refine ⟨?_, ?_, ?_, ?_, by rw [World.cell?_alloc_new]; rfl, by rw [World.cell?_alloc_new]; rfl, (L1.past B2).past ba, ?_, z2⟩
    · rw [ba.cell (p := ⟨w.heap.size, 0, none⟩) z2]; exact r0
    · rw [ba.cell (p := ⟨w.heap.size, 1, none⟩) z2]; exact r1
    · rw [ba.frozen (p := ⟨w.heap.size, 0, none⟩) z2]; exact s0
    · rw [ba.frozen (p := ⟨w.heap.size, 1, none⟩) z2]; exact s1
    · exact (((Chg.of_below ((Below.refl _ _).alloc (Nat.le_refl _) _) _).trans C1 (fun _ _ x => x)).trans (Chg.of_below B2 (fun j => j = g)) (fun _ _ x => x)).trans (Chg.of_below ba (fun j => j = g)) (fun _ _ x => x)
  clear h
  go_enter Tryz.func108, Tryz.ntmps108
  go_wp2_with (first | (go_at_call 92; refine (lnum_any g zs b _ H.out).mono ?_; rintro e w1 ⟨v, rfl, v0, v1, ⟨zs1, b1, L1, C1, D1⟩⟩; have H1 : Hid (LR w1 g zs1 b1 ∧ Chg (w.alloc (.cells #[.int .i64 0, .int .u8 0] 42)) w1 (fun j => j = g) ∧ Rds numP (stL zs b) (stL zs1 b1) v) := ⟨L1, C1, D1⟩; clear L1 C1 D1) | (have hgo := H1.out; clear hgo; go_at_call 130; refine (sunpack_ex v _ ⟨v0, v1⟩).mono ?_; rintro e w2 ⟨t, n, E, rfl, hE, B2⟩; have H2 : Hid (WsB w (w2.alloc (.cells #[.int .i64 t, .int .u8 n] 42)) g w2.heap.size zs1 b1 t n) := HS.out w1 w2 zs1 b1 t n H1.out.1 H1.out.2.1 B2; have HE : Hid ((E = 0 ∧ t = v / 256 ∧ n = v % 256 ∧ v < 9223372036854775808) ∨ (E = 1 ∧ t = 0 ∧ n = 0 ∧ ¬ v < 9223372036854775808)) := hE; have HL2 : Hid (LR w2 g zs1 b1 ∧ Chg w w2 (fun j => j = g)) := ⟨H1.out.1.past B2, ((Chg.of_below ((Below.refl _ _).alloc (Nat.le_refl _) _) _).trans H1.out.2.1 (fun _ _ x => x)).trans (Chg.of_below B2 (fun j => j = g)) (fun _ _ x => x)⟩; obtain ⟨r0, r1, s0, s1, z1, z2⟩ := st_kept HG.out H1.out.2.1 B2; clear B2 hE) | (have hgo := H2.out; clear hgo; go_at_call 93; refine (lfail_any g zs1 b1 _ H2.out.lr).mono ?_; rintro e w3 ⟨rfl, L3, C3⟩; have H3 : Hid (WsB w w3 g w2.heap.size [] true t n) := H2.out.turn HG.out C3 L3; clear r0 r1 s0 s1; obtain ⟨r0, r1, s0, s1, q0, q1, _, _, _⟩ := H3.out; clear L3 C3 H2))
  all_goals rcases HE.out with ⟨rfl, rfl, rfl, hv⟩ | ⟨rfl, rfl, rfl, hv⟩
  all_goals first | (exfalso; rename_i hc; simp at hc; done) | skip
  · have R := H3.out.done HG.out (.int .i64 0) (.int .u8 0)
    have C := two_cellsS (x := .int .i64 0) (y := .int .u8 0) r0 r1
    refine bodyPost_ret (results_stp rfl _ _ w.heap.size 0 0 rfl C.1 C.2) rfl ?_
    exact ⟨0, 0, rfl, ⟨by omega, by omega⟩, by omega, by omega, ⟨[], true, R.1, R.2, H1.out.2.2.stamp (.inl ⟨by omega, rfl⟩)⟩⟩
  · have hg := HG.out
    have c := chg_two w2 w.heap.size (.int .i64 (v / 256)) (.int .u8 (v % 256)) (.cells #[.int .i64 (v / 256), .int .u8 (v % 256)] 42)
    have C := two_cells (x := .int .i64 (v / 256)) (y := .int .u8 (v % 256)) r0 r1 (.cells #[.int .i64 (v / 256), .int .u8 (v % 256)] 42)
    refine bodyPost_ret (results_stp rfl _ _ w.heap.size (v / 256) (v % 256) rfl C.1 C.2) rfl ?_
    exact ⟨v / 256, v % 256, rfl, ⟨by omega, by omega⟩, by omega, by omega, ⟨zs1, b1, HL2.out.1.above c (fun j e => by omega), HL2.out.2.trans c (fun j hj e => by omega), H1.out.2.2.stamp (.inr ⟨hv, rfl, rfl, rfl⟩)⟩⟩
end Go.Proofs.YtpnjcflfnoamoaaGreat
