/-
  Layer 7's own first question (awake): it answers true, and turns nothing that was there. A clock that plays on.
-/
import Derived.Test.YtmibmblgaofikaaDiscC
import Derived.Test.YtmibmblgaofikaaRowBase
import Derived.Laws.MakeOwn
namespace Go.Proofs.Ytmibmblgaofikaa
open Go.RowKit
set_option linter.unusedVariables false

/-- A clock that the call made itself, and what was there before. -/
structure Play (w u : World) (b : Nat) (node high off : Int) : Prop where
  ck : CkD u b node high off
  base : w.heap.size ≤ b
  below : Below w.heap.size w u
theorem Play.went {w u u' : World} {b : Nat} {node high off high' off' : Int} (h : Play w u b node high off) (g : WentD u u' b node high' off') : Play w u' b node high' off' :=
  ⟨g.ck, h.base, h.below.grown g.grown h.below.size (fun k hk => by injection hk with hk; subst hk; exact h.base)⟩
theorem Play.step {w u u' : World} {b : Nat} {node high off : Int} (h : Play w u b node high off) (hb : Below u.heap.size u u') : Play w u' b node high off :=
  ⟨h.ck.kept (grown_of_below hb none) (by simp), h.base, h.below.trans (hb.mono h.below.size)⟩
theorem Play.past {w u : World} {b : Nat} {node high off : Int} (h : Play w u b node high off) (o : Obj) : Play w (u.alloc o) b node high off := h.step ((Below.refl _ _).alloc (Nat.le_refl _) o)
theorem Play.made {w u u' : World} {b : Nat} {node high : Int} (hb : Below w.heap.size w u) (h1 : u.heap.size ≤ b) (h2 : CkD u' b node high 0) (h3 : Below u.heap.size u u') : Play w u' b node high 0 :=
  ⟨h2, Nat.le_trans hb.size h1, hb.trans (h3.mono hb.size)⟩
/-- A stamp in a block of its own. -/
structure StAt (u : World) (b : Nat) (t n : Int) : Prop where
  c0 : u.cell? ⟨b, 0, none⟩ = some (.int .i64 t)
  c1 : u.cell? ⟨b, 1, none⟩ = some (.int .u8 n)
theorem StAt.lt {u : World} {b : Nat} {t n : Int} (h : StAt u b t n) : b < u.heap.size := by
  have h0 := h.c0
  rcases Nat.lt_or_ge b u.heap.size with h' | h'
  · exact h'
  · simp [World.cell?, Array.getElem?_eq_none h'] at h0
theorem StAt.made (u : World) (T : TypeId) (t n : Int) (b : Nat) (hb : b = u.heap.size) : StAt (u.alloc (.cells #[.int .i64 t, .int .u8 n] T)) b t n := by
  subst hb
  exact ⟨by rw [World.cell?_alloc_new]; rfl, by rw [World.cell?_alloc_new]; rfl⟩
theorem StAt.kept {u u' : World} {b : Nat} {t n : Int} {row : Option Nat} (h : StAt u b t n) (hg : u.grownBy u' row) (hne : some b ≠ row) : StAt u' b t n := by
  have hk := hg.block b h.lt hne
  exact ⟨(World.cell?_of_block (a := ⟨b, 0, none⟩) hk).trans h.c0, (World.cell?_of_block (a := ⟨b, 1, none⟩) hk).trans h.c1⟩
theorem StAt.step {u u' : World} {b : Nat} {t n : Int} (h : StAt u b t n) (hb : Below u.heap.size u u') : StAt u' b t n := h.kept (grown_of_below hb none) (by simp)
theorem StAt.past {u : World} {b : Nat} {t n : Int} (h : StAt u b t n) (o : Obj) : StAt (u.alloc o) b t n := h.step ((Below.refl _ _).alloc (Nat.le_refl _) o)
/-- 'make([]int64, n)'. -/
def zer (n : Nat) : Array Value := madeCells (Value.int IntKind.i64 0).cells n
theorem run_i64s (w : World) (n : Nat) (hn : n ≤ 1000000) : (Instr.makeSlice 28 (.int .i64 n) (.int .i64 n)).run Try.prog w = .ok (.slice (some ⟨w.heap.size, 0, none⟩) n n) (w.alloc (.cells (zer n) 2)) := by
  obtain ⟨i0, hi, hz0, hz1, hz2⟩ := info_of info2
  have h := run_make (P := Try.prog) w 28 2 i0 (.int .i64 0) Try.underlying28 hi hz0 .i64 .i64 (n : Int) (n : Int) (by omega) (by omega) (by rw [hz2]; omega) (by omega)
  rw [hz1] at h
  have e1 : ((n : Int)).toNat = n := by omega
  rw [e1, Nat.mul_one] at h
  exact h
/-- Numbers that came in. -/
theorem row64_in {w : World} {a : Option Addr} {len cap : Nat} {z : List Int}
    (h : (a = none ∧ len = 0 ∧ cap = 0 ∧ z = []) ∨ ∃ x, a = some x ∧ len ≤ cap ∧ cap ≤ maxLen ∧ z.length = cap ∧ (∀ i, i < z.length → w.cell? (x.add i) = some (.int .i64 (z.getD i 0))) ∧ ∀ n ∈ z, (Lit.int .i64 n).wf = true) :
    ∃ zs : List Int, zs.length = len ∧ len ≤ cap ∧ Row64 w a zs := by
  rcases h with ⟨rfl, rfl, rfl, rfl⟩ | ⟨x, rfl, hl, hm, hz, hc, hw⟩
  · exact ⟨[], rfl, Nat.le_refl _, ⟨by simp, .inl rfl⟩⟩
  · exact ⟨z.take len, by simp; omega, hl, row64_of (by omega) hc hw⟩
theorem Row64.step {w u : World} {a : Option Addr} {zs : List Int} (h : Row64 w a zs) (hu : Below w.heap.size w u) : Row64 u a zs := by
  refine ⟨h.nums, ?_⟩
  rcases h.cells with h' | ⟨b, o, ha, hc⟩
  · exact .inl h'
  · exact .inr ⟨b, o, ha, fun j hj => (hu.cell (p := ⟨b, o + j, none⟩) (lt_of_cell (hc j hj))).trans (hc j hj)⟩
theorem Row64.at {w : World} {a : Option Addr} {zs : List Int} (h : Row64 w a zs) {i : Nat} (hi : i < zs.length) : ∃ b o Y, a = some ⟨b, o, none⟩ ∧ Y = zs.getD i 0 ∧ -9223372036854775808 ≤ Y ∧ Y ≤ 9223372036854775807 ∧ (∀ u, Below w.heap.size w u → u.cell? ⟨b, o + i, none⟩ = some (.int .i64 Y)) := by
  rcases h.cells with h' | ⟨b, o, ha, hc⟩
  · rw [h'] at hi; simp at hi
  · have hb := h.nums (zs.getD i 0) (by simp [List.getD, hi])
    refine ⟨b, o, _, ha, rfl, hb.1, hb.2, fun u hu => ?_⟩
    have h0 := hc i hi
    exact (hu.cell (p := ⟨b, o + i, none⟩) (lt_of_cell h0)).trans h0
set_option maxHeartbeats 1000000 in
theorem awake_any (w : World) : Calls Try.prog 9 #[] w fun e w' => e = .returned (.bool true) ∧ Below w.heap.size w w' := by
  have C1 : Hid (∀ u, Below w.heap.size w u → Calls Try.prog 10 #[.int .u8 3, .int .i64 (-1)] u fun e w' => ∃ b, e = .returned (.tuple #[.pointer (some ⟨b, 0, none⟩), .int .i64 0]) ∧ Play w w' b 3 (-1) 0) := fun u hb => (dnew_ok 3 (-1) u (by omega) (by omega) (by omega)).mono (by rintro e u' ⟨b, rfl, h1, h2, h3⟩; exact ⟨b, rfl, Play.made hb h1 h2 h3⟩)
  have C2 : Hid (∀ u b, Play w u b 3 (-1) 0 → Calls Try.prog 14 #[.pointer (some ⟨b, 0, none⟩), .int .i64 (-5)] u fun e w' => e = .returned (.tuple #[.agg #[.int .i64 0, .int .u8 3], .int .i64 0]) ∧ WentD u w' b 3 0 0) := fun u b h => dissue_any b 3 (-1) 0 (-5) u h.ck (by omega) (by omega) (by omega) (by omega) (by omega) (by omega)
  have C3 : Hid (∀ u b, Play w u b 3 0 0 → Calls Try.prog 14 #[.pointer (some ⟨b, 0, none⟩), .int .i64 (-5)] u fun e w' => e = .returned (.tuple #[.agg #[.int .i64 1, .int .u8 3], .int .i64 0]) ∧ WentD u w' b 3 1 0) := fun u b h => dissue_any b 3 0 0 (-5) u h.ck (by omega) (by omega) (by omega) (by omega) (by omega) (by omega)
  have C4 : Hid (∀ u b, Play w u b 3 1 0 → Calls Try.prog 20 #[.pointer (some ⟨b, 0, none⟩)] u fun e w' => e = .returned (.int .i64 1) ∧ Play w w' b 3 1 0) := fun u b h => (dhigh_any b 3 1 0 u h.ck).mono (by rintro e u' ⟨rfl, hb⟩; exact ⟨rfl, h.step hb⟩)
  go_enter Try.func9, Try.ntmps9
  go_wp2_with (first | (go_at_call 20; have hgo := P3.out; clear hgo; refine (C4.out _ _ P3.out).mono ?_; rintro e v4 ⟨rfl, hp4⟩; have P4 : Hid (Play w v4 b 3 1 0) := hp4; clear hp4) | (go_at_call 14; have hgo := P2.out; clear hgo; refine (C3.out _ _ P2.out).mono ?_; rintro e v3 ⟨rfl, hg3⟩; have P3 : Hid (Play w (v3.alloc (.cells #[.int .i64 1, .int .u8 3] 32)) b 3 1 0) := (P2.out.went hg3).past _; have S3 : Hid (StAt (v3.alloc (.cells #[.int .i64 1, .int .u8 3] 32)) v2.heap.size 0 3) := (S2.out.kept hg3.grown (by have := L2.out; simp; omega)).past _; have q0 := S3.out.c0; have q1 := S3.out.c1; clear hg3) | (go_at_call 14; refine (C2.out _ _ P1.out).mono ?_; rintro e v2 ⟨rfl, hg2⟩; have L2 : Hid (b < v2.heap.size) := hg2.ck.lt; have P2 : Hid (Play w (v2.alloc (.cells #[.int .i64 0, .int .u8 3] 32)) b 3 0 0) := (P1.out.went hg2).past _; have S2 : Hid (StAt (v2.alloc (.cells #[.int .i64 0, .int .u8 3] 32)) v2.heap.size 0 3) := StAt.made _ _ _ _ _ rfl; clear hg2) | (go_at_call 10; refine (C1.out _ (Below.refl _ _)).mono ?_; rintro e v1 ⟨b, rfl, hp1⟩; have P1 : Hid (Play w v1 b 3 (-1) 0) := hp1; clear hp1))
  go_ret
  exact ⟨rfl, P4.out.below⟩
end Go.Proofs.Ytmibmblgaofikaa
