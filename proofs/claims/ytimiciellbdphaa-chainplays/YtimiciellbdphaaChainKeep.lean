/-
  A chain of the call's own beside blocks that stay as they are.
-/
import Derived.Test.YtimiciellbdphaaVerEq
import Derived.Test.YtimiciellbdphaaChainAwake
namespace Go.Proofs.Ytimiciellbdphaa
open Go.RowKit
set_option linter.unusedVariables false

def ChX (w u : World) (p : Nat) (L : List Ver) (F : Foot) : Prop := ∃ X, ChD u p L X ∧ Below w.heap.size w u ∧ (∀ k, X k → w.heap.size ≤ k) ∧ ∀ k, F k → k < u.heap.size ∧ ¬ X k
theorem ChX.chw {w u : World} {p : Nat} {L : List Ver} {F : Foot} (h : ChX w u p L F) : ChW w u p L := by obtain ⟨X, h1, h2, h3, _⟩ := h; exact ⟨X, h1, h2, h3⟩
theorem ChX.below {w u : World} {p : Nat} {L : List Ver} {F : Foot} (h : ChX w u p L F) : Below w.heap.size w u := h.chw.below
theorem ChW.keep {w u : World} {p : Nat} {L : List Ver} (h : ChW w u p L) (o : Obj) : ChX w (u.alloc o) p L (fun k => k = u.heap.size) := by
  obtain ⟨X, h1, h2, h3⟩ := h
  have hb : Below u.heap.size u (u.alloc o) := (Below.refl _ _).alloc (Nat.le_refl _) o
  exact ⟨X, h1.past hb, h2.trans (hb.mono h2.size), h3, fun k hk => by subst hk; exact ⟨by simp, fun hx => by have := h1.lt _ hx; omega⟩⟩
theorem ChX.past {w u u' : World} {p : Nat} {L : List Ver} {F : Foot} (h : ChX w u p L F) (hb : Below u.heap.size u u') : ChX w u' p L F := by
  obtain ⟨X, h1, h2, h3, h4⟩ := h
  exact ⟨X, h1.past hb, h2.trans (hb.mono h2.size), h3, fun k hk => ⟨Nat.lt_of_lt_of_le (h4 k hk).1 hb.size, (h4 k hk).2⟩⟩
theorem ChX.keep {w u : World} {p : Nat} {L : List Ver} {F : Foot} (h : ChX w u p L F) (o : Obj) : ChX w (u.alloc o) p L (fun k => F k ∨ k = u.heap.size) := by
  obtain ⟨X, h1, h2, h3, h4⟩ := h
  have hb : Below u.heap.size u (u.alloc o) := (Below.refl _ _).alloc (Nat.le_refl _) o
  refine ⟨X, h1.past hb, h2.trans (hb.mono h2.size), h3, fun k hk => ?_⟩
  rcases hk with hk | hk
  · exact ⟨by simp; have := (h4 k hk).1; omega, (h4 k hk).2⟩
  · subst hk; exact ⟨by simp, fun hx => by have := h1.lt _ hx; omega⟩
theorem xtrim_any {w u : World} {p : Nat} {L : List Ver} {F : Foot} (h : ChX w u p L F) (t n : Int) :
    Calls Try.prog 12 #[.pointer (some ⟨p, 0, none⟩), .agg #[.int .i64 t, .int .u8 n]] u fun e w' => e = .returned (.int .i64 ((L.length : Int) - ((restV L t n).length : Int))) ∧ ChX w w' p (restV L t n) F ∧ ∀ k i, F k → w'.cell? ⟨k, i, none⟩ = u.cell? ⟨k, i, none⟩ := by
  obtain ⟨X, h1, h2, h3, h4⟩ := h
  refine (ctrim_any p L X t n u h1).mono ?_
  rintro e w' ⟨e1, X', c, d⟩
  refine ⟨e1, ⟨X', c, h2.trans (d.chg.below h2.size h3), fun k hk => (d.new k hk).1.elim (h3 k) (fun e => Nat.le_trans h2.size e), fun k hk => ⟨Nat.lt_of_lt_of_le (h4 k hk).1 d.chg.size, fun hx => ?_⟩⟩, fun k i hk => ?_⟩
  · rcases (d.new k hx).1 with e | e
    · exact (h4 k hk).2 e
    · have := (h4 k hk).1; omega
  · exact World.cell?_of_block (d.chg.block k (h4 k hk).1 (h4 k hk).2)
/-- A version in a variable. -/
structure BxA (u : World) (b : Nat) (t n : Int) (S : ByteArray) (g : Bool) : Prop where
  c0 : u.cell? ⟨b, 0, none⟩ = some (.int .i64 t)
  c1 : u.cell? ⟨b, 1, none⟩ = some (.int .u8 n)
  c2 : u.cell? ⟨b, 2, none⟩ = some (.string S)
  c3 : u.cell? ⟨b, 3, none⟩ = some (.bool g)
theorem BxA.made (u : World) (T : TypeId) (t n : Int) (S : ByteArray) (g : Bool) : BxA (u.alloc (.cells #[.int .i64 t, .int .u8 n, .string S, .bool g] T)) u.heap.size t n S g := by
  constructor <;> (rw [World.cell?_alloc_new]; rfl)
theorem BxA.past {u u' : World} {b : Nat} {t n : Int} {S : ByteArray} {g : Bool} (h : BxA u b t n S g) (hb : Below u.heap.size u u') : BxA u' b t n S g :=
  ⟨(hb.cell (p := ⟨b, 0, none⟩) (lt_of_cell h.c0)).trans h.c0, (hb.cell (p := ⟨b, 1, none⟩) (lt_of_cell h.c1)).trans h.c1, (hb.cell (p := ⟨b, 2, none⟩) (lt_of_cell h.c2)).trans h.c2, (hb.cell (p := ⟨b, 3, none⟩) (lt_of_cell h.c3)).trans h.c3⟩
theorem BxA.same {u u' : World} {b : Nat} {t n : Int} {S : ByteArray} {g : Bool} (h : BxA u b t n S g) (hk : ∀ i, u'.cell? ⟨b, i, none⟩ = u.cell? ⟨b, i, none⟩) : BxA u' b t n S g :=
  ⟨(hk 0).trans h.c0, (hk 1).trans h.c1, (hk 2).trans h.c2, (hk 3).trans h.c3⟩
theorem chn_mem {L : List Ver} (h : Chn L) {X : Ver} (hX : X ∈ L) : VerOk X ∧ X.k = zeroK := by
  have hm := h.may X hX
  have hi := h.ins X hX
  unfold mayV at hm
  simp only [Bool.and_eq_true, decide_eq_true_eq] at hm
  have ht := hm.1.1
  unfold okS at ht
  exact ⟨⟨by rw [h.one X hX]; exact zeroK_ky, by omega, by omega, hi.1, hi.2.1, hi.2.2, by have := hm.1.2; omega⟩, h.one X hX⟩
theorem zeroV_ok : VerOk zeroV := ⟨zeroK_ky, by show (-9223372036854775808 : Int) ≤ 0; omega, by show (0 : Int) ≤ 9223372036854775807; omega, by show (0 : Int) ≤ 0; omega, by show (0 : Int) ≤ 255; omega, fun z hz => by simp [zeroV] at hz, by show (0 : Nat) ≤ 1000000; omega⟩
theorem chn_at {L : List Ver} (h : Chn L) (t n : Int) : VerOk (orZero (atV L zeroK t n)) := by
  cases hx : atV L zeroK t n with
  | none => exact zeroV_ok
  | some X => exact (chn_mem h (at_some_facts h.one h.ups hx).1).1
theorem chn_key {L : List Ver} (h : Chn L) (t n : Int) : (orZero (atV L zeroK t n)).k = zeroK := by
  cases hx : atV L zeroK t n with
  | none => rfl
  | some X => exact (chn_mem h (at_some_facts h.one h.ups hx).1).2
open Classical in
theorem eq_yes (u : World) {A B : Ver} (hA : VerOk A) (hB : VerOk B) (h : A = B) : (Op.equalIn 10000 47 (vv A) (vv B)).run Try.prog u = .ok true u := by rw [eq_ver u A B hA hB, decide_eq_true h]
open Classical in
theorem eq_no (u : World) {A B : Ver} (hA : VerOk A) (hB : VerOk B) (h : ¬ A = B) : (Op.equalIn 10000 47 (vv A) (vv B)).run Try.prog u = .ok false u := by rw [eq_ver u A B hA hB, decide_eq_false h]
end Go.Proofs.Ytimiciellbdphaa
