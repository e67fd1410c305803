/-
  What layer 13's statements share: an act that came in, the entries of an answer.
-/
import Derived.Test.YthgkbabikeknlaaPrepL2
import Derived.Test.YthgkbabikeknlaaPActs
namespace Go.Proofs.Ythgkbabikeknlaa
open Go.RowKit
set_option linter.unusedVariables false

theorem EntAt.cells6 {w : World} {b o : Nat} {x : EntM} (h : EntAt w b (o + 1) x) : w.cell? ⟨b, o + 1, none⟩ = some (.int .i64 x.e.id) ∧ w.cell? ⟨b, o + 1 + 5, none⟩ = some (.slice x.a x.e.l.length x.c) ∧ w.cell? ⟨b, o + 6, none⟩ = some (.slice x.a x.e.l.length x.c) := by
  have hc := h.cells
  refine ⟨hc.1, hc.2.2.2.2.2, ?_⟩
  have := hc.2.2.2.2.2
  rwa [show o + 1 + 5 = o + 6 by omega] at this
/-- An act's entry, where it is not long. -/
theorem PActOk.ent {w u : World} {y : PAct} (h : PActOk w y) (hb : Below w.heap.size w u) (hl : longW y.x.e.l = false) : EntW u y.x := by
  refine ⟨h.wr.at_.past hb, h.wr.room, ?_, h.ok⟩
  unfold longW at hl
  have := (Bool.or_eq_false_iff.1 hl).1
  have := of_decide_eq_false this
  omega
/-- An entry of an answer, in every world behind. -/
theorem AllOf.open {u : World} {B : Nat} {a : Option Addr} {N c : Nat} {L : List EntM} {E : List Ent} (h : AllOf u B (.slice a N c) L E) : N = L.length ∧ N ≤ c ∧ ∀ i y, L[i]? = some y → ∃ g, a = some ⟨g, 0, none⟩ ∧ Hid (∀ v, Below u.heap.size u v → EntAt v g (i * 6) y ∧ EntW v y) := by
  have hr := h.row
  have hN : N = L.length ∧ N ≤ c := by
    rcases hr.2 with ⟨e1, e2⟩ | ⟨g, cap, cur, e1, _, _, e5, _⟩
    · injection e1 with x1 x2 x3
      omega
    · injection e1 with x1 x2 x3
      omega
  refine ⟨hN.1, hN.2, fun i y hy => ?_⟩
  rcases hr.2 with ⟨e1, e2⟩ | ⟨g, cap, cur, e1, hg, hh, e5, _⟩
  · rw [List.eq_nil_of_length_eq_zero e2] at hy
    simp at hy
  · injection e1 with x1 x2 x3
    subst x1
    have hr2 := hr
    rw [hN.1] at hr2
    refine ⟨g, rfl, fun v hv => ⟨⟨?_⟩, ((h.own y (List.mem_of_getElem? hy)).past hv).ent⟩⟩
    have hl := ((own_lies hr2).el (size := 6) (fun z _ => encE_len z) hy).past hv
    rwa [Nat.zero_add] at hl
/-- Who holds a key of one that is there, is that one. -/
theorem hold_is {M L : List EntM} (h : TabK (ents M)) (hL : ents L = ents M) {i : Nat} {y : EntM} (hy : L[i]? = some y) {z : Nat} {W : Wrt} (hW : y.e.l[z]? = some W) : (holdM M W.k).isSome = true ∧ (orE (holdM M W.k)).e.id = y.e.id := by
  have hm : y.e ∈ ents M := by rw [← hL]; exact List.mem_map.2 ⟨y, List.mem_of_getElem? hy, rfl⟩
  have hh := h.holder hm (hask_yes hW rfl)
  rw [← holdM_e] at hh
  cases hx : holdM M W.k with
  | none => rw [hx] at hh; cases hh
  | some x =>
    rw [hx] at hh
    have he : x.e = y.e := Option.some.inj hh
    exact ⟨rfl, by show x.e.id = _; rw [he]⟩
theorem ids_up {M L : List EntM} (h : TabK (ents M)) (hL : ents L = ents M) {i j : Nat} {x y : EntM} (hij : i < j) (hx : L[i]? = some x) (hy : L[j]? = some y) : x.e.id < y.e.id := by
  rw [← hL] at h
  exact ents_up h hij hx hy
theorem xpholderB {w u : World} {p : Nat} {M : List EntM} (h : PX w u p M) (k : List Int) (hk : Ky k) :
    Calls Try.prog 12 #[.pointer (some ⟨p, 0, none⟩), kv k] u fun e w' => e = .returned (.tuple #[.int .i64 (orE (holdM M k)).e.id, .bool (holdM M k).isSome]) ∧ Below u.heap.size u w' := by
  obtain ⟨X, h1, _⟩ := id h
  exact pholder_any p M X k hk u h1
end Go.Proofs.Ythgkbabikeknlaa
