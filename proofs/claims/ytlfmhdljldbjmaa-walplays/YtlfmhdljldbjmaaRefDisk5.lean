/-
  What the document's own disks (hourglassref8: lay of a Disk) leave: a file laid among the others.
-/
import Derived.Test.YtlfmhdljldbjmaaRefDisk4
import Derived.Test.YtlfmhdljldbjmaaEls
namespace Go.Proofs.Ytlfmhdljldbjmaa
open Go.RowKit
set_option linter.unusedVariables false

theorem fileEl : ElT 39 79 3 48 := ElT.mk' (z := .agg #[.string ⟨#[]⟩, .slice none 0 0, .int .i64 0]) Try.underlying39 (by kernel_rfl) (by kernel_rfl) (by decide) (by decide)
/-- A file's three cells. -/
structure FCell where
  name : List Int
  a : Option Addr
  n : Nat
  c : Nat
  safe : Nat
def fenc (x : FCell) : List Value := [.string (strOfNums x.name), .slice x.a x.n x.c, .int .i64 (x.safe : Nat)]
theorem fenc_len (x : FCell) : (fenc x).length = 3 := rfl
theorem fenc_one (x : FCell) : ∀ u ∈ fenc x, u.oneCell' = true := by intro u hu; simp [fenc] at hu; rcases hu with rfl | rfl | rfl <;> rfl
/-- The files' cells and their bytes. -/
structure FitF (u : World) (f : FileV) (x : FCell) (X : Foot) (g b : Nat) : Prop where
  name : x.name = f.name
  n : x.n = f.b.length
  safe : x.safe = f.safe
  buf : Buf u x.a x.c f.b X g b
theorem DiskR.cells {u : World} {b g cap : Nat} {S : DS} {X : Foot} (hall : ∀ (i : Nat) f, S.fs[i]? = some f → FileR u b g (i * 3) f X) : ∃ xs : List FCell, xs.length = S.fs.length ∧ (∀ (i : Nat) f x, S.fs[i]? = some f → xs[i]? = some x → FitF u f x X g b) ∧ Lies u (some ⟨g, 0, none⟩) (xs.flatMap fenc) := by
  generalize hfs : S.fs = fs at hall ⊢
  clear hfs
  have hex : ∀ (n : Nat), n ≤ fs.length → ∃ xs : List FCell, xs.length = n ∧ (∀ (i : Nat) f x, i < n → fs[i]? = some f → xs[i]? = some x → FitF u f x X g b) ∧ ∀ (i : Nat) x, xs[i]? = some x → u.cell? ⟨g, i * 3, none⟩ = some (.string (strOfNums x.name)) ∧ u.cell? ⟨g, i * 3 + 1, none⟩ = some (.slice x.a x.n x.c) ∧ u.cell? ⟨g, i * 3 + 2, none⟩ = some (.int .i64 (x.safe : Nat)) := by
    intro n
    induction n with
    | zero => intro _; exact ⟨[], rfl, fun i f x hi => absurd hi (by omega), fun i x hx => by simp at hx⟩
    | succ n ih =>
      intro hn
      obtain ⟨xs, h1, h2, h3⟩ := ih (by omega)
      have hlt : n < fs.length := by omega
      obtain ⟨f, hf⟩ : ∃ f, fs[n]? = some f := ⟨_, List.getElem?_eq_getElem hlt⟩
      obtain ⟨x0, ⟨a, c, y1, y2⟩, x2⟩ := hall n f hf
      refine ⟨xs ++ [⟨f.name, a, f.b.length, c, f.safe⟩], by simp [h1], fun i f' x hi hf' hx => ?_, fun i x hx => ?_⟩
      · rcases Nat.lt_or_ge i n with h' | h'
        · rw [List.getElem?_append_left (by omega)] at hx
          exact h2 i f' x h' hf' hx
        · obtain rfl : i = n := by omega
          rw [List.getElem?_append_right (by omega), h1, Nat.sub_self] at hx
          rw [hf] at hf'
          injection hf' with hf'
          simp at hx
          subst hf'; subst hx
          exact ⟨rfl, rfl, rfl, y2⟩
      · rcases Nat.lt_or_ge i n with h' | h'
        · rw [List.getElem?_append_left (by omega)] at hx
          exact h3 i x hx
        · rw [List.getElem?_append_right (by omega), h1] at hx
          have hi : i - n = 0 := by
            rcases Nat.eq_zero_or_pos (i - n) with h0 | h0
            · exact h0
            · rw [List.getElem?_eq_none (by simp; omega)] at hx; cases hx
          obtain rfl : i = n := by omega
          rw [Nat.sub_self] at hx
          simp at hx
          subst hx
          exact ⟨x0, y1, x2⟩
  obtain ⟨xs, h1, h2, h3⟩ := hex fs.length (Nat.le_refl _)
  refine ⟨xs, h1, fun i f x hf hx => h2 i f x ((List.getElem?_eq_some_iff.1 hf).1) hf hx, lies_of fun j v hv => ?_⟩
  have hq : j / 3 < xs.length := by
    have := (List.getElem?_eq_some_iff.1 hv).1
    rw [flat_len (enc := fenc) (size := 3) xs (fun x _ => fenc_len x)] at this
    omega
  have hel := flat_at (enc := fenc) (size := 3) xs (j / 3) (xs[j / 3]) (fun x _ => fenc_len x) (List.getElem?_eq_getElem hq)
  obtain ⟨z0, z1, z2⟩ := h3 (j / 3) (xs[j / 3]) (List.getElem?_eq_getElem hq)
  have hj : j = j / 3 * 3 + j % 3 := by omega
  have hv2 : (fenc (xs[j / 3]))[j % 3]? = some v := by
    rw [← hel, List.getElem?_take_of_lt (by omega), List.getElem?_drop, ← hj]; exact hv
  rw [Nat.zero_add]
  have h3' : j % 3 = 0 ∨ j % 3 = 1 ∨ j % 3 = 2 := by omega
  rcases h3' with e | e | e
  · rw [e] at hv2 hj; simp [fenc] at hv2; rw [hj, ← hv2]; exact z0
  · rw [e] at hv2 hj; simp [fenc] at hv2; rw [hj, ← hv2]; exact z1
  · rw [e] at hv2 hj; simp [fenc] at hv2; rw [hj, ← hv2]; exact z2
theorem lay_split (f : FileV) : ∀ (fs : List FileV) (k : Nat), k ≤ fs.length → (∀ j g, j < k → fs[j]? = some g → Op.bytesLess (strOfNums g.name).toList (strOfNums f.name).toList = true) → (∀ g, fs[k]? = some g → Op.bytesLess (strOfNums g.name).toList (strOfNums f.name).toList = false) → layN f fs = fs.take k ++ f :: fs.drop k
  | [], k, hk, _, _ => by simp at hk; subst hk; rfl
  | g :: r, 0, _, _, h => by
    have := h g rfl
    unfold layN
    rw [this]
    simp
  | g :: r, k + 1, hk, h1, h2 => by
    have h0 := h1 0 g (by omega) rfl
    unfold layN
    rw [if_pos h0, lay_split f r k (by simpa using hk) (fun j x hj hx => h1 (j + 1) x (by omega) (by simpa using hx)) (fun x hx => h2 x (by simpa using hx))]
    rfl
end Go.Proofs.Ytlfmhdljldbjmaa
