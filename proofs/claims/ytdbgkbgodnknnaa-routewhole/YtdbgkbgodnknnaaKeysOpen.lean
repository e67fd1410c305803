/-
  A list of keys that came in.
-/
import Derived.Test.YtdbgkbgodnknnaaKeyList
import Derived.Test.YtdbgkbgodnknnaaNested
import Derived.ProofKit
import Derived.OpenShut
import Derived.ChangeSame
import Derived.Deep.Slices
namespace Go.Proofs.Ytdbgkbgodnknnaa
open Go.RowKit Go.ChangeShapes Go.WideShapes Go.ChangeAt Go.Deep
set_option linter.unusedVariables false

theorem add_add (a : Addr) (x y : Nat) : (a.add x).add y = a.add (x + y) := by
  unfold Addr.add
  by_cases h1 : x = 0
  · simp [h1]
  · by_cases h2 : y = 0
    · simp [h2]
    · have h3 : ¬ (x + y = 0) := by omega
      simp only [if_neg h1, if_neg h2, if_neg h3, Nat.add_assoc]
section
variable {H : Type} {enc : TypeId × Value → H} {w : World} {base : Nat} {held : Bool}
theorem arr_cells {P : Program} {t e : TypeId} {k : IntKind} {n fuel : Nat} {sp : Nat → Bool} {cs : List Value} {x : DataW H × List MemPlace} (ht : P.underlying t = some (.array n e)) (he : P.underlying e = some (.int k)) (ct : P.cellsOf t = n) (ce : P.cellsOf e = 1) (hs : cs.length = n)
    (hf : DataW.trod enc P w base sp held fuel t cs = some x) : ∃ zs : List Int, cs = zs.map (Value.int k) ∧ IsArr k n zs := by
  cases fuel with
  | zero => simp [DataW.trod] at hf
  | succ m =>
    rw [DataW.trod_step] at hf
    unfold DataW.trodStep at hf
    simp only [ht] at hf
    rw [if_pos (by rw [ct]; exact hs)] at hf
    simp only [Option.map_eq_some_iff] at hf
    obtain ⟨ys, hy, _⟩ := hf
    have each : ∀ i, i < n → ∃ z : Int, cs[i]? = some (.int k z) ∧ (Lit.int k z).wf = true := by
      intro i hi
      obtain ⟨y, hy'⟩ := mapM_each hy i (by simpa using hi)
      obtain ⟨z, hz, _, hwf⟩ := DataW.trod_int he hy'
      rw [ce, Nat.mul_one] at hz
      refine ⟨z, ?_, hwf⟩
      have h2 := congrArg (fun l => l[0]?) hz
      simpa using h2
    obtain ⟨f, hfz⟩ := choose_lt each
    refine ⟨(List.range n).map f, ?_, by simp, fun z hz => ?_⟩
    · apply List.ext_getElem
      · simp; omega
      · intro i h1 h2
        simp at h2
        have := (hfz i h2).1
        rw [List.getElem?_eq_getElem h1] at this
        simp at this
        simp [this]
    · simp at hz
      obtain ⟨i, hi, rfl⟩ := hz
      exact (hfz i hi).2
theorem IsArr.ky {zs : List Int} (h : IsArr .u8 16 zs) : Ky zs := ⟨h.1, fun z hz => bounds_u8 (h.2 z hz)⟩
theorem keys_open {P : Program} {t e q : TypeId} {fuel : Nat} {a : Option Addr} {len cap : Nat} {x : DataW H × List MemPlace} (ht : P.underlying t = some (.slice e)) (he : P.underlying e = some (.array 16 q)) (hq : P.underlying q = some (.int .u8)) (ce : P.cellsOf e = 16) (cq : P.cellsOf q = 1)
    (h : DataW.trod enc P w base (fun _ => true) held fuel t [.slice a len cap] = some x) : ∃ ls : List (List Int), ls.length = len ∧ KeysAt w a ls ∧ len ≤ cap := by
  rcases open_slice ht h with ⟨hcs, _⟩ | ⟨ad, l, c, m, n, D, Pl, hcs, _, hl, _, hmm, _, hx⟩
  · simp at hcs
    obtain ⟨rfl, rfl, rfl⟩ := hcs
    exact ⟨[], rfl, ⟨lies_none _ _, fun k hk => by simp at hk, fun _ => rfl⟩, Nat.le_refl _⟩
  · simp at hcs
    obtain ⟨rfl, rfl, rfl⟩ := hcs
    simp only [if_true] at hmm
    have key : ∀ i, i < len → ∃ Z : List Int, Ky Z ∧ ∀ j, j < 16 → w.cell? (ad.add (i * 16 + j)) = some (.int .u8 (Z.getD j 0)) := by
      intro i hi
      obtain ⟨cs, hc, htr⟩ := hx i (by omega)
      rw [ce] at hc
      obtain ⟨_, hlen, hcell⟩ := World.cells?_some hc
      obtain ⟨zs, rfl, hz⟩ := arr_cells he hq ce cq hlen htr
      refine ⟨zs, hz.ky, fun j hj => ?_⟩
      have h1 := hcell j (by omega)
      have hjl : j < zs.length := by rw [hz.1]; exact hj
      rw [List.getElem?_map, List.getElem?_eq_getElem hjl] at h1
      have e : (ad.add (i * 16)).add j = ad.add (i * 16 + j) := add_add ad (i * 16) j
      rw [← e, h1]
      simp [List.getD, hjl]
    have hch : ∃ f : Nat → List Int, ∀ i, i < len → Ky (f i) ∧ ∀ j, j < 16 → w.cell? (ad.add (i * 16 + j)) = some (.int .u8 ((f i).getD j 0)) := by
      refine ⟨fun i => if hi : i < len then (key i hi).choose else [], fun i hi => ?_⟩
      simp only [dif_pos hi]
      exact (key i hi).choose_spec
    obtain ⟨f, hf⟩ := hch
    have hkys : Kys ((List.range len).map f) := fun k hk => by
      obtain ⟨i, hi, rfl⟩ := List.mem_map.1 hk
      exact (hf i (by simpa using hi)).1
    refine ⟨(List.range len).map f, by simp, ⟨fun sa hsa => ?_, hkys, fun h => by cases h⟩, hl⟩
    injection hsa with hsa
    subst hsa
    have hcell : ∀ j u, (((List.range len).map f).flatMap kc)[j]? = some u → w.cell? (ad.add j) = some u := by
      intro j u hj
      have hlen : (((List.range len).map f).flatMap kc).length = len * 16 := by rw [flat_len _ hkys.len]; simp
      have hjl : j < len * 16 := by
        rw [← hlen]
        exact (List.getElem?_eq_some_iff.1 hj).1
      have hi : j / 16 < len := by omega
      have hr : j % 16 < 16 := Nat.mod_lt _ (by omega)
      have e0 : j / 16 * 16 + j % 16 = j := by omega
      obtain ⟨hk, hc⟩ := hf (j / 16) hi
      have h1 := hc (j % 16) hr
      rw [e0] at h1
      rw [h1]
      have h2 := flat_at ((List.range len).map f) (j / 16) (f (j / 16)) hkys.len (by simp [hi])
      have h3 : ((((List.range len).map f).flatMap kc).drop (j / 16 * 16))[j % 16]? = some u := by rw [List.getElem?_drop, e0]; exact hj
      have h4 : (((((List.range len).map f).flatMap kc).drop (j / 16 * 16)).take 16)[j % 16]? = some u := by rw [List.getElem?_take_of_lt hr]; exact h3
      rw [h2] at h4
      have hkl : j % 16 < (f (j / 16)).length := by rw [hk.len]; exact hr
      unfold kc at h4
      rw [List.getElem?_map, List.getElem?_eq_getElem hkl] at h4
      simp at h4
      rw [← h4]
      simp [List.getD, hkl]
    refine ⟨fun hne => ?_, hcell⟩
    cases hv : ((List.range len).map f).flatMap kc with
    | nil => exact absurd hv hne
    | cons v r =>
      have h0 := hcell 0 v (by rw [hv]; rfl)
      obtain ⟨b, off, spot⟩ := ad
      simpa [Addr.add] using World.cell?_spot h0
end
end Go.Proofs.Ytdbgkbgodnknnaa
