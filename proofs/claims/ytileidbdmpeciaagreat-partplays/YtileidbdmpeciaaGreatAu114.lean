/-
  Lists of versions of one key, and of calls on a chain, that came in: where their cells lie.
  The landed chains in memory: a block that bears a list of versions, four cells each, in a block of its own.
  Where a stamp lies in a list of versions that rises: the last one not above it, how many are above it, what stays when the others go. No program is named here.
  What the landed stamps' Good and Cmp answer (no variable of the library is asked).
  Where a stamp lies in the landed chains: the closure that find hands on, slices.BinarySearchFunc at lists of versions, find, upTo.
-/
import Derived.Test.YtileidbdmpeciaaGreatAu103
import Derived.Test.YtileidbdmpeciaaGreatAu113
import Derived.ProofKit
import Derived.OpenShut
import Derived.ChangeSame
import Derived.Deep.Strs
import Derived.Deep.Slices
import Derived.Below
import Derived.Test.YtileidbdmpeciaaGreatAu117
import Derived.Test.YtileidbdmpeciaaGreatAu100
import Derived.Deep.RegionHeld3
namespace Go.Proofs.YtileidbdmpeciaaGreat
open Go.RowKit Go.ChangeShapes Go.WideShapes Go.ChangeAt Go.Deep
set_option linter.unusedVariables false

theorem str_numsV (S : ByteArray) : ∃ ns : List Int, (∀ z ∈ ns, 0 ≤ z ∧ z ≤ 255) ∧ S = strOfNums ns := by
  refine ⟨S.data.toList.map fun b => (b.toNat : Int), fun z hz => ?_, ?_⟩
  · obtain ⟨b, _, rfl⟩ := List.mem_map.1 hz
    have := b.toNat_lt
    omega
  · apply ByteArray.ext
    apply Array.toList_inj.1
    have : (strOfNums (S.data.toList.map fun b => (b.toNat : Int))).data.toList = (S.data.toList.map fun b => (b.toNat : Int)).map fun n => UInt8.ofNat n.toNat := by rw [strOfNums_data]
    rw [this, List.map_map]
    have e : ((fun n : Int => UInt8.ofNat n.toNat) ∘ fun b : UInt8 => (b.toNat : Int)) = id := by
      funext b
      simp
    rw [e, List.map_id]
/-- A version of no key, as four cells. -/
def encC (V : Ver) : List Value := [.int .i64 V.t, .int .u8 V.n, .string (strOfNums V.v), .bool V.g]
abbrev cvv (V : Ver) : Value := .agg #[.int .i64 V.t, .int .u8 V.n, .string (strOfNums V.v), .bool V.g]
/-- A version that came in: of no key, its numbers in their bounds. -/
structure VerIn (V : Ver) : Prop where
  key : V.k = zeroK
  t : -9223372036854775808 ≤ V.t ∧ V.t ≤ 9223372036854775807
  n : 0 ≤ V.n ∧ V.n ≤ 255
  val : ∀ z ∈ V.v, 0 ≤ z ∧ z ≤ 255
  few : V.v.length ≤ maxLen
theorem VerIn.ok {V : Ver} (h : VerIn V) (hl : V.v.length ≤ 1000000) : VerOk V := ⟨by rw [h.key]; exact zeroK_ky, h.t.1, h.t.2, h.n.1, h.n.2, h.val, hl⟩
structure CVerAt (w : World) (b o : Nat) (V : Ver) : Prop where
  c0 : w.cell? ⟨b, o, none⟩ = some (.int .i64 V.t)
  c1 : w.cell? ⟨b, o + 1, none⟩ = some (.int .u8 V.n)
  c2 : w.cell? ⟨b, o + 2, none⟩ = some (.string (strOfNums V.v))
  c3 : w.cell? ⟨b, o + 3, none⟩ = some (.bool V.g)
theorem CVerAt.lt {w : World} {b o : Nat} {V : Ver} (h : CVerAt w b o V) : b < w.heap.size := lt_of_cell h.c0
theorem CVerAt.past {w w' : World} {b o : Nat} {V : Ver} (h : CVerAt w b o V) (hb : Below w.heap.size w w') : CVerAt w' b o V :=
  ⟨(hb.cell (p := ⟨b, o, none⟩) h.lt).trans h.c0, (hb.cell (p := ⟨b, o + 1, none⟩) h.lt).trans h.c1, (hb.cell (p := ⟨b, o + 2, none⟩) h.lt).trans h.c2, (hb.cell (p := ⟨b, o + 3, none⟩) h.lt).trans h.c3⟩
/-- A list of versions that came in. -/
structure CVersOf (w : World) (a : Option Addr) (cap : Nat) (xs : List Ver) : Prop where
  room : xs.length ≤ cap
  cells : xs = [] ∨ ∃ b off, a = some ⟨b, off, none⟩ ∧ ∀ i V, xs[i]? = some V → CVerAt w b (off + i * 4) V
  ins : ∀ V ∈ xs, VerIn V
theorem add_atV (b off j : Nat) : (⟨b, off, none⟩ : Addr).add j = ⟨b, off + j, none⟩ := by unfold Addr.add; split <;> simp_all
section
variable {H : Type} {enc : TypeId × Value → H} {w : World} {base : Nat} {held : Bool}
end
end Go.Proofs.YtileidbdmpeciaaGreat

namespace Go.Proofs.YtileidbdmpeciaaGreat
open Go.RowKit
set_option linter.unusedVariables false

theorem encC_len (V : Ver) : (encC V).length = 4 := rfl
theorem encC_one (V : Ver) : ∀ u ∈ encC V, u.oneCell' = true := by
  intro u hu
  unfold encC at hu
  simp at hu
  rcases hu with rfl | rfl | rfl | rfl <;> rfl
theorem encCs_one (L : List Ver) : ∀ u ∈ L.flatMap encC, u.oneCell' = true := flat_one (fun V _ => encC_one V)
theorem encCs_len (L : List Ver) : (L.flatMap encC).length = L.length * 4 := by
  induction L with
  | nil => rfl
  | cons V L ih => rw [List.flatMap_cons, List.length_append, ih, encC_len, List.length_cons]; omega
theorem encCs_take (L : List Ver) (k : Nat) : (L.flatMap encC).take (k * 4) = (L.take k).flatMap encC := flat_take L k (fun V _ => encC_len V)
theorem encCs_drop (L : List Ver) (k : Nat) : (L.flatMap encC).drop (k * 4) = (L.drop k).flatMap encC := flat_drop L k (fun V _ => encC_len V)
theorem cverEl : ElT 133 136 4 40 := ElT.mk' (z := cvv ⟨zeroK, 0, 0, [], false⟩) Tryz.underlying133 (by kernel_rfl) (by kernel_rfl) (by decide) (by decide)
set_option maxRecDepth 100000 in
theorem cver_zero : ∀ i z, Tryz.prog.info? 136 = some i → i.zero = some z → ∀ u ∈ z.cells, u.oneCell' = true := by
  intro i z hi hz u hu
  have h : (Tryz.prog.info? 136).map (fun i => i.zero) = some (some (cvv ⟨zeroK, 0, 0, [], false⟩)) := by kernel_rfl
  rw [hi] at h
  simp at h
  rw [hz] at h
  injection h with h
  subst h
  exact encC_one ⟨zeroK, 0, 0, [], false⟩ u (by simpa [Value.cells, encC] using hu)
/-- A list of versions in a block of its own. -/
abbrev CRow (u : World) (v : Value) (L : List Ver) : Prop := u.ownsRow 0 136 4 v L.length (L.flatMap encC)
theorem CRow.ver {u : World} {a : Option Addr} {c : Nat} {L : List Ver} (h : CRow u (.slice a L.length c) L) {i : Nat} {V : Ver} (hV : L[i]? = some V) : ∃ g, a = some ⟨g, 0, none⟩ ∧ g < u.heap.size ∧ CVerAt u g (i * 4) V := by
  rcases h.2 with ⟨e1, e2⟩ | ⟨g, cap, cur, e1, hg, hh, e5, e6, e7, e8⟩
  · rw [List.eq_nil_of_length_eq_zero e2] at hV
    simp at hV
  · cases e1
    have hlt := (Array.getElem?_eq_some_iff.1 hh).1
    have hl : Lies u (some ⟨g, 0, none⟩) (L.flatMap encC) := own_lies h
    have he := hl.el (fun V _ => encC_len V) hV
    rw [Nat.zero_add] at he
    refine ⟨g, rfl, hlt, ⟨?_, ?_, ?_, ?_⟩⟩
    · exact he.at 0 _ rfl
    · exact he.at 1 _ rfl
    · exact he.at 2 _ rfl
    · exact he.at 3 _ rfl
/-- A chain in block p; its blocks are those of X. -/
structure ChD (u : World) (p : Nat) (L : List Ver) (X : Foot) : Prop where
  own : X p
  lt : ∀ k, X k → k < u.heap.size
  chn : Chn L
  list : ∃ a c, u.cell? ⟨p, 0, none⟩ = some (.slice a L.length c) ∧ CRow u (.slice a L.length c) L ∧ ∀ k, (Value.slice a L.length c).ownBlock = some k → X k ∧ k ≠ p
  free : u.frozen? ⟨p, 0, none⟩ = false
  ty : ∃ cs fz, u.heap[p]? = some (.cells cs 199 fz)
theorem crow_kept {u u' : World} {v : Value} {L : List Ver} (h : CRow u v L) (hk : ∀ k, v.ownBlock = some k → u'.heap[k]? = u.heap[k]?) : CRow u' v L := by
  refine ⟨h.1, ?_⟩
  rcases h.2 with h0 | ⟨g, cap, cur, e1, hg, hh, r⟩
  · exact .inl h0
  · exact .inr ⟨g, cap, cur, e1, hg, (hk g (by rw [e1]; rfl)).trans hh, r⟩
theorem ChD.kept {u u' : World} {p : Nat} {L : List Ver} {X : Foot} (h : ChD u p L X) (hs : u.heap.size ≤ u'.heap.size) (hk : ∀ k, X k → u'.heap[k]? = u.heap[k]?) : ChD u' p L X := by
  obtain ⟨a, c, h1, h2, h3⟩ := h.list
  exact ⟨h.own, fun k hk => Nat.lt_of_lt_of_le (h.lt k hk) hs, h.chn, ⟨a, c, (cell_kept (hk p h.own) 0).trans h1, crow_kept h2 (fun k e => hk k (h3 k e).1), h3⟩, (frozen_kept (hk p h.own) 0).trans h.free, by rw [hk p h.own]; exact h.ty⟩
theorem ChD.past {u u' : World} {p : Nat} {L : List Ver} {X : Foot} (h : ChD u p L X) (hb : Below u.heap.size u u') : ChD u' p L X := h.kept hb.size (fun k x => hb.block k (h.lt k x))
/-- The list's cell, and each version of it, in every world behind. -/
theorem ChD.open {u : World} {p : Nat} {L : List Ver} {X : Foot} (h : ChD u p L X) : ∃ a c, L.length ≤ c ∧ c ≤ maxLen ∧ (a = none → L = [] ∧ c = 0) ∧ (∀ v, Below u.heap.size u v → v.cell? ⟨p, 0, none⟩ = some (.slice a L.length c) ∧ CRow v (.slice a L.length c) L) ∧ (L = [] ∨ ∃ g, a = some ⟨g, 0, none⟩ ∧ g < u.heap.size ∧ ∀ v, Below u.heap.size u v → ∀ i V, L[i]? = some V → CVerAt v g (i * 4) V) := by
  obtain ⟨a, c, h1, h2, h3⟩ := h.list
  have hb : ∀ v, Below u.heap.size u v → v.cell? ⟨p, 0, none⟩ = some (.slice a L.length c) ∧ CRow v (.slice a L.length c) L := fun v hb =>
    ⟨(hb.cell (p := ⟨p, 0, none⟩) (h.lt p h.own)).trans h1, own_below h2 hb (Nat.le_refl _)⟩
  have hc : L.length ≤ c ∧ c ≤ maxLen ∧ (a = none → L = [] ∧ c = 0) ∧ (L = [] ∨ ∃ g, a = some ⟨g, 0, none⟩ ∧ g < u.heap.size) := by
    rcases h2.2 with ⟨e1, e2⟩ | ⟨g, cap, cur, e1, _, hh, e5, e6, _⟩
    · have hn := List.eq_nil_of_length_eq_zero e2
      subst hn
      cases e1
      exact ⟨Nat.le_refl _, Nat.zero_le _, fun _ => ⟨rfl, rfl⟩, .inl rfl⟩
    · cases e1
      exact ⟨e5, e6, fun h => (by cases h), .inr ⟨g, rfl, (Array.getElem?_eq_some_iff.1 hh).1⟩⟩
  refine ⟨a, c, hc.1, hc.2.1, hc.2.2.1, hb, ?_⟩
  rcases hc.2.2.2 with e | ⟨g, rfl, hg⟩
  · exact .inl e
  · refine .inr ⟨g, rfl, hg, fun v hv i V hV => ?_⟩
    obtain ⟨g', e, _, hat⟩ := (hb v hv).2.ver hV
    injection e with e
    injection e with e
    subst e
    exact hat
end Go.Proofs.YtileidbdmpeciaaGreat

namespace Go.Proofs.YtileidbdmpeciaaGreat
open Go.RowKit
set_option linter.unusedVariables false

/-- How many are below a stamp; is the next one at it? -/
def loN (L : List Ver) (t n : Int) : Nat := (L.takeWhile (fun X => decide (cmpS X.t X.n t n < 0))).length
def hitN (L : List Ver) (t n : Int) : Bool := match L[loN L t n]? with
  | none => false
  | some X => decide (cmpS X.t X.n t n = 0)
theorem lo_le (L : List Ver) (t n : Int) : loN L t n ≤ L.length := List.Sublist.length_le (List.takeWhile_sublist _)
/-- How many are not above a stamp. -/
def upN (L : List Ver) (t n : Int) : Nat := loN L t n + if hitN L t n = true then 1 else 0
/-- The last of the first k. -/
def lastN (L : List Ver) (k : Nat) : Option Ver := if k = 0 then none else L[k - 1]?
theorem lo_rk (L : List Ver) (V : Ver) : loN L V.t V.n = rk L V := rfl
theorem hit_clash {L : List Ver} {V : Ver} (h : One L) (hV : V.k = zeroK) : hitN L V.t V.n = clashV L V := by
  rw [one_clash h hV]
  unfold hitN
  rw [lo_rk]
  cases L[rk L V]? with
  | none => rfl
  | some X =>
    simp only
    exact decide_eq_decide.2 cmp_nil
theorem up_facts {L : List Ver} (hu : Ups L) (t n : Int) : upN L t n ≤ L.length ∧ (∀ j X, j < upN L t n → L[j]? = some X → ¬ ltS t n X.t X.n) ∧ (∀ j X, upN L t n ≤ j → L[j]? = some X → ltS t n X.t X.n) := by
  obtain ⟨W, hW⟩ : ∃ W : Ver, W = ⟨zeroK, t, n, [], false⟩ := ⟨_, rfl⟩
  have eW : loN L t n = rk L W := by rw [hW]; rfl
  have below : ∀ j X, j < loN L t n → L[j]? = some X → ltS X.t X.n t n := fun j X hj hX => by
    have := rk_lt (V := W) (by rw [← eW]; exact hj) hX
    rw [hW] at this
    exact this
  have at_ : ∀ X, L[loN L t n]? = some X → ¬ ltS X.t X.n t n := fun X hX => by
    have := rk_stop L W X (by rw [← eW]; exact hX)
    rw [hW] at this
    exact this
  have asym : ∀ a b c d : Int, ltS a b c d → ¬ ltS c d a b := fun a b c d h1 h2 => by unfold ltS at *; omega
  have hle := lo_le L t n
  unfold upN
  by_cases hh : hitN L t n = true
  · rw [if_pos hh]
    unfold hitN at hh
    cases hX : L[loN L t n]? with
    | none => rw [hX] at hh; cases hh
    | some X =>
      rw [hX] at hh
      obtain ⟨e1, e2⟩ := cmp_nil.1 (of_decide_eq_true hh)
      have hlt := (List.getElem?_eq_some_iff.1 hX).1
      refine ⟨hlt, fun j Y hj hY => ?_, fun j Y hj hY => ?_⟩
      · by_cases e : j = loN L t n
        · rw [e, hX] at hY
          injection hY with hY
          rw [← hY, e1, e2]
          unfold ltS; omega
        · exact asym _ _ _ _ (below j Y (by omega) hY)
      · have h3 := hu.at (by omega) hX hY
        unfold ltV at h3
        rw [e1, e2] at h3
        exact h3
  · rw [if_neg hh, Nat.add_zero]
    refine ⟨hle, fun j Y hj hY => asym _ _ _ _ (below j Y hj hY), fun j Y hj hY => ?_⟩
    have hlt : loN L t n < L.length := Nat.lt_of_le_of_lt hj (List.getElem?_eq_some_iff.1 hY).1
    obtain ⟨X, hX⟩ : ∃ X, L[loN L t n]? = some X := ⟨_, List.getElem?_eq_getElem hlt⟩
    have h1 := at_ X hX
    have h2 : ¬ (X.t = t ∧ X.n = n) := fun e => hh (by unfold hitN; rw [hX]; exact decide_eq_true (cmp_nil.2 e))
    have h3 : ltS t n X.t X.n := by unfold ltS at *; omega
    by_cases e : j = loN L t n
    · rw [e, hX] at hY
      injection hY with hY
      rw [← hY]; exact h3
    · exact ltS_trans h3 (hu.at (by omega) hX hY)
theorem at_last {L : List Ver} (h : One L) (hu : Ups L) (t n : Int) : atV L zeroK t n = lastN L (upN L t n) := by
  obtain ⟨h1, h2, h3⟩ := up_facts hu t n
  unfold lastN
  by_cases h0 : upN L t n = 0
  · rw [if_pos h0]
    refine (at_none_iff h).2 (fun Y hY => ?_)
    obtain ⟨j, hj, e⟩ := List.getElem_of_mem hY
    exact h3 j Y (by omega) (by rw [List.getElem?_eq_getElem hj, e])
  · rw [if_neg h0]
    have hlt : upN L t n - 1 < L.length := by omega
    rw [List.getElem?_eq_getElem hlt]
    refine at_is h hu (List.getElem_mem hlt) (h2 _ _ (by omega) (List.getElem?_eq_getElem hlt)) (fun Y hY hn => ?_)
    obtain ⟨j, hj, e⟩ := List.getElem_of_mem hY
    have hYj : L[j]? = some Y := by rw [List.getElem?_eq_getElem hj, e]
    by_cases hju : upN L t n ≤ j
    · exact absurd (h3 j Y hju hYj) hn
    · by_cases e2 : j = upN L t n - 1
      · left
        subst e2
        exact e.symm
      · right
        exact hu.at (by omega) hYj (List.getElem?_eq_getElem hlt)
theorem newest_last {L : List Ver} (h : One L) : newestV L zeroK = lastN L L.length := by
  unfold newestV lastN
  rw [one_chain h]
  by_cases h0 : L.length = 0
  · rw [if_pos h0, List.eq_nil_of_length_eq_zero h0]; rfl
  · rw [if_neg h0, List.getLast?_eq_getElem?]
theorem filter_drop {p : Ver → Bool} {L : List Ver} {m : Nat} (hm : m ≤ L.length) (h1 : ∀ j X, j < m → L[j]? = some X → p X = false) (h2 : ∀ j X, m ≤ j → L[j]? = some X → p X = true) : L.filter p = L.drop m := by
  have e1 : (L.take m).filter p = [] := by
    rw [List.filter_eq_nil_iff]
    intro X hX
    obtain ⟨j, hj, e⟩ := List.getElem_of_mem hX
    rw [List.length_take] at hj
    have := h1 j X (by omega) (by rw [List.getElem_take] at e; rw [List.getElem?_eq_getElem (by omega), e])
    rw [this]
    exact Bool.false_ne_true
  have e2 : (L.drop m).filter p = L.drop m := by
    rw [List.filter_eq_self]
    intro X hX
    obtain ⟨j, hj, e⟩ := List.getElem_of_mem hX
    rw [List.length_drop] at hj
    exact h2 (m + j) X (by omega) (by rw [List.getElem_drop] at e; rw [List.getElem?_eq_getElem (by omega), e])
  have e3 : L.filter p = (L.take m ++ L.drop m).filter p := by rw [List.take_append_drop]
  rw [e3, List.filter_append, e1, e2, List.nil_append]
theorem rest_up {L : List Ver} (h : One L) (hu : Ups L) (t n : Int) : (upN L t n = 0 → restV L t n = L) ∧ ∀ X, lastN L (upN L t n) = some X → restV L t n = L.drop (upN L t n - if X.g = true then 0 else 1) := by
  obtain ⟨h1, h2, h3⟩ := up_facts hu t n
  have ha := at_last h hu t n
  refine ⟨fun h0 => rest_none h (by rw [ha, h0]; rfl), fun X hX => ?_⟩
  have h0 : upN L t n ≠ 0 := fun e => by rw [e] at hX; cases hX
  have hX2 : L[upN L t n - 1]? = some X := by unfold lastN at hX; rw [if_neg h0] at hX; exact hX
  rw [hX] at ha
  have goes : ∀ j Y, L[j]? = some Y → goesV L t n Y = (decide (cmpS Y.t Y.n X.t X.n < 0) || (decide (cmpS Y.t Y.n X.t X.n = 0) && X.g)) := fun j Y hY => by
    unfold goesV
    rw [h Y (List.mem_of_getElem? hY), ha]
  have low : ∀ j Y, j < upN L t n - 1 → L[j]? = some Y → goesV L t n Y = true := fun j Y hj hY => by
    rw [goes j Y hY, decide_eq_true (cmp_neg.2 (hu.at hj hY hX2))]
    rfl
  have high : ∀ j Y, upN L t n ≤ j → L[j]? = some Y → goesV L t n Y = false := fun j Y hj hY => by
    have h4 := hu.at (by omega) hX2 hY
    have h5 := cmp_pos.2 h4
    rw [goes j Y hY, decide_eq_false (by omega), decide_eq_false (by omega)]
    rfl
  have mid : goesV L t n X = X.g := by
    rw [goes _ X hX2, cmp_eq]
    simp
  unfold restV
  cases hg : X.g with
  | true =>
    rw [if_pos rfl, Nat.sub_zero]
    refine filter_drop h1 (fun j Y hj hY => ?_) (fun j Y hj hY => ?_)
    · by_cases e : j = upN L t n - 1
      · rw [e, hX2] at hY
        injection hY with hY
        rw [← hY, mid, hg]
        rfl
      · rw [low j Y (by omega) hY]
        rfl
    · rw [high j Y hj hY]
      rfl
  | false =>
    rw [if_neg Bool.false_ne_true]
    refine filter_drop (by omega) (fun j Y hj hY => ?_) (fun j Y hj hY => ?_)
    · rw [low j Y hj hY]
      rfl
    · by_cases e : j = upN L t n - 1
      · rw [e, hX2] at hY
        injection hY with hY
        rw [← hY, mid, hg]
        rfl
      · rw [high j Y (by omega) hY]
        rfl
end Go.Proofs.YtileidbdmpeciaaGreat

namespace Go.Proofs.YtileidbdmpeciaaGreat
open Go.RowKit
set_option linter.unusedVariables false

theorem sgood_any (t n : Int) (w : World) :
    Calls Tryz.prog 47 #[.agg #[.int .i64 t, .int .u8 n]] w fun e w' => e = .returned (.bool (decide (okS t))) ∧ Below w.heap.size w w' := by
  have HB : Hid (Below w.heap.size w (w.alloc (.cells #[.int .i64 t, .int .u8 n] 28))) := (Below.refl _ _).alloc (Nat.le_refl _) _
  by_cases h0 : 0 ≤ t
  · have b0 : decide (0 ≤ t) = true := decide_eq_true h0
    by_cases h1 : t ≤ 36028797018963967
    · have b1 : decide (t ≤ 36028797018963967) = true := decide_eq_true h1
      rw [decide_eq_true (show okS t from ⟨h0, h1⟩)]
      go_enter Tryz.func47, Tryz.ntmps47
      go_wp2
      go_ret
      exact ⟨rfl, HB.out⟩
    · have b1 : decide (t ≤ 36028797018963967) = false := decide_eq_false h1
      rw [decide_eq_false (show ¬ okS t from fun h => h1 h.2)]
      go_enter Tryz.func47, Tryz.ntmps47
      go_wp2
      go_ret
      exact ⟨rfl, HB.out⟩
  · have b0 : decide (0 ≤ t) = false := decide_eq_false h0
    rw [decide_eq_false (show ¬ okS t from fun h => h0 h.1)]
    go_enter Tryz.func47, Tryz.ntmps47
    go_wp2
    go_ret
    exact ⟨rfl, HB.out⟩
theorem scmp_any (t n t' n' : Int) (w : World) :
    Calls Tryz.prog 49 #[.agg #[.int .i64 t, .int .u8 n], .agg #[.int .i64 t', .int .u8 n']] w fun e w' => e = .returned (.int .i64 (cmpS t n t' n')) ∧ Below w.heap.size w w' := by
  have HB : Hid (Below w.heap.size w ((w.alloc (.cells #[.int .i64 t, .int .u8 n] 28)).alloc (.cells #[.int .i64 t', .int .u8 n'] 28))) := ((Below.refl _ _).alloc (Nat.le_refl _) _).alloc (by simp) _
  by_cases h1 : t < t'
  · have b1 : decide (t < t') = true := decide_eq_true h1
    rw [cmp_lt (.inl h1)]
    go_enter Tryz.func49, Tryz.ntmps49
    go_wp2
    go_ret
    exact ⟨rfl, HB.out⟩
  · have b1 : decide (t < t') = false := decide_eq_false h1
    by_cases h2 : t' < t
    · have b2 : decide (t' < t) = true := decide_eq_true h2
      rw [cmp_gt (.inl h2)]
      go_enter Tryz.func49, Tryz.ntmps49
      go_wp2
      go_ret
      exact ⟨rfl, HB.out⟩
    · have b2 : decide (t' < t) = false := decide_eq_false h2
      have e : t = t' := by omega
      subst e
      by_cases h3 : n < n'
      · have b3 : decide (n < n') = true := decide_eq_true h3
        rw [cmp_lt (.inr ⟨rfl, h3⟩)]
        go_enter Tryz.func49, Tryz.ntmps49
        go_wp2
        go_ret
        exact ⟨rfl, HB.out⟩
      · have b3 : decide (n < n') = false := decide_eq_false h3
        by_cases h4 : n' < n
        · have b4 : decide (n' < n) = true := decide_eq_true h4
          rw [cmp_gt (.inr ⟨rfl, h4⟩)]
          go_enter Tryz.func49, Tryz.ntmps49
          go_wp2
          go_ret
          exact ⟨rfl, HB.out⟩
        · have b4 : decide (n' < n) = false := decide_eq_false h4
          have e : n = n' := by omega
          subst e
          rw [cmp_eq]
          go_enter Tryz.func49, Tryz.ntmps49
          go_wp2
          go_ret
          exact ⟨rfl, HB.out⟩
end Go.Proofs.YtileidbdmpeciaaGreat

namespace Go.Proofs.YtileidbdmpeciaaGreat
open Go.RowKit
set_option linter.unusedVariables false

theorem cclos_any (V : Ver) (t n : Int) (w : World) :
    Calls Tryz.prog 167 #[cvv V, .agg #[.int .i64 t, .int .u8 n]] w fun e w' => e = .returned (.int .i64 (cmpS V.t V.n t n)) ∧ Below w.heap.size w w' := by
  obtain ⟨t1, n1, S1, g1, h⟩ : ∃ t1 n1 S1 g1, t1 = V.t ∧ n1 = V.n ∧ S1 = strOfNums V.v ∧ g1 = V.g := ⟨_, _, _, _, rfl, rfl, rfl, rfl⟩
  obtain ⟨e1, e2, e3, e4⟩ := h
  show Calls Tryz.prog 167 #[.agg #[.int .i64 V.t, .int .u8 V.n, .string (strOfNums V.v), .bool V.g], .agg #[.int .i64 t, .int .u8 n]] w fun e w' => e = .returned (.int .i64 (cmpS V.t V.n t n)) ∧ Below w.heap.size w w'
  rw [← e1, ← e2, ← e3, ← e4]
  clear e1 e2 e3 e4
  obtain ⟨c1, hc1⟩ : ∃ c, c = cmpS t1 n1 t n := ⟨_, rfl⟩
  have CC : Hid (∀ u, Calls Tryz.prog 49 #[.agg #[.int .i64 t1, .int .u8 n1], .agg #[.int .i64 t, .int .u8 n]] u fun e w' => e = .returned (.int .i64 c1) ∧ Below u.heap.size u w') := fun u => by rw [hc1]; exact scmp_any t1 n1 t n u
  have HB : Hid (Below w.heap.size w ((w.alloc (.cells #[.int .i64 t1, .int .u8 n1, .string S1, .bool g1] 136)).alloc (.cells #[.int .i64 t, .int .u8 n] 28))) := ((Below.refl _ _).alloc (Nat.le_refl _) _).alloc (by simp) _
  rw [← hc1]
  clear hc1
  go_enter Tryz.func167, Tryz.ntmps167
  go_wp2_with (go_at_call 49; refine (CC.out _).mono ?_; rintro e w1 ⟨rfl, hb1⟩; have HB1 : Hid (Below w.heap.size w w1) := HB.out.trans (hb1.mono HB.out.size); clear hb1)
  go_ret
  exact ⟨rfl, HB1.out⟩
set_option maxHeartbeats 4000000 in
set_option maxRecDepth 4000 in
theorem csearch_any (a : Option Addr) (c N : Nat) (L : List Ver) (t n : Int) (w : World) (hN : L.length = N) (hu : Ups L) (hfew : N ≤ 1000) (hrow : CRow w (.slice a L.length c) L) :
    Calls Tryz.prog 166 #[.slice a N c, .agg #[.int .i64 t, .int .u8 n], .func (.func 167) #[] #[]] w fun e w' => e = .returned (.tuple #[.int .i64 (loN L t n : Nat), .bool (hitN L t n)]) ∧ Below w.heap.size w w' := by
  obtain ⟨w1, hw1⟩ : ∃ u, u = w.alloc (.cells #[.int .i64 t, .int .u8 n] 28) := ⟨_, rfl⟩
  have HB1 : Hid (Below w.heap.size w w1) := by rw [hw1]; exact (Below.refl _ _).alloc (Nat.le_refl _) _
  have FT : Hid (∀ u, Below w1.heap.size w1 u → u.cell? ⟨w.heap.size, 0, none⟩ = some (.int .i64 t) ∧ u.cell? ⟨w.heap.size, 1, none⟩ = some (.int .u8 n)) := fun u hb => by
    have hlt : w.heap.size < w1.heap.size := by rw [hw1]; simp
    refine ⟨(hb.cell (p := ⟨w.heap.size, 0, none⟩) hlt).trans ?_, (hb.cell (p := ⟨w.heap.size, 1, none⟩) hlt).trans ?_⟩ <;> (rw [hw1, World.cell?_alloc_new]; rfl)
  have HROW : Hid (∀ u, Below w1.heap.size w1 u → CRow u (.slice a L.length c) L) := fun u hb => own_below hrow (HB1.out.trans (hb.mono HB1.out.size)) (Nat.le_refl _)
  have HNL : Hid (L.length = N) := hN
  have HU : Hid (Ups L) := hu
  have hlo := lo_le L t n
  obtain ⟨lo, hlo1⟩ : ∃ k, k = loN L t n := ⟨_, rfl⟩
  obtain ⟨ht, hht⟩ : ∃ b, b = hitN L t n := ⟨_, rfl⟩
  have HLO : Hid (lo = loN L t n) := hlo1
  have HHT : Hid (ht = hitN L t n) := hht
  rw [← hlo1, ← hht]
  have HW1 : Hid (w.alloc (.cells #[.int .i64 t, .int .u8 n] 28) = w1) := hw1.symm
  have CL : Hid (∀ V : Ver, ∀ u, Calls Tryz.prog 167 #[cvv V, .agg #[.int .i64 t, .int .u8 n]] u fun e w' => e = .returned (.int .i64 (cmpS V.t V.n t n)) ∧ Below u.heap.size u w') := fun V u => cclos_any V t n u
  clear hlo hlo1 hht hN hu hrow hw1
  go_enter Tryz.func166, Tryz.ntmps166
  go_wp2
  rw [HW1.out]
  go_loopw [9, 10] (fun iv jv wr => ∃ i j : Nat, iv = .int .i64 i ∧ jv = .int .i64 j ∧ i ≤ j ∧ j ≤ N ∧ Hid (Below w1.heap.size w1 wr) ∧ Hid ((∀ k V, k < i → L[k]? = some V → cmpS V.t V.n t n < 0) ∧ (∀ k V, j ≤ k → L[k]? = some V → 0 ≤ cmpS V.t V.n t n))) (fun iv jv _ => (intOf jv - intOf iv).toNat)
  case atStart => exact ⟨0, N, rfl, rfl, Nat.zero_le _, Nat.le_refl _, Below.refl _ _, fun k V h => absurd h (Nat.not_lt_zero _), fun k V h1 h2 => by have := (List.getElem?_eq_some_iff.1 h2).1; rw [HNL.out] at this; omega⟩
  case round =>
    obtain ⟨i, j, rfl, rfl, hij, hjN, HW, HI⟩ := hrel
    by_cases hlt : i < j
    · obtain ⟨h, hh⟩ : ∃ h : Nat, h = (i + j) / 2 := ⟨_, rfl⟩
      have hhi : ((i : Int) + (j : Int)) / 2 = (h : Int) := by omega
      have h1 : i ≤ h := by omega
      have h2 : h < j := by omega
      have hhN : h < N := by omega
      clear hh
      obtain ⟨V1, hV1⟩ : ∃ V, L[h]? = some V := ⟨_, List.getElem?_eq_getElem (by rw [HNL.out]; exact hhN)⟩
      have HV : Hid (L[h]? = some V1) := hV1
      obtain ⟨g, hag, _, _⟩ := (HROW.out _ (Below.refl _ _)).ver hV1
      subst hag
      obtain ⟨t1, n1, S1, g1, hq⟩ : ∃ t1 n1 S1 g1, t1 = V1.t ∧ n1 = V1.n ∧ S1 = strOfNums V1.v ∧ g1 = V1.g := ⟨_, _, _, _, rfl, rfl, rfl, rfl⟩
      obtain ⟨e1, e2, e3, e4⟩ := hq
      have FV : Hid (∀ u, Below wr.heap.size wr u → u.cell? ⟨g, h * 4, none⟩ = some (.int .i64 t1) ∧ u.cell? ⟨g, h * 4 + 1, none⟩ = some (.int .u8 n1) ∧ u.cell? ⟨g, h * 4 + 2, none⟩ = some (.string S1) ∧ u.cell? ⟨g, h * 4 + 3, none⟩ = some (.bool g1)) := fun u hb => by
        obtain ⟨g', e, _, hat⟩ := (HROW.out u (HW.out.trans (hb.mono HW.out.size))).ver HV.out
        injection e with e
        injection e with e
        subst e
        rw [e1, e2, e3, e4]
        exact ⟨hat.c0, hat.c1, hat.c2, hat.c3⟩
      have FT2 : Hid (∀ u, Below wr.heap.size wr u → u.cell? ⟨w.heap.size, 0, none⟩ = some (.int .i64 t) ∧ u.cell? ⟨w.heap.size, 1, none⟩ = some (.int .u8 n)) := fun u hb => FT.out u (HW.out.trans (hb.mono HW.out.size))
      obtain ⟨c1, hc1⟩ : ∃ c, c = cmpS V1.t V1.n t n := ⟨_, rfl⟩
      have HC1 : Hid (c1 = cmpS V1.t V1.n t n) := hc1
      have CL1 : Hid (∀ u, Calls Tryz.prog 167 #[.agg #[.int .i64 t1, .int .u8 n1, .string S1, .bool g1], .agg #[.int .i64 t, .int .u8 n]] u fun e w' => e = .returned (.int .i64 c1) ∧ Below u.heap.size u w') := fun u => by rw [hc1, e1, e2, e3, e4]; exact CL.out V1 u
      clear hV1 e1 e2 e3 e4 hc1
      by_cases hc : c1 < 0
      · have bc : decide (c1 < 0) = true := decide_eq_true hc
        go_wp2
        refine wp_region_noPanic ?_
        refine wp_region_held_drew (S := fun u => Below wr.heap.size wr u) (by kernel_rfl) ?_ (fun hHeld => ?_)
        · exact (Below.refl _ _).drew
        refine wpAnyH_take (i := 0) (v := ?_) rfl (by kernel_rfl) (by kernel_rfl) (by kernel_rfl) (fun _ _ _ h => h) (Or.inl ⟨by rfl, ?_⟩) hHeld ?_
        rotate_left
        · intro u hSu
          (go_simp) <;> (with_reducible rfl)
        change wpAnyH _ _ _ _ _ _ _ (Act.put _ (some 24) _) _
        simp only [Act.put, List.setIfInBounds_toArray, List.set_cons_zero, List.set_cons_succ]
        refine wpAnyH_take (i := 1) (v := ?_) rfl (by kernel_rfl) (by kernel_rfl) (by kernel_rfl) (fun _ _ _ h => h) (Or.inl ⟨by rfl, ?_⟩) hHeld ?_
        rotate_left
        · intro u hSu
          (go_simp) <;> (with_reducible rfl)
        change wpAnyH _ _ _ _ _ _ _ (Act.put _ (some 25) _) _
        simp only [Act.put, List.setIfInBounds_toArray, List.set_cons_zero, List.set_cons_succ]
        refine wpAnyH_take (i := 2) (v := ?_) rfl (by kernel_rfl) (by kernel_rfl) (by kernel_rfl) (fun _ _ _ h => h) (Or.inl ⟨by rfl, ?_⟩) hHeld ?_
        rotate_left
        · intro u hSu
          (go_simp) <;> (with_reducible rfl)
        change wpAnyH _ _ _ _ _ _ _ (Act.put _ (some 26) _) _
        simp only [Act.put, List.setIfInBounds_toArray, List.set_cons_zero, List.set_cons_succ]
        refine wpAnyH_take (i := 3) (v := ?_) rfl (by kernel_rfl) (by kernel_rfl) (by kernel_rfl) (fun _ _ _ h => h) (Or.inl ⟨by rfl, ?_⟩) hHeld ?_
        rotate_left
        · intro u hSu
          (go_simp) <;> (with_reducible rfl)
        change wpAnyH _ _ _ _ _ _ _ (Act.put _ (some 27) _) _
        simp only [Act.put, List.setIfInBounds_toArray, List.set_cons_zero, List.set_cons_succ]
        refine wpAnyH_take (i := 4) (v := ?_) rfl (by kernel_rfl) (by kernel_rfl) (by kernel_rfl) (fun _ _ _ h => h) (Or.inl ⟨by rfl, ?_⟩) hHeld ?_
        rotate_left
        · intro u hSu
          obtain ⟨y0, y1, y2, y3⟩ := FV.out u hSu
          (go_simp) <;> (with_reducible rfl)
        change wpAnyH _ _ _ _ _ _ _ (Act.put _ (some 28) _) _
        simp only [Act.put, List.setIfInBounds_toArray, List.set_cons_zero, List.set_cons_succ]
        refine wpAnyH_take (i := 5) (v := ?_) rfl (by kernel_rfl) (by kernel_rfl) (by kernel_rfl) (fun _ _ _ h => h) (Or.inl ⟨by rfl, ?_⟩) hHeld ?_
        rotate_left
        · intro u hSu
          obtain ⟨y0, y1⟩ := FT2.out u hSu
          (go_simp) <;> (with_reducible rfl)
        change wpAnyH _ _ _ _ _ _ _ (Act.put _ (some 29) _) _
        simp only [Act.put, List.setIfInBounds_toArray, List.set_cons_zero, List.set_cons_succ]
        refine wpAnyH_ready (rs := [6]) (by kernel_rfl) (by simp) ?_
        refine AllReadyH.cons rfl (fun K hK => ?_) AllReadyH.nil
        go_simp
        go_at_call 167
        refine (CL1.out _).mono ?_
        rintro e x1 ⟨rfl, hbx1⟩
        have B1 : Hid (Below wr.heap.size wr x1) := hHeld.trans (hbx1.mono hHeld.size)
        clear hbx1
        refine hK.out _ _ ?_ (fun hHeld2 => ?_)
        · exact B1.out
        clear hK K hHeld
        have hHeld := hHeld2
        clear hHeld2
        refine wpAnyH_take (i := 7) (v := ?_) rfl (by kernel_rfl) (by kernel_rfl) (by kernel_rfl) (fun _ _ _ h => h) (Or.inl ⟨by rfl, ?_⟩) hHeld ?_
        rotate_left
        · intro u hSu
          (go_simp) <;> (with_reducible rfl)
        change wpAnyH _ _ _ _ _ _ _ (Act.put _ (some 31) _) _
        simp only [Act.put, List.setIfInBounds_toArray, List.set_cons_zero, List.set_cons_succ]
        refine wpAnyH_done (by kernel_rfl) ?_ _
        refine NoPanic.normal ?_
        go_wp2
        go_roundw
        case rel =>
          refine ⟨h + 1, j, by go_num, rfl, by omega, hjN, HW.out.trans (B1.out.mono HW.out.size), fun k V hk hV => ?_, HI.out.2⟩
          by_cases e : k = h
          · subst e
            rw [HV.out] at hV
            injection hV with hV
            rw [← hV, ← HC1.out]; exact hc
          · have h3 := HU.out.at (by omega) hV HV.out
            have h4 := cmp_neg.1 (by rw [← HC1.out]; exact hc)
            exact cmp_neg.2 (ltS_trans h3 h4)
        case measure => simp [intOf]; omega
      · have bc : decide (c1 < 0) = false := decide_eq_false hc
        go_wp2
        refine wp_region_noPanic ?_
        refine wp_region_held_drew (S := fun u => Below wr.heap.size wr u) (by kernel_rfl) ?_ (fun hHeld => ?_)
        · exact (Below.refl _ _).drew
        refine wpAnyH_take (i := 0) (v := ?_) rfl (by kernel_rfl) (by kernel_rfl) (by kernel_rfl) (fun _ _ _ h => h) (Or.inl ⟨by rfl, ?_⟩) hHeld ?_
        rotate_left
        · intro u hSu
          (go_simp) <;> (with_reducible rfl)
        change wpAnyH _ _ _ _ _ _ _ (Act.put _ (some 24) _) _
        simp only [Act.put, List.setIfInBounds_toArray, List.set_cons_zero, List.set_cons_succ]
        refine wpAnyH_take (i := 1) (v := ?_) rfl (by kernel_rfl) (by kernel_rfl) (by kernel_rfl) (fun _ _ _ h => h) (Or.inl ⟨by rfl, ?_⟩) hHeld ?_
        rotate_left
        · intro u hSu
          (go_simp) <;> (with_reducible rfl)
        change wpAnyH _ _ _ _ _ _ _ (Act.put _ (some 25) _) _
        simp only [Act.put, List.setIfInBounds_toArray, List.set_cons_zero, List.set_cons_succ]
        refine wpAnyH_take (i := 2) (v := ?_) rfl (by kernel_rfl) (by kernel_rfl) (by kernel_rfl) (fun _ _ _ h => h) (Or.inl ⟨by rfl, ?_⟩) hHeld ?_
        rotate_left
        · intro u hSu
          (go_simp) <;> (with_reducible rfl)
        change wpAnyH _ _ _ _ _ _ _ (Act.put _ (some 26) _) _
        simp only [Act.put, List.setIfInBounds_toArray, List.set_cons_zero, List.set_cons_succ]
        refine wpAnyH_take (i := 3) (v := ?_) rfl (by kernel_rfl) (by kernel_rfl) (by kernel_rfl) (fun _ _ _ h => h) (Or.inl ⟨by rfl, ?_⟩) hHeld ?_
        rotate_left
        · intro u hSu
          (go_simp) <;> (with_reducible rfl)
        change wpAnyH _ _ _ _ _ _ _ (Act.put _ (some 27) _) _
        simp only [Act.put, List.setIfInBounds_toArray, List.set_cons_zero, List.set_cons_succ]
        refine wpAnyH_take (i := 4) (v := ?_) rfl (by kernel_rfl) (by kernel_rfl) (by kernel_rfl) (fun _ _ _ h => h) (Or.inl ⟨by rfl, ?_⟩) hHeld ?_
        rotate_left
        · intro u hSu
          obtain ⟨y0, y1, y2, y3⟩ := FV.out u hSu
          (go_simp) <;> (with_reducible rfl)
        change wpAnyH _ _ _ _ _ _ _ (Act.put _ (some 28) _) _
        simp only [Act.put, List.setIfInBounds_toArray, List.set_cons_zero, List.set_cons_succ]
        refine wpAnyH_take (i := 5) (v := ?_) rfl (by kernel_rfl) (by kernel_rfl) (by kernel_rfl) (fun _ _ _ h => h) (Or.inl ⟨by rfl, ?_⟩) hHeld ?_
        rotate_left
        · intro u hSu
          obtain ⟨y0, y1⟩ := FT2.out u hSu
          (go_simp) <;> (with_reducible rfl)
        change wpAnyH _ _ _ _ _ _ _ (Act.put _ (some 29) _) _
        simp only [Act.put, List.setIfInBounds_toArray, List.set_cons_zero, List.set_cons_succ]
        refine wpAnyH_ready (rs := [6]) (by kernel_rfl) (by simp) ?_
        refine AllReadyH.cons rfl (fun K hK => ?_) AllReadyH.nil
        go_simp
        go_at_call 167
        refine (CL1.out _).mono ?_
        rintro e x1 ⟨rfl, hbx1⟩
        have B1 : Hid (Below wr.heap.size wr x1) := hHeld.trans (hbx1.mono hHeld.size)
        clear hbx1
        refine hK.out _ _ ?_ (fun hHeld2 => ?_)
        · exact B1.out
        clear hK K hHeld
        have hHeld := hHeld2
        clear hHeld2
        refine wpAnyH_take (i := 7) (v := ?_) rfl (by kernel_rfl) (by kernel_rfl) (by kernel_rfl) (fun _ _ _ h => h) (Or.inl ⟨by rfl, ?_⟩) hHeld ?_
        rotate_left
        · intro u hSu
          (go_simp) <;> (with_reducible rfl)
        change wpAnyH _ _ _ _ _ _ _ (Act.put _ (some 31) _) _
        simp only [Act.put, List.setIfInBounds_toArray, List.set_cons_zero, List.set_cons_succ]
        refine wpAnyH_done (by kernel_rfl) ?_ _
        refine NoPanic.normal ?_
        go_wp2
        go_roundw
        case rel =>
          refine ⟨i, h, rfl, rfl, h1, by omega, HW.out.trans (B1.out.mono HW.out.size), HI.out.1, fun k V hk hV => Int.not_lt.1 (fun hneg => ?_)⟩
          by_cases e : k = h
          · subst e
            rw [HV.out] at hV
            injection hV with hV
            rw [← hV, ← HC1.out] at hneg; omega
          · have h3 := HU.out.at (by omega) HV.out hV
            have h4 := cmp_neg.1 hneg
            have h5 : c1 < 0 := by rw [HC1.out]; exact cmp_neg.2 (ltS_trans h3 h4)
            omega
        case measure => simp [intOf]; omega
    · obtain rfl : j = i := by omega
      have elo : lo = j := by
        rw [HLO.out]
        exact tw_len (by rw [HNL.out]; exact hjN) (fun k V hk hV => decide_eq_true (HI.out.1 k V hk hV)) (by
          by_cases hN : j = L.length
          · exact .inl hN
          · have hlt2 : j < L.length := by rw [HNL.out] at hN ⊢; omega
            exact .inr ⟨_, List.getElem?_eq_getElem hlt2, decide_eq_false (Int.not_lt.2 (HI.out.2 j _ (Nat.le_refl _) (List.getElem?_eq_getElem hlt2)))⟩)
      subst elo
      by_cases hN : lo < N
      · obtain ⟨V1, hV1⟩ : ∃ V, L[lo]? = some V := ⟨_, List.getElem?_eq_getElem (by rw [HNL.out]; exact hN)⟩
        have HV : Hid (L[lo]? = some V1) := hV1
        obtain ⟨g, hag, _, _⟩ := (HROW.out _ (Below.refl _ _)).ver hV1
        subst hag
        obtain ⟨t1, n1, S1, g1, hq⟩ : ∃ t1 n1 S1 g1, t1 = V1.t ∧ n1 = V1.n ∧ S1 = strOfNums V1.v ∧ g1 = V1.g := ⟨_, _, _, _, rfl, rfl, rfl, rfl⟩
        obtain ⟨e1, e2, e3, e4⟩ := hq
        have FV : Hid (∀ u, Below wr.heap.size wr u → u.cell? ⟨g, lo * 4, none⟩ = some (.int .i64 t1) ∧ u.cell? ⟨g, lo * 4 + 1, none⟩ = some (.int .u8 n1) ∧ u.cell? ⟨g, lo * 4 + 2, none⟩ = some (.string S1) ∧ u.cell? ⟨g, lo * 4 + 3, none⟩ = some (.bool g1)) := fun u hb => by
          obtain ⟨g', e, _, hat⟩ := (HROW.out u (HW.out.trans (hb.mono HW.out.size))).ver HV.out
          injection e with e
          injection e with e
          subst e
          rw [e1, e2, e3, e4]
          exact ⟨hat.c0, hat.c1, hat.c2, hat.c3⟩
        have FT2 : Hid (∀ u, Below wr.heap.size wr u → u.cell? ⟨w.heap.size, 0, none⟩ = some (.int .i64 t) ∧ u.cell? ⟨w.heap.size, 1, none⟩ = some (.int .u8 n)) := fun u hb => FT.out u (HW.out.trans (hb.mono HW.out.size))
        obtain ⟨c1, hc1⟩ : ∃ c, c = cmpS V1.t V1.n t n := ⟨_, rfl⟩
        have CL1 : Hid (∀ u, Calls Tryz.prog 167 #[.agg #[.int .i64 t1, .int .u8 n1, .string S1, .bool g1], .agg #[.int .i64 t, .int .u8 n]] u fun e w' => e = .returned (.int .i64 c1) ∧ Below u.heap.size u w') := fun u => by rw [hc1, e1, e2, e3, e4]; exact CL.out V1 u
        have HB2 : Hid (ht = (c1 == 0)) := by
          show ht = _
          have e5 : ht = decide (c1 = 0) := by rw [HHT.out, hc1]; unfold hitN; rw [← HLO.out, HV.out]
          rw [e5]
          rfl
        have b1 : decide (lo < N) = true := decide_eq_true hN
        clear hV1 e1 e2 e3 e4 hc1
        go_wp2
        refine wp_region_noPanic ?_
        refine wp_region_held_drew (S := fun u => Below wr.heap.size wr u) (by kernel_rfl) ?_ (fun hHeld => ?_)
        · exact (Below.refl _ _).drew
        refine wpAnyH_take (i := 0) (v := ?_) rfl (by kernel_rfl) (by kernel_rfl) (by kernel_rfl) (fun _ _ _ h => h) (Or.inl ⟨by rfl, ?_⟩) hHeld ?_
        rotate_left
        · intro u hSu
          (go_simp) <;> (with_reducible rfl)
        change wpAnyH _ _ _ _ _ _ _ (Act.put _ (some 35) _) _
        simp only [Act.put, List.setIfInBounds_toArray, List.set_cons_zero, List.set_cons_succ]
        refine wpAnyH_take (i := 1) (v := ?_) rfl (by kernel_rfl) (by kernel_rfl) (by kernel_rfl) (fun _ _ _ h => h) (Or.inl ⟨by rfl, ?_⟩) hHeld ?_
        rotate_left
        · intro u hSu
          (go_simp) <;> (with_reducible rfl)
        change wpAnyH _ _ _ _ _ _ _ (Act.put _ (some 36) _) _
        simp only [Act.put, List.setIfInBounds_toArray, List.set_cons_zero, List.set_cons_succ]
        refine wpAnyH_take (i := 2) (v := ?_) rfl (by kernel_rfl) (by kernel_rfl) (by kernel_rfl) (fun _ _ _ h => h) (Or.inl ⟨by rfl, ?_⟩) hHeld ?_
        rotate_left
        · intro u hSu
          (go_simp) <;> (with_reducible rfl)
        change wpAnyH _ _ _ _ _ _ _ (Act.put _ (some 37) _) _
        simp only [Act.put, List.setIfInBounds_toArray, List.set_cons_zero, List.set_cons_succ]
        refine wpAnyH_take (i := 3) (v := ?_) rfl (by kernel_rfl) (by kernel_rfl) (by kernel_rfl) (fun _ _ _ h => h) (Or.inl ⟨by rfl, ?_⟩) hHeld ?_
        rotate_left
        · intro u hSu
          (go_simp) <;> (with_reducible rfl)
        change wpAnyH _ _ _ _ _ _ _ (Act.put _ (some 38) _) _
        simp only [Act.put, List.setIfInBounds_toArray, List.set_cons_zero, List.set_cons_succ]
        refine wpAnyH_take (i := 4) (v := ?_) rfl (by kernel_rfl) (by kernel_rfl) (by kernel_rfl) (fun _ _ _ h => h) (Or.inl ⟨by rfl, ?_⟩) hHeld ?_
        rotate_left
        · intro u hSu
          (go_simp) <;> (with_reducible rfl)
        change wpAnyH _ _ _ _ _ _ _ (Act.put _ (some 39) _) _
        simp only [Act.put, List.setIfInBounds_toArray, List.set_cons_zero, List.set_cons_succ]
        refine wpAnyH_take (i := 5) (v := ?_) rfl (by kernel_rfl) (by kernel_rfl) (by kernel_rfl) (fun _ _ _ h => h) (Or.inl ⟨by rfl, ?_⟩) hHeld ?_
        rotate_left
        · intro u hSu
          (go_simp) <;> (with_reducible rfl)
        change wpAnyH _ _ _ _ _ _ _ (Act.put _ (some 40) _) _
        simp only [Act.put, List.setIfInBounds_toArray, List.set_cons_zero, List.set_cons_succ]
        refine wpAnyH_take (i := 6) (v := ?_) rfl (by kernel_rfl) (by kernel_rfl) (by kernel_rfl) (fun _ _ _ h => h) (Or.inl ⟨by rfl, ?_⟩) hHeld ?_
        rotate_left
        · intro u hSu
          (go_simp) <;> (with_reducible rfl)
        change wpAnyH _ _ _ _ _ _ _ (Act.put _ (some 41) _) _
        simp only [Act.put, List.setIfInBounds_toArray, List.set_cons_zero, List.set_cons_succ]
        refine wpAnyH_take (i := 7) (v := ?_) rfl (by kernel_rfl) (by kernel_rfl) (by kernel_rfl) (fun _ _ _ h => h) (Or.inl ⟨by rfl, ?_⟩) hHeld ?_
        rotate_left
        · intro u hSu
          (go_simp) <;> (with_reducible rfl)
        change wpAnyH _ _ _ _ _ _ _ (Act.put _ (some 42) _) _
        simp only [Act.put, List.setIfInBounds_toArray, List.set_cons_zero, List.set_cons_succ]
        refine wpAnyH_take (i := 8) (v := ?_) rfl (by kernel_rfl) (by kernel_rfl) (by kernel_rfl) (fun _ _ _ h => h) (Or.inl ⟨by rfl, ?_⟩) hHeld ?_
        rotate_left
        · intro u hSu
          (go_simp) <;> (with_reducible rfl)
        change wpAnyH _ _ _ _ _ _ _ (Act.put _ (some 43) _) _
        simp only [Act.put, List.setIfInBounds_toArray, List.set_cons_zero, List.set_cons_succ]
        refine wpAnyH_take (i := 9) (v := ?_) rfl (by kernel_rfl) (by kernel_rfl) (by kernel_rfl) (fun _ _ _ h => h) (Or.inl ⟨by rfl, ?_⟩) hHeld ?_
        rotate_left
        · intro u hSu
          obtain ⟨y0, y1, y2, y3⟩ := FV.out u hSu
          (go_simp) <;> (with_reducible rfl)
        change wpAnyH _ _ _ _ _ _ _ (Act.put _ (some 44) _) _
        simp only [Act.put, List.setIfInBounds_toArray, List.set_cons_zero, List.set_cons_succ]
        refine wpAnyH_take (i := 10) (v := ?_) rfl (by kernel_rfl) (by kernel_rfl) (by kernel_rfl) (fun _ _ _ h => h) (Or.inl ⟨by rfl, ?_⟩) hHeld ?_
        rotate_left
        · intro u hSu
          obtain ⟨y0, y1⟩ := FT2.out u hSu
          (go_simp) <;> (with_reducible rfl)
        change wpAnyH _ _ _ _ _ _ _ (Act.put _ (some 45) _) _
        simp only [Act.put, List.setIfInBounds_toArray, List.set_cons_zero, List.set_cons_succ]
        refine wpAnyH_ready (rs := [11]) (by kernel_rfl) (by simp) ?_
        refine AllReadyH.cons rfl (fun K hK => ?_) AllReadyH.nil
        go_simp
        go_at_call 167
        refine (CL1.out _).mono ?_
        rintro e x1 ⟨rfl, hbx1⟩
        have B1 : Hid (Below wr.heap.size wr x1) := hHeld.trans (hbx1.mono hHeld.size)
        clear hbx1
        refine hK.out _ _ ?_ (fun hHeld2 => ?_)
        · exact B1.out
        clear hK K hHeld
        have hHeld := hHeld2
        clear hHeld2
        refine wpAnyH_take (i := 12) (v := ?_) rfl (by kernel_rfl) (by kernel_rfl) (by kernel_rfl) (fun _ _ _ h => h) (Or.inl ⟨by rfl, ?_⟩) hHeld ?_
        rotate_left
        · intro u hSu
          (go_simp) <;> (with_reducible rfl)
        change wpAnyH _ _ _ _ _ _ _ (Act.put _ (some 47) _) _
        simp only [Act.put, List.setIfInBounds_toArray, List.set_cons_zero, List.set_cons_succ]
        refine wpAnyH_take (i := 13) (v := ?_) rfl (by kernel_rfl) (by kernel_rfl) (by kernel_rfl) (fun _ _ _ h => h) (Or.inl ⟨by rfl, ?_⟩) hHeld ?_
        rotate_left
        · intro u hSu
          (go_simp) <;> (with_reducible rfl)
        change wpAnyH _ _ _ _ _ _ _ (Act.put _ (some 48) _) _
        simp only [Act.put, List.setIfInBounds_toArray, List.set_cons_zero, List.set_cons_succ]
        refine wpAnyH_take (i := 14) (v := ?_) rfl (by kernel_rfl) (by kernel_rfl) (by kernel_rfl) (fun _ _ _ h => h) (Or.inl ⟨by rfl, ?_⟩) hHeld ?_
        rotate_left
        · intro u hSu
          (go_simp) <;> (with_reducible rfl)
        change wpAnyH _ _ _ _ _ _ _ (Act.put _ (some 6) _) _
        simp only [Act.put, List.setIfInBounds_toArray, List.set_cons_zero, List.set_cons_succ]
        refine wpAnyH_take (i := 15) (v := ?_) rfl (by kernel_rfl) (by kernel_rfl) (by kernel_rfl) (fun _ _ _ h => h) (Or.inl ⟨by rfl, ?_⟩) hHeld ?_
        rotate_left
        · intro u hSu
          (go_simp) <;> (with_reducible rfl)
        change wpAnyH _ _ _ _ _ _ _ (Act.put _ (some 7) _) _
        simp only [Act.put, List.setIfInBounds_toArray, List.set_cons_zero, List.set_cons_succ]
        refine wpAnyH_done (by kernel_rfl) ?_ _
        refine NoPanic.normal ?_
        go_wp2
        go_ret2
        rw [HB2.out]
        exact ⟨rfl, HB1.out.trans ((HW.out.trans (B1.out.mono HW.out.size)).mono HB1.out.size)⟩
      · have b1 : decide (lo < N) = false := decide_eq_false hN
        have HH1 : Hid (ht = false) := by
          show ht = false
          rw [HHT.out]
          unfold hitN
          rw [← HLO.out, List.getElem?_eq_none (by rw [HNL.out]; omega)]
        go_wp2
        refine wp_region_noPanic ?_
        refine wp_region_held_drew (S := fun u => Below wr.heap.size wr u) (by kernel_rfl) ?_ (fun hHeld => ?_)
        · exact (Below.refl _ _).drew
        refine wpAnyH_take (i := 0) (v := ?_) rfl (by kernel_rfl) (by kernel_rfl) (by kernel_rfl) (fun _ _ _ h => h) (Or.inl ⟨by rfl, ?_⟩) hHeld ?_
        rotate_left
        · intro u hSu
          (go_simp) <;> (with_reducible rfl)
        change wpAnyH _ _ _ _ _ _ _ (Act.put _ (some 35) _) _
        simp only [Act.put, List.setIfInBounds_toArray, List.set_cons_zero, List.set_cons_succ]
        refine wpAnyH_take (i := 1) (v := ?_) rfl (by kernel_rfl) (by kernel_rfl) (by kernel_rfl) (fun _ _ _ h => h) (Or.inl ⟨by rfl, ?_⟩) hHeld ?_
        rotate_left
        · intro u hSu
          (go_simp) <;> (with_reducible rfl)
        change wpAnyH _ _ _ _ _ _ _ (Act.put _ (some 36) _) _
        simp only [Act.put, List.setIfInBounds_toArray, List.set_cons_zero, List.set_cons_succ]
        refine wpAnyH_take (i := 2) (v := ?_) rfl (by kernel_rfl) (by kernel_rfl) (by kernel_rfl) (fun _ _ _ h => h) (Or.inl ⟨by rfl, ?_⟩) hHeld ?_
        rotate_left
        · intro u hSu
          (go_simp) <;> (with_reducible rfl)
        change wpAnyH _ _ _ _ _ _ _ (Act.put _ (some 37) _) _
        simp only [Act.put, List.setIfInBounds_toArray, List.set_cons_zero, List.set_cons_succ]
        refine wpAnyH_take (i := 3) (v := ?_) rfl (by kernel_rfl) (by kernel_rfl) (by kernel_rfl) (fun _ _ _ h => h) (Or.inl ⟨by rfl, ?_⟩) hHeld ?_
        rotate_left
        · intro u hSu
          (go_simp) <;> (with_reducible rfl)
        change wpAnyH _ _ _ _ _ _ _ (Act.put _ (some 38) _) _
        simp only [Act.put, List.setIfInBounds_toArray, List.set_cons_zero, List.set_cons_succ]
        refine wpAnyH_take (i := 4) (v := ?_) rfl (by kernel_rfl) (by kernel_rfl) (by kernel_rfl) (fun _ _ _ h => h) (Or.inl ⟨by rfl, ?_⟩) hHeld ?_
        rotate_left
        · intro u hSu
          (go_simp) <;> (with_reducible rfl)
        change wpAnyH _ _ _ _ _ _ _ (Act.put _ (some 39) _) _
        simp only [Act.put, List.setIfInBounds_toArray, List.set_cons_zero, List.set_cons_succ]
        refine wpAnyH_take (i := 5) (v := undef) rfl (by kernel_rfl) (by kernel_rfl) (by kernel_rfl) (fun _ _ _ h => h) (Or.inr ⟨by rfl, rfl⟩) hHeld ?_
        change wpAnyH _ _ _ _ _ _ _ (Act.put _ (some 40) _) _
        simp only [Act.put, List.setIfInBounds_toArray, List.set_cons_zero, List.set_cons_succ]
        refine wpAnyH_take (i := 6) (v := undef) rfl (by kernel_rfl) (by kernel_rfl) (by kernel_rfl) (fun _ _ _ h => h) (Or.inr ⟨by rfl, rfl⟩) hHeld ?_
        change wpAnyH _ _ _ _ _ _ _ (Act.put _ (some 41) _) _
        simp only [Act.put, List.setIfInBounds_toArray, List.set_cons_zero, List.set_cons_succ]
        refine wpAnyH_take (i := 7) (v := undef) rfl (by kernel_rfl) (by kernel_rfl) (by kernel_rfl) (fun _ _ _ h => h) (Or.inr ⟨by rfl, rfl⟩) hHeld ?_
        change wpAnyH _ _ _ _ _ _ _ (Act.put _ (some 42) _) _
        simp only [Act.put, List.setIfInBounds_toArray, List.set_cons_zero, List.set_cons_succ]
        refine wpAnyH_take (i := 8) (v := undef) rfl (by kernel_rfl) (by kernel_rfl) (by kernel_rfl) (fun _ _ _ h => h) (Or.inr ⟨by rfl, rfl⟩) hHeld ?_
        change wpAnyH _ _ _ _ _ _ _ (Act.put _ (some 43) _) _
        simp only [Act.put, List.setIfInBounds_toArray, List.set_cons_zero, List.set_cons_succ]
        refine wpAnyH_take (i := 9) (v := undef) rfl (by kernel_rfl) (by kernel_rfl) (by kernel_rfl) (fun _ _ _ h => h) (Or.inr ⟨by rfl, rfl⟩) hHeld ?_
        change wpAnyH _ _ _ _ _ _ _ (Act.put _ (some 44) _) _
        simp only [Act.put, List.setIfInBounds_toArray, List.set_cons_zero, List.set_cons_succ]
        refine wpAnyH_take (i := 10) (v := undef) rfl (by kernel_rfl) (by kernel_rfl) (by kernel_rfl) (fun _ _ _ h => h) (Or.inr ⟨by rfl, rfl⟩) hHeld ?_
        change wpAnyH _ _ _ _ _ _ _ (Act.put _ (some 45) _) _
        simp only [Act.put, List.setIfInBounds_toArray, List.set_cons_zero, List.set_cons_succ]
        refine wpAnyH_take (i := 11) (v := undef) rfl (by kernel_rfl) (by kernel_rfl) (by kernel_rfl) (fun _ _ _ h => h) (Or.inr ⟨by rfl, rfl⟩) hHeld ?_
        change wpAnyH _ _ _ _ _ _ _ (Act.put _ (some 46) _) _
        simp only [Act.put, List.setIfInBounds_toArray, List.set_cons_zero, List.set_cons_succ]
        refine wpAnyH_take (i := 12) (v := undef) rfl (by kernel_rfl) (by kernel_rfl) (by kernel_rfl) (fun _ _ _ h => h) (Or.inr ⟨by rfl, rfl⟩) hHeld ?_
        change wpAnyH _ _ _ _ _ _ _ (Act.put _ (some 47) _) _
        simp only [Act.put, List.setIfInBounds_toArray, List.set_cons_zero, List.set_cons_succ]
        refine wpAnyH_take (i := 13) (v := ?_) rfl (by kernel_rfl) (by kernel_rfl) (by kernel_rfl) (fun _ _ _ h => h) (Or.inl ⟨by rfl, ?_⟩) hHeld ?_
        rotate_left
        · intro u hSu
          (go_simp) <;> (with_reducible rfl)
        change wpAnyH _ _ _ _ _ _ _ (Act.put _ (some 48) _) _
        simp only [Act.put, List.setIfInBounds_toArray, List.set_cons_zero, List.set_cons_succ]
        refine wpAnyH_take (i := 14) (v := ?_) rfl (by kernel_rfl) (by kernel_rfl) (by kernel_rfl) (fun _ _ _ h => h) (Or.inl ⟨by rfl, ?_⟩) hHeld ?_
        rotate_left
        · intro u hSu
          (go_simp) <;> (with_reducible rfl)
        change wpAnyH _ _ _ _ _ _ _ (Act.put _ (some 6) _) _
        simp only [Act.put, List.setIfInBounds_toArray, List.set_cons_zero, List.set_cons_succ]
        refine wpAnyH_take (i := 15) (v := ?_) rfl (by kernel_rfl) (by kernel_rfl) (by kernel_rfl) (fun _ _ _ h => h) (Or.inl ⟨by rfl, ?_⟩) hHeld ?_
        rotate_left
        · intro u hSu
          (go_simp) <;> (with_reducible rfl)
        change wpAnyH _ _ _ _ _ _ _ (Act.put _ (some 7) _) _
        simp only [Act.put, List.setIfInBounds_toArray, List.set_cons_zero, List.set_cons_succ]
        refine wpAnyH_done (by kernel_rfl) ?_ _
        refine NoPanic.normal ?_
        go_wp2
        go_ret2
        rw [HH1.out]
        exact ⟨rfl, (HB1.out.trans (HW.out.mono HB1.out.size)).drew⟩
theorem cfind_any (p : Nat) (L : List Ver) (X : Foot) (t n : Int) (w : World) (h : ChD w p L X) :
    Calls Tryz.prog 158 #[.pointer (some ⟨p, 0, none⟩), .agg #[.int .i64 t, .int .u8 n]] w fun e w' => e = .returned (.tuple #[.int .i64 (loN L t n : Nat), .bool (hitN L t n)]) ∧ Below w.heap.size w w' := by
  obtain ⟨a, c, hc1, hc2, hc3, hcell, _⟩ := h.open
  obtain ⟨N, hN⟩ : ∃ N, N = L.length := ⟨_, rfl⟩
  obtain ⟨w1, hw1⟩ : ∃ u, u = w.alloc (.cells #[.int .i64 t, .int .u8 n] 28) := ⟨_, rfl⟩
  have HB1 : Hid (Below w.heap.size w w1) := by rw [hw1]; exact (Below.refl _ _).alloc (Nat.le_refl _) _
  have FT : Hid (∀ u, Below w1.heap.size w1 u → u.cell? ⟨w.heap.size, 0, none⟩ = some (.int .i64 t) ∧ u.cell? ⟨w.heap.size, 1, none⟩ = some (.int .u8 n)) := fun u hb => by
    have hlt : w.heap.size < w1.heap.size := by rw [hw1]; simp
    refine ⟨(hb.cell (p := ⟨w.heap.size, 0, none⟩) hlt).trans ?_, (hb.cell (p := ⟨w.heap.size, 1, none⟩) hlt).trans ?_⟩ <;> (rw [hw1, World.cell?_alloc_new]; rfl)
  have FC : Hid (∀ u, Below w1.heap.size w1 u → u.cell? ⟨p, 0, none⟩ = some (.slice a N c)) := fun u hb => by rw [hN]; exact (hcell u (HB1.out.trans (hb.mono HB1.out.size))).1
  obtain ⟨lo, hlo⟩ : ∃ k, k = loN L t n := ⟨_, rfl⟩
  obtain ⟨ht, hht⟩ : ∃ b, b = hitN L t n := ⟨_, rfl⟩
  have CS : Hid (∀ u, Below w1.heap.size w1 u → Calls Tryz.prog 166 #[.slice a N c, .agg #[.int .i64 t, .int .u8 n], .func (.func 167) #[] #[]] u fun e w' => e = .returned (.tuple #[.int .i64 (lo : Nat), .bool ht]) ∧ Below u.heap.size u w') := fun u hb => by
    rw [hlo, hht]
    exact csearch_any a c N L t n u hN.symm h.chn.ups (by rw [hN]; exact Nat.le_trans h.chn.few (by decide)) (hcell u (HB1.out.trans (hb.mono HB1.out.size))).2
  have HW1 : Hid (w.alloc (.cells #[.int .i64 t, .int .u8 n] 28) = w1) := hw1.symm
  rw [← hlo, ← hht]
  clear hw1 hlo hht hN hcell h
  go_enter Tryz.func158, Tryz.ntmps158
  go_wp2
  rw [HW1.out]
  refine wp_region_noPanic ?_
  refine wp_region_held_drew (S := fun u => Below w1.heap.size w1 u) (by kernel_rfl) ?_ (fun hHeld => ?_)
  · exact (Below.refl _ _).drew
  refine wpAnyH_take (i := 0) (v := ?_) rfl (by kernel_rfl) (by kernel_rfl) (by kernel_rfl) (fun _ _ _ h => h) (Or.inl ⟨by rfl, ?_⟩) hHeld ?_
  rotate_left
  · intro u hSu
    (go_simp) <;> (with_reducible rfl)
  change wpAnyH _ _ _ _ _ _ _ (Act.put _ (some 6) _) _
  simp only [Act.put, List.setIfInBounds_toArray, List.set_cons_zero, List.set_cons_succ]
  refine wpAnyH_take (i := 1) (v := ?_) rfl (by kernel_rfl) (by kernel_rfl) (by kernel_rfl) (fun _ _ _ h => h) (Or.inl ⟨by rfl, ?_⟩) hHeld ?_
  rotate_left
  · intro u hSu
    (go_simp) <;> (with_reducible rfl)
  change wpAnyH _ _ _ _ _ _ _ (Act.put _ (some 7) _) _
  simp only [Act.put, List.setIfInBounds_toArray, List.set_cons_zero, List.set_cons_succ]
  refine wpAnyH_take (i := 2) (v := ?_) rfl (by kernel_rfl) (by kernel_rfl) (by kernel_rfl) (fun _ _ _ h => h) (Or.inl ⟨by rfl, ?_⟩) hHeld ?_
  rotate_left
  · intro u hSu
    (go_simp) <;> (with_reducible rfl)
  change wpAnyH _ _ _ _ _ _ _ (Act.put _ (some 8) _) _
  simp only [Act.put, List.setIfInBounds_toArray, List.set_cons_zero, List.set_cons_succ]
  refine wpAnyH_take (i := 3) (v := ?_) rfl (by kernel_rfl) (by kernel_rfl) (by kernel_rfl) (fun _ _ _ h => h) (Or.inl ⟨by rfl, ?_⟩) hHeld ?_
  rotate_left
  · intro u hSu
    have q0 := FC.out u hSu
    (go_simp) <;> (with_reducible rfl)
  change wpAnyH _ _ _ _ _ _ _ (Act.put _ (some 9) _) _
  simp only [Act.put, List.setIfInBounds_toArray, List.set_cons_zero, List.set_cons_succ]
  refine wpAnyH_take (i := 4) (v := ?_) rfl (by kernel_rfl) (by kernel_rfl) (by kernel_rfl) (fun _ _ _ h => h) (Or.inl ⟨by rfl, ?_⟩) hHeld ?_
  rotate_left
  · intro u hSu
    obtain ⟨y0, y1⟩ := FT.out u hSu
    (go_simp) <;> (with_reducible rfl)
  change wpAnyH _ _ _ _ _ _ _ (Act.put _ (some 10) _) _
  simp only [Act.put, List.setIfInBounds_toArray, List.set_cons_zero, List.set_cons_succ]
  refine wpAnyH_ready (rs := [5]) (by kernel_rfl) (by simp) ?_
  refine AllReadyH.cons rfl (fun K hK => ?_) AllReadyH.nil
  go_simp
  go_at_call 166
  refine (CS.out _ hHeld).mono ?_
  rintro e x1 ⟨rfl, hb1⟩
  have B1 : Hid (Below w1.heap.size w1 x1) := hHeld.trans (hb1.mono hHeld.size); clear hb1
  refine hK.out _ _ ?_ (fun hHeld2 => ?_)
  · exact B1.out
  clear hK K hHeld
  have hHeld := hHeld2
  clear hHeld2
  refine wpAnyH_take (i := 6) (v := ?_) rfl (by kernel_rfl) (by kernel_rfl) (by kernel_rfl) (fun _ _ _ h => h) (Or.inl ⟨by rfl, ?_⟩) hHeld ?_
  rotate_left
  · intro u hSu
    (go_simp) <;> (with_reducible rfl)
  change wpAnyH _ _ _ _ _ _ _ (Act.put _ (some 12) _) _
  simp only [Act.put, List.setIfInBounds_toArray, List.set_cons_zero, List.set_cons_succ]
  refine wpAnyH_take (i := 7) (v := ?_) rfl (by kernel_rfl) (by kernel_rfl) (by kernel_rfl) (fun _ _ _ h => h) (Or.inl ⟨by rfl, ?_⟩) hHeld ?_
  rotate_left
  · intro u hSu
    (go_simp) <;> (with_reducible rfl)
  change wpAnyH _ _ _ _ _ _ _ (Act.put _ (some 13) _) _
  simp only [Act.put, List.setIfInBounds_toArray, List.set_cons_zero, List.set_cons_succ]
  refine wpAnyH_take (i := 8) (v := ?_) rfl (by kernel_rfl) (by kernel_rfl) (by kernel_rfl) (fun _ _ _ h => h) (Or.inl ⟨by rfl, ?_⟩) hHeld ?_
  rotate_left
  · intro u hSu
    (go_simp) <;> (with_reducible rfl)
  change wpAnyH _ _ _ _ _ _ _ (Act.put _ (some 4) _) _
  simp only [Act.put, List.setIfInBounds_toArray, List.set_cons_zero, List.set_cons_succ]
  refine wpAnyH_take (i := 9) (v := ?_) rfl (by kernel_rfl) (by kernel_rfl) (by kernel_rfl) (fun _ _ _ h => h) (Or.inl ⟨by rfl, ?_⟩) hHeld ?_
  rotate_left
  · intro u hSu
    (go_simp) <;> (with_reducible rfl)
  change wpAnyH _ _ _ _ _ _ _ (Act.put _ (some 5) _) _
  simp only [Act.put, List.setIfInBounds_toArray, List.set_cons_zero, List.set_cons_succ]
  refine wpAnyH_done (by kernel_rfl) ?_ _
  refine NoPanic.normal ?_
  go_wp2
  go_ret2
  exact ⟨rfl, HB1.out.trans (B1.out.mono HB1.out.size)⟩
theorem cupto_any (p : Nat) (L : List Ver) (X : Foot) (t n : Int) (w : World) (h : ChD w p L X) :
    Calls Tryz.prog 145 #[.pointer (some ⟨p, 0, none⟩), .agg #[.int .i64 t, .int .u8 n]] w fun e w' => e = .returned (.int .i64 (upN L t n : Nat)) ∧ Below w.heap.size w w' := by
  have hle := lo_le L t n
  have hfew := h.chn.few
  obtain ⟨lo, hlo⟩ : ∃ k, k = loN L t n := ⟨_, rfl⟩
  obtain ⟨ht, hht⟩ : ∃ b, b = hitN L t n := ⟨_, rfl⟩
  have HB1 : Hid (Below w.heap.size w (w.alloc (.cells #[.int .i64 t, .int .u8 n] 28))) := (Below.refl _ _).alloc (Nat.le_refl _) _
  have CF : Hid (∀ u, Below w.heap.size w u → Calls Tryz.prog 158 #[.pointer (some ⟨p, 0, none⟩), .agg #[.int .i64 t, .int .u8 n]] u fun e w' => e = .returned (.tuple #[.int .i64 (lo : Nat), .bool ht]) ∧ Below u.heap.size u w') := fun u hb => by
    rw [hlo, hht]; exact cfind_any p L X t n u (h.past hb)
  obtain ⟨up, hup⟩ : ∃ k, k = upN L t n := ⟨_, rfl⟩
  have HUP : Hid (up = lo + if ht = true then 1 else 0) := by show up = _; rw [hup, hlo, hht]; rfl
  rw [← hlo] at hle
  rw [← hup]
  clear hlo hht hup h
  cases ht with
  | true =>
    go_enter Tryz.func145, Tryz.ntmps145
    go_wp2_with (go_at_call 158; refine (CF.out _ HB1.out).mono ?_; rintro e w1 ⟨rfl, hb1⟩; have HB2 : Hid (Below w.heap.size w w1) := HB1.out.trans (hb1.mono HB1.out.size); clear hb1)
    go_ret
    rw [HUP.out]
    exact ⟨rfl, HB2.out⟩
  | false =>
    go_enter Tryz.func145, Tryz.ntmps145
    go_wp2_with (go_at_call 158; refine (CF.out _ HB1.out).mono ?_; rintro e w1 ⟨rfl, hb1⟩; have HB2 : Hid (Below w.heap.size w w1) := HB1.out.trans (hb1.mono HB1.out.size); clear hb1)
    go_ret
    rw [HUP.out]
    exact ⟨rfl, HB2.out⟩
end Go.Proofs.YtileidbdmpeciaaGreat

