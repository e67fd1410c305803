/-
  What the document's own tables answer: Add (hourglassref10: Table).
  Lists of versions of one key, and of calls on a chain, that came in: where their cells lie.
  The landed chains in memory: a block that bears a list of versions, four cells each, in a block of its own.
  Where a stamp lies in a list of versions that rises: the last one not above it, how many are above it, what stays when the others go. No program is named here.
  What the landed stamps' Good and Cmp answer (no variable of the library is asked).
-/
import Derived.Test.YtileidbdmpeciaaGreatAu78
import Derived.Test.YtileidbdmpeciaaGreatAu71
import Derived.Test.YtileidbdmpeciaaGreatAu76
import Derived.Test.YtileidbdmpeciaaGreatAu59
import Derived.ProofKit
import Derived.OpenShut
import Derived.ChangeSame
import Derived.Deep.Strs
import Derived.Deep.Slices
import Derived.Below
import Derived.Test.YtileidbdmpeciaaGreatAu82
import Derived.Test.YtileidbdmpeciaaGreatAu54
import Derived.Test.YtileidbdmpeciaaGreatAu87
import Derived.Deep.RegionHeld3
namespace Go.Proofs.YtileidbdmpeciaaGreat
open Go.RowKit
set_option linter.unusedVariables false

/-- What is in a table now was there, or its writes lie in memory that is new. -/
def NewW (w : World) (M M' : List EntM) : Prop := ∀ x ∈ M', x ∈ M ∨ (x.e.l ≠ [] → ∀ b o, x.a = some ⟨b, o, none⟩ → w.heap.size ≤ b)
/-- A list that is all new is laid into the table. -/
theorem TabR.set {w u : World} {B q : Nat} {M M' : List EntM} (h : TabR w B q M) (hB : B ≤ w.heap.size) (hb : Below w.heap.size w u) {a : Option Addr} {N c b : Nat} (hN : M'.length = N) (hrow : u.ownsRow b 58 6 (.slice a N c) N (M'.flatMap encE)) (hbw : w.heap.size ≤ b) (hw : ∀ x ∈ M', EntW u x) (hf : ∀ x ∈ M', x.e.l ≠ [] → ∀ b o, x.a = some ⟨b, o, none⟩ → b ≠ q) (hfew : M'.length ≤ 1000) :
    TabR (u.setCell ⟨q, 0, none⟩ (.slice a N c)) B q M' ∧ Chg w (u.setCell ⟨q, 0, none⟩ (.slice a N c)) (fun k => k = q) ∧ RowedT w (u.setCell ⟨q, 0, none⟩ (.slice a N c)) q := by
  subst hN
  have hlt := h.lt
  obtain ⟨a0, c0, h1, _, _⟩ := h.list
  have hq := (hb.cell (p := ⟨q, 0, none⟩) h.lt).trans h1
  have hk : ∀ k, k ≠ q → (u.setCell ⟨q, 0, none⟩ (.slice a M'.length c)).heap[k]? = u.heap[k]? := fun k hne => Below.heap_setCell _ ⟨q, 0, none⟩ _ k hne
  have hcs := World.cell?_setCell_same u ⟨q, 0, none⟩ (.slice a M'.length c) hq
  refine ⟨⟨by rw [World.size_setCell]; exact Nat.lt_of_lt_of_le hlt hb.size, h.lo, ⟨a, c, hcs, row_keptT (own_downT hrow (by omega)) (fun k e => hk k (by have := (hrow.lt k e).1; omega)), fun k e => by have := (hrow.lt k e).1; omega⟩, by rw [World.frozen?_setCell]; exact (hb.frozen (p := ⟨q, 0, none⟩) h.lt).trans h.free, fun x hx => (hw x hx).kept (fun hl b o e => hk b (hf x hx hl b o e)), hf, hfew⟩, (Chg.of_below hb _).trans (Chg.set u ⟨q, 0, none⟩ _ (X := fun k => k = q) rfl) (fun _ _ x => x), fun v hv g hg => .inl ?_⟩
  rw [hcs] at hv
  injection hv with hv
  rw [← hv] at hg
  have := (hrow.lt g hg).1
  omega
end Go.Proofs.YtileidbdmpeciaaGreat

namespace Go.Proofs.YtileidbdmpeciaaGreat
open Go.RowKit Go.ChangeShapes Go.WideShapes Go.ChangeAt Go.Deep
set_option linter.unusedVariables false

theorem str_numsV (S : ByteArray) : ∃ ns : List Int, (∀ z ∈ ns, 0 ≤ z ∧ z ≤ 255) ∧ S = strOfNums ns := by
  refine ⟨S.data.toList.map fun b => (b.toNat : Int), fun z hz => ?_, ?_⟩
  · obtain ⟨b, _, rfl⟩ := List.mem_map.1 hz
    have := b.toNat_lt
    omega
  · apply ByteArray.ext
    apply Array.toList_inj.1
    have : (strOfNums (S.data.toList.map fun b => (b.toNat : Int))).data.toList = (S.data.toList.map fun b => (b.toNat : Int)).map fun n => UInt8.ofNat n.toNat := by rw [strOfNums_data]
    rw [this, List.map_map]
    have e : ((fun n : Int => UInt8.ofNat n.toNat) ∘ fun b : UInt8 => (b.toNat : Int)) = id := by
      funext b
      simp
    rw [e, List.map_id]
/-- A version of no key, as four cells. -/
def encC (V : Ver) : List Value := [.int .i64 V.t, .int .u8 V.n, .string (strOfNums V.v), .bool V.g]
abbrev cvv (V : Ver) : Value := .agg #[.int .i64 V.t, .int .u8 V.n, .string (strOfNums V.v), .bool V.g]
/-- A version that came in: of no key, its numbers in their bounds. -/
structure VerIn (V : Ver) : Prop where
  key : V.k = zeroK
  t : -9223372036854775808 ≤ V.t ∧ V.t ≤ 9223372036854775807
  n : 0 ≤ V.n ∧ V.n ≤ 255
  val : ∀ z ∈ V.v, 0 ≤ z ∧ z ≤ 255
  few : V.v.length ≤ maxLen
theorem VerIn.ok {V : Ver} (h : VerIn V) (hl : V.v.length ≤ 1000000) : VerOk V := ⟨by rw [h.key]; exact zeroK_ky, h.t.1, h.t.2, h.n.1, h.n.2, h.val, hl⟩
structure CVerAt (w : World) (b o : Nat) (V : Ver) : Prop where
  c0 : w.cell? ⟨b, o, none⟩ = some (.int .i64 V.t)
  c1 : w.cell? ⟨b, o + 1, none⟩ = some (.int .u8 V.n)
  c2 : w.cell? ⟨b, o + 2, none⟩ = some (.string (strOfNums V.v))
  c3 : w.cell? ⟨b, o + 3, none⟩ = some (.bool V.g)
theorem CVerAt.lt {w : World} {b o : Nat} {V : Ver} (h : CVerAt w b o V) : b < w.heap.size := lt_of_cell h.c0
theorem CVerAt.past {w w' : World} {b o : Nat} {V : Ver} (h : CVerAt w b o V) (hb : Below w.heap.size w w') : CVerAt w' b o V :=
  ⟨(hb.cell (p := ⟨b, o, none⟩) h.lt).trans h.c0, (hb.cell (p := ⟨b, o + 1, none⟩) h.lt).trans h.c1, (hb.cell (p := ⟨b, o + 2, none⟩) h.lt).trans h.c2, (hb.cell (p := ⟨b, o + 3, none⟩) h.lt).trans h.c3⟩
/-- A list of versions that came in. -/
structure CVersOf (w : World) (a : Option Addr) (cap : Nat) (xs : List Ver) : Prop where
  room : xs.length ≤ cap
  cells : xs = [] ∨ ∃ b off, a = some ⟨b, off, none⟩ ∧ ∀ i V, xs[i]? = some V → CVerAt w b (off + i * 4) V
  ins : ∀ V ∈ xs, VerIn V
theorem add_atV (b off j : Nat) : (⟨b, off, none⟩ : Addr).add j = ⟨b, off + j, none⟩ := by unfold Addr.add; split <;> simp_all
section
variable {H : Type} {enc : TypeId × Value → H} {w : World} {base : Nat} {held : Bool}
end
end Go.Proofs.YtileidbdmpeciaaGreat

namespace Go.Proofs.YtileidbdmpeciaaGreat
open Go.RowKit
set_option linter.unusedVariables false

theorem encC_len (V : Ver) : (encC V).length = 4 := rfl
theorem encC_one (V : Ver) : ∀ u ∈ encC V, u.oneCell' = true := by
  intro u hu
  unfold encC at hu
  simp at hu
  rcases hu with rfl | rfl | rfl | rfl <;> rfl
theorem encCs_one (L : List Ver) : ∀ u ∈ L.flatMap encC, u.oneCell' = true := flat_one (fun V _ => encC_one V)
theorem encCs_len (L : List Ver) : (L.flatMap encC).length = L.length * 4 := by
  induction L with
  | nil => rfl
  | cons V L ih => rw [List.flatMap_cons, List.length_append, ih, encC_len, List.length_cons]; omega
theorem encCs_take (L : List Ver) (k : Nat) : (L.flatMap encC).take (k * 4) = (L.take k).flatMap encC := flat_take L k (fun V _ => encC_len V)
theorem encCs_drop (L : List Ver) (k : Nat) : (L.flatMap encC).drop (k * 4) = (L.drop k).flatMap encC := flat_drop L k (fun V _ => encC_len V)
theorem cverEl : ElT 133 136 4 40 := ElT.mk' (z := cvv ⟨zeroK, 0, 0, [], false⟩) Tryz.underlying133 (by kernel_rfl) (by kernel_rfl) (by decide) (by decide)
/-- A list of versions in a block of its own. -/
abbrev CRow (u : World) (v : Value) (L : List Ver) : Prop := u.ownsRow 0 136 4 v L.length (L.flatMap encC)
theorem CRow.ver {u : World} {a : Option Addr} {c : Nat} {L : List Ver} (h : CRow u (.slice a L.length c) L) {i : Nat} {V : Ver} (hV : L[i]? = some V) : ∃ g, a = some ⟨g, 0, none⟩ ∧ g < u.heap.size ∧ CVerAt u g (i * 4) V := by
  rcases h.2 with ⟨e1, e2⟩ | ⟨g, cap, cur, e1, hg, hh, e5, e6, e7, e8⟩
  · rw [List.eq_nil_of_length_eq_zero e2] at hV
    simp at hV
  · cases e1
    have hlt := (Array.getElem?_eq_some_iff.1 hh).1
    have hl : Lies u (some ⟨g, 0, none⟩) (L.flatMap encC) := own_lies h
    have he := hl.el (fun V _ => encC_len V) hV
    rw [Nat.zero_add] at he
    refine ⟨g, rfl, hlt, ⟨?_, ?_, ?_, ?_⟩⟩
    · exact he.at 0 _ rfl
    · exact he.at 1 _ rfl
    · exact he.at 2 _ rfl
    · exact he.at 3 _ rfl
/-- A chain in block p; its blocks are those of X. -/
structure ChD (u : World) (p : Nat) (L : List Ver) (X : Foot) : Prop where
  own : X p
  lt : ∀ k, X k → k < u.heap.size
  chn : Chn L
  list : ∃ a c, u.cell? ⟨p, 0, none⟩ = some (.slice a L.length c) ∧ CRow u (.slice a L.length c) L ∧ ∀ k, (Value.slice a L.length c).ownBlock = some k → X k ∧ k ≠ p
  free : u.frozen? ⟨p, 0, none⟩ = false
  ty : ∃ cs fz, u.heap[p]? = some (.cells cs 199 fz)
theorem crow_kept {u u' : World} {v : Value} {L : List Ver} (h : CRow u v L) (hk : ∀ k, v.ownBlock = some k → u'.heap[k]? = u.heap[k]?) : CRow u' v L := by
  refine ⟨h.1, ?_⟩
  rcases h.2 with h0 | ⟨g, cap, cur, e1, hg, hh, r⟩
  · exact .inl h0
  · exact .inr ⟨g, cap, cur, e1, hg, (hk g (by rw [e1]; rfl)).trans hh, r⟩
theorem ChD.kept {u u' : World} {p : Nat} {L : List Ver} {X : Foot} (h : ChD u p L X) (hs : u.heap.size ≤ u'.heap.size) (hk : ∀ k, X k → u'.heap[k]? = u.heap[k]?) : ChD u' p L X := by
  obtain ⟨a, c, h1, h2, h3⟩ := h.list
  exact ⟨h.own, fun k hk => Nat.lt_of_lt_of_le (h.lt k hk) hs, h.chn, ⟨a, c, (cell_kept (hk p h.own) 0).trans h1, crow_kept h2 (fun k e => hk k (h3 k e).1), h3⟩, (frozen_kept (hk p h.own) 0).trans h.free, by rw [hk p h.own]; exact h.ty⟩
theorem ChD.past {u u' : World} {p : Nat} {L : List Ver} {X : Foot} (h : ChD u p L X) (hb : Below u.heap.size u u') : ChD u' p L X := h.kept hb.size (fun k x => hb.block k (h.lt k x))
/-- The list's cell, and each version of it, in every world behind. -/
theorem ChD.open {u : World} {p : Nat} {L : List Ver} {X : Foot} (h : ChD u p L X) : ∃ a c, L.length ≤ c ∧ c ≤ maxLen ∧ (a = none → L = [] ∧ c = 0) ∧ (∀ v, Below u.heap.size u v → v.cell? ⟨p, 0, none⟩ = some (.slice a L.length c) ∧ CRow v (.slice a L.length c) L) ∧ (L = [] ∨ ∃ g, a = some ⟨g, 0, none⟩ ∧ g < u.heap.size ∧ ∀ v, Below u.heap.size u v → ∀ i V, L[i]? = some V → CVerAt v g (i * 4) V) := by
  obtain ⟨a, c, h1, h2, h3⟩ := h.list
  have hb : ∀ v, Below u.heap.size u v → v.cell? ⟨p, 0, none⟩ = some (.slice a L.length c) ∧ CRow v (.slice a L.length c) L := fun v hb =>
    ⟨(hb.cell (p := ⟨p, 0, none⟩) (h.lt p h.own)).trans h1, own_below h2 hb (Nat.le_refl _)⟩
  have hc : L.length ≤ c ∧ c ≤ maxLen ∧ (a = none → L = [] ∧ c = 0) ∧ (L = [] ∨ ∃ g, a = some ⟨g, 0, none⟩ ∧ g < u.heap.size) := by
    rcases h2.2 with ⟨e1, e2⟩ | ⟨g, cap, cur, e1, _, hh, e5, e6, _⟩
    · have hn := List.eq_nil_of_length_eq_zero e2
      subst hn
      cases e1
      exact ⟨Nat.le_refl _, Nat.zero_le _, fun _ => ⟨rfl, rfl⟩, .inl rfl⟩
    · cases e1
      exact ⟨e5, e6, fun h => (by cases h), .inr ⟨g, rfl, (Array.getElem?_eq_some_iff.1 hh).1⟩⟩
  refine ⟨a, c, hc.1, hc.2.1, hc.2.2.1, hb, ?_⟩
  rcases hc.2.2.2 with e | ⟨g, rfl, hg⟩
  · exact .inl e
  · refine .inr ⟨g, rfl, hg, fun v hv i V hV => ?_⟩
    obtain ⟨g', e, _, hat⟩ := (hb v hv).2.ver hV
    injection e with e
    injection e with e
    subst e
    exact hat
end Go.Proofs.YtileidbdmpeciaaGreat

namespace Go.Proofs.YtileidbdmpeciaaGreat
open Go.RowKit
set_option linter.unusedVariables false

/-- How many are below a stamp; is the next one at it? -/
def loN (L : List Ver) (t n : Int) : Nat := (L.takeWhile (fun X => decide (cmpS X.t X.n t n < 0))).length
def hitN (L : List Ver) (t n : Int) : Bool := match L[loN L t n]? with
  | none => false
  | some X => decide (cmpS X.t X.n t n = 0)
theorem lo_le (L : List Ver) (t n : Int) : loN L t n ≤ L.length := List.Sublist.length_le (List.takeWhile_sublist _)
/-- How many are not above a stamp. -/
def upN (L : List Ver) (t n : Int) : Nat := loN L t n + if hitN L t n = true then 1 else 0
/-- The last of the first k. -/
def lastN (L : List Ver) (k : Nat) : Option Ver := if k = 0 then none else L[k - 1]?
theorem lo_rk (L : List Ver) (V : Ver) : loN L V.t V.n = rk L V := rfl
theorem hit_clash {L : List Ver} {V : Ver} (h : One L) (hV : V.k = zeroK) : hitN L V.t V.n = clashV L V := by
  rw [one_clash h hV]
  unfold hitN
  rw [lo_rk]
  cases L[rk L V]? with
  | none => rfl
  | some X =>
    simp only
    exact decide_eq_decide.2 cmp_nil
theorem up_facts {L : List Ver} (hu : Ups L) (t n : Int) : upN L t n ≤ L.length ∧ (∀ j X, j < upN L t n → L[j]? = some X → ¬ ltS t n X.t X.n) ∧ (∀ j X, upN L t n ≤ j → L[j]? = some X → ltS t n X.t X.n) := by
  obtain ⟨W, hW⟩ : ∃ W : Ver, W = ⟨zeroK, t, n, [], false⟩ := ⟨_, rfl⟩
  have eW : loN L t n = rk L W := by rw [hW]; rfl
  have below : ∀ j X, j < loN L t n → L[j]? = some X → ltS X.t X.n t n := fun j X hj hX => by
    have := rk_lt (V := W) (by rw [← eW]; exact hj) hX
    rw [hW] at this
    exact this
  have at_ : ∀ X, L[loN L t n]? = some X → ¬ ltS X.t X.n t n := fun X hX => by
    have := rk_stop L W X (by rw [← eW]; exact hX)
    rw [hW] at this
    exact this
  have asym : ∀ a b c d : Int, ltS a b c d → ¬ ltS c d a b := fun a b c d h1 h2 => by unfold ltS at *; omega
  have hle := lo_le L t n
  unfold upN
  by_cases hh : hitN L t n = true
  · rw [if_pos hh]
    unfold hitN at hh
    cases hX : L[loN L t n]? with
    | none => rw [hX] at hh; cases hh
    | some X =>
      rw [hX] at hh
      obtain ⟨e1, e2⟩ := cmp_nil.1 (of_decide_eq_true hh)
      have hlt := (List.getElem?_eq_some_iff.1 hX).1
      refine ⟨hlt, fun j Y hj hY => ?_, fun j Y hj hY => ?_⟩
      · by_cases e : j = loN L t n
        · rw [e, hX] at hY
          injection hY with hY
          rw [← hY, e1, e2]
          unfold ltS; omega
        · exact asym _ _ _ _ (below j Y (by omega) hY)
      · have h3 := hu.at (by omega) hX hY
        unfold ltV at h3
        rw [e1, e2] at h3
        exact h3
  · rw [if_neg hh, Nat.add_zero]
    refine ⟨hle, fun j Y hj hY => asym _ _ _ _ (below j Y hj hY), fun j Y hj hY => ?_⟩
    have hlt : loN L t n < L.length := Nat.lt_of_le_of_lt hj (List.getElem?_eq_some_iff.1 hY).1
    obtain ⟨X, hX⟩ : ∃ X, L[loN L t n]? = some X := ⟨_, List.getElem?_eq_getElem hlt⟩
    have h1 := at_ X hX
    have h2 : ¬ (X.t = t ∧ X.n = n) := fun e => hh (by unfold hitN; rw [hX]; exact decide_eq_true (cmp_nil.2 e))
    have h3 : ltS t n X.t X.n := by unfold ltS at *; omega
    by_cases e : j = loN L t n
    · rw [e, hX] at hY
      injection hY with hY
      rw [← hY]; exact h3
    · exact ltS_trans h3 (hu.at (by omega) hX hY)
theorem at_last {L : List Ver} (h : One L) (hu : Ups L) (t n : Int) : atV L zeroK t n = lastN L (upN L t n) := by
  obtain ⟨h1, h2, h3⟩ := up_facts hu t n
  unfold lastN
  by_cases h0 : upN L t n = 0
  · rw [if_pos h0]
    refine (at_none_iff h).2 (fun Y hY => ?_)
    obtain ⟨j, hj, e⟩ := List.getElem_of_mem hY
    exact h3 j Y (by omega) (by rw [List.getElem?_eq_getElem hj, e])
  · rw [if_neg h0]
    have hlt : upN L t n - 1 < L.length := by omega
    rw [List.getElem?_eq_getElem hlt]
    refine at_is h hu (List.getElem_mem hlt) (h2 _ _ (by omega) (List.getElem?_eq_getElem hlt)) (fun Y hY hn => ?_)
    obtain ⟨j, hj, e⟩ := List.getElem_of_mem hY
    have hYj : L[j]? = some Y := by rw [List.getElem?_eq_getElem hj, e]
    by_cases hju : upN L t n ≤ j
    · exact absurd (h3 j Y hju hYj) hn
    · by_cases e2 : j = upN L t n - 1
      · left
        subst e2
        exact e.symm
      · right
        exact hu.at (by omega) hYj (List.getElem?_eq_getElem hlt)
theorem newest_last {L : List Ver} (h : One L) : newestV L zeroK = lastN L L.length := by
  unfold newestV lastN
  rw [one_chain h]
  by_cases h0 : L.length = 0
  · rw [if_pos h0, List.eq_nil_of_length_eq_zero h0]; rfl
  · rw [if_neg h0, List.getLast?_eq_getElem?]
end Go.Proofs.YtileidbdmpeciaaGreat

namespace Go.Proofs.YtileidbdmpeciaaGreat
open Go.RowKit
set_option linter.unusedVariables false

theorem sgood_any (t n : Int) (w : World) :
    Calls Tryz.prog 47 #[.agg #[.int .i64 t, .int .u8 n]] w fun e w' => e = .returned (.bool (decide (okS t))) ∧ Below w.heap.size w w' := by
  have HB : Hid (Below w.heap.size w (w.alloc (.cells #[.int .i64 t, .int .u8 n] 28))) := (Below.refl _ _).alloc (Nat.le_refl _) _
  by_cases h0 : 0 ≤ t
  · have b0 : decide (0 ≤ t) = true := decide_eq_true h0
    by_cases h1 : t ≤ 36028797018963967
    · have b1 : decide (t ≤ 36028797018963967) = true := decide_eq_true h1
      rw [decide_eq_true (show okS t from ⟨h0, h1⟩)]
      go_enter Tryz.func47, Tryz.ntmps47
      go_wp2
      go_ret
      exact ⟨rfl, HB.out⟩
    · have b1 : decide (t ≤ 36028797018963967) = false := decide_eq_false h1
      rw [decide_eq_false (show ¬ okS t from fun h => h1 h.2)]
      go_enter Tryz.func47, Tryz.ntmps47
      go_wp2
      go_ret
      exact ⟨rfl, HB.out⟩
  · have b0 : decide (0 ≤ t) = false := decide_eq_false h0
    rw [decide_eq_false (show ¬ okS t from fun h => h0 h.1)]
    go_enter Tryz.func47, Tryz.ntmps47
    go_wp2
    go_ret
    exact ⟨rfl, HB.out⟩
theorem scmp_any (t n t' n' : Int) (w : World) :
    Calls Tryz.prog 49 #[.agg #[.int .i64 t, .int .u8 n], .agg #[.int .i64 t', .int .u8 n']] w fun e w' => e = .returned (.int .i64 (cmpS t n t' n')) ∧ Below w.heap.size w w' := by
  have HB : Hid (Below w.heap.size w ((w.alloc (.cells #[.int .i64 t, .int .u8 n] 28)).alloc (.cells #[.int .i64 t', .int .u8 n'] 28))) := ((Below.refl _ _).alloc (Nat.le_refl _) _).alloc (by simp) _
  by_cases h1 : t < t'
  · have b1 : decide (t < t') = true := decide_eq_true h1
    rw [cmp_lt (.inl h1)]
    go_enter Tryz.func49, Tryz.ntmps49
    go_wp2
    go_ret
    exact ⟨rfl, HB.out⟩
  · have b1 : decide (t < t') = false := decide_eq_false h1
    by_cases h2 : t' < t
    · have b2 : decide (t' < t) = true := decide_eq_true h2
      rw [cmp_gt (.inl h2)]
      go_enter Tryz.func49, Tryz.ntmps49
      go_wp2
      go_ret
      exact ⟨rfl, HB.out⟩
    · have b2 : decide (t' < t) = false := decide_eq_false h2
      have e : t = t' := by omega
      subst e
      by_cases h3 : n < n'
      · have b3 : decide (n < n') = true := decide_eq_true h3
        rw [cmp_lt (.inr ⟨rfl, h3⟩)]
        go_enter Tryz.func49, Tryz.ntmps49
        go_wp2
        go_ret
        exact ⟨rfl, HB.out⟩
      · have b3 : decide (n < n') = false := decide_eq_false h3
        by_cases h4 : n' < n
        · have b4 : decide (n' < n) = true := decide_eq_true h4
          rw [cmp_gt (.inr ⟨rfl, h4⟩)]
          go_enter Tryz.func49, Tryz.ntmps49
          go_wp2
          go_ret
          exact ⟨rfl, HB.out⟩
        · have b4 : decide (n' < n) = false := decide_eq_false h4
          have e : n = n' := by omega
          subst e
          rw [cmp_eq]
          go_enter Tryz.func49, Tryz.ntmps49
          go_wp2
          go_ret
          exact ⟨rfl, HB.out⟩
end Go.Proofs.YtileidbdmpeciaaGreat

