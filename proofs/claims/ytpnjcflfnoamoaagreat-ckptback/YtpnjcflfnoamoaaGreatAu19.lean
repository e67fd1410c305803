/-
  Lists of versions of one key, and of calls on a chain, that came in: where their cells lie.
  The landed chains in memory: a block that bears a list of versions, four cells each, in a block of its own.
-/
import Derived.Test.YtpnjcflfnoamoaaGreatPa
import Derived.Test.YtpnjcflfnoamoaaGreatBase
import Derived.ProofKit
import Derived.OpenShut
import Derived.ChangeSame
import Derived.Deep.Strs
import Derived.Deep.Slices
import Derived.Below
import Derived.Test.YtpnjcflfnoamoaaGreatChainRun
import Derived.Test.YtpnjcflfnoamoaaGreatPl
namespace Go.Proofs.YtpnjcflfnoamoaaGreat
open Go.RowKit Go.ChangeShapes Go.WideShapes Go.ChangeAt Go.Deep
set_option linter.unusedVariables false

theorem str_numsV (S : ByteArray) : ∃ ns : List Int, (∀ z ∈ ns, 0 ≤ z ∧ z ≤ 255) ∧ S = strOfNums ns := by
  refine ⟨S.data.toList.map fun b => (b.toNat : Int), fun z hz => ?_, ?_⟩
  · obtain ⟨b, _, rfl⟩ := List.mem_map.1 hz
    have := b.toNat_lt
    omega
  · apply ByteArray.ext
    apply Array.toList_inj.1
    have : (strOfNums (S.data.toList.map fun b => (b.toNat : Int))).data.toList = (S.data.toList.map fun b => (b.toNat : Int)).map fun n => UInt8.ofNat n.toNat := by rw [strOfNums_data]
    rw [this, List.map_map]
    have e : ((fun n : Int => UInt8.ofNat n.toNat) ∘ fun b : UInt8 => (b.toNat : Int)) = id := by
      funext b
      simp
    rw [e, List.map_id]
/-- A version of no key, as four cells. -/
def encC (V : Ver) : List Value := [.int .i64 V.t, .int .u8 V.n, .string (strOfNums V.v), .bool V.g]
abbrev cvv (V : Ver) : Value := .agg #[.int .i64 V.t, .int .u8 V.n, .string (strOfNums V.v), .bool V.g]
/-- A version that came in: of no key, its numbers in their bounds. -/
structure VerIn (V : Ver) : Prop where
  key : V.k = zeroK
  t : -9223372036854775808 ≤ V.t ∧ V.t ≤ 9223372036854775807
  n : 0 ≤ V.n ∧ V.n ≤ 255
  val : ∀ z ∈ V.v, 0 ≤ z ∧ z ≤ 255
  few : V.v.length ≤ maxLen
theorem VerIn.ok {V : Ver} (h : VerIn V) (hl : V.v.length ≤ 1000000) : VerOk V := ⟨by rw [h.key]; exact zeroK_ky, h.t.1, h.t.2, h.n.1, h.n.2, h.val, hl⟩
structure CVerAt (w : World) (b o : Nat) (V : Ver) : Prop where
  c0 : w.cell? ⟨b, o, none⟩ = some (.int .i64 V.t)
  c1 : w.cell? ⟨b, o + 1, none⟩ = some (.int .u8 V.n)
  c2 : w.cell? ⟨b, o + 2, none⟩ = some (.string (strOfNums V.v))
  c3 : w.cell? ⟨b, o + 3, none⟩ = some (.bool V.g)
theorem CVerAt.lt {w : World} {b o : Nat} {V : Ver} (h : CVerAt w b o V) : b < w.heap.size := lt_of_cell h.c0
theorem CVerAt.past {w w' : World} {b o : Nat} {V : Ver} (h : CVerAt w b o V) (hb : Below w.heap.size w w') : CVerAt w' b o V :=
  ⟨(hb.cell (p := ⟨b, o, none⟩) h.lt).trans h.c0, (hb.cell (p := ⟨b, o + 1, none⟩) h.lt).trans h.c1, (hb.cell (p := ⟨b, o + 2, none⟩) h.lt).trans h.c2, (hb.cell (p := ⟨b, o + 3, none⟩) h.lt).trans h.c3⟩
/-- A list of versions that came in. -/
structure CVersOf (w : World) (a : Option Addr) (cap : Nat) (xs : List Ver) : Prop where
  room : xs.length ≤ cap
  cells : xs = [] ∨ ∃ b off, a = some ⟨b, off, none⟩ ∧ ∀ i V, xs[i]? = some V → CVerAt w b (off + i * 4) V
  ins : ∀ V ∈ xs, VerIn V
theorem add_atV (b off j : Nat) : (⟨b, off, none⟩ : Addr).add j = ⟨b, off + j, none⟩ := by unfold Addr.add; split <;> simp_all
section
variable {H : Type} {enc : TypeId × Value → H} {w : World} {base : Nat} {held : Bool}
end
end Go.Proofs.YtpnjcflfnoamoaaGreat

namespace Go.Proofs.YtpnjcflfnoamoaaGreat
open Go.RowKit
set_option linter.unusedVariables false

theorem encC_len (V : Ver) : (encC V).length = 4 := rfl
theorem encC_one (V : Ver) : ∀ u ∈ encC V, u.oneCell' = true := by
  intro u hu
  unfold encC at hu
  simp at hu
  rcases hu with rfl | rfl | rfl | rfl <;> rfl
theorem encCs_one (L : List Ver) : ∀ u ∈ L.flatMap encC, u.oneCell' = true := flat_one (fun V _ => encC_one V)
theorem encCs_len (L : List Ver) : (L.flatMap encC).length = L.length * 4 := by
  induction L with
  | nil => rfl
  | cons V L ih => rw [List.flatMap_cons, List.length_append, ih, encC_len, List.length_cons]; omega
theorem encCs_take (L : List Ver) (k : Nat) : (L.flatMap encC).take (k * 4) = (L.take k).flatMap encC := flat_take L k (fun V _ => encC_len V)
theorem encCs_drop (L : List Ver) (k : Nat) : (L.flatMap encC).drop (k * 4) = (L.drop k).flatMap encC := flat_drop L k (fun V _ => encC_len V)
theorem cverEl : ElT 72 75 4 40 := ElT.mk' (z := cvv ⟨zeroK, 0, 0, [], false⟩) Tryz.underlying72 (by kernel_rfl) (by kernel_rfl) (by decide) (by decide)
set_option maxRecDepth 100000 in
theorem cver_zero : ∀ i z, Tryz.prog.info? 75 = some i → i.zero = some z → ∀ u ∈ z.cells, u.oneCell' = true := by
  intro i z hi hz u hu
  have h : (Tryz.prog.info? 75).map (fun i => i.zero) = some (some (cvv ⟨zeroK, 0, 0, [], false⟩)) := by kernel_rfl
  rw [hi] at h
  simp at h
  rw [hz] at h
  injection h with h
  subst h
  exact encC_one ⟨zeroK, 0, 0, [], false⟩ u (by simpa [Value.cells, encC] using hu)
/-- A list of versions in a block of its own. -/
abbrev CRow (u : World) (v : Value) (L : List Ver) : Prop := u.ownsRow 0 75 4 v L.length (L.flatMap encC)
theorem CRow.ver {u : World} {a : Option Addr} {c : Nat} {L : List Ver} (h : CRow u (.slice a L.length c) L) {i : Nat} {V : Ver} (hV : L[i]? = some V) : ∃ g, a = some ⟨g, 0, none⟩ ∧ g < u.heap.size ∧ CVerAt u g (i * 4) V := by
  rcases h.2 with ⟨e1, e2⟩ | ⟨g, cap, cur, e1, hg, hh, e5, e6, e7, e8⟩
  · rw [List.eq_nil_of_length_eq_zero e2] at hV
    simp at hV
  · cases e1
    have hlt := (Array.getElem?_eq_some_iff.1 hh).1
    have hl : Lies u (some ⟨g, 0, none⟩) (L.flatMap encC) := own_lies h
    have he := hl.el (fun V _ => encC_len V) hV
    rw [Nat.zero_add] at he
    refine ⟨g, rfl, hlt, ⟨?_, ?_, ?_, ?_⟩⟩
    · exact he.at 0 _ rfl
    · exact he.at 1 _ rfl
    · exact he.at 2 _ rfl
    · exact he.at 3 _ rfl
/-- A chain in block p; its blocks are those of X. -/
structure ChD (u : World) (p : Nat) (L : List Ver) (X : Foot) : Prop where
  own : X p
  lt : ∀ k, X k → k < u.heap.size
  chn : Chn L
  list : ∃ a c, u.cell? ⟨p, 0, none⟩ = some (.slice a L.length c) ∧ CRow u (.slice a L.length c) L ∧ ∀ k, (Value.slice a L.length c).ownBlock = some k → X k ∧ k ≠ p
  free : u.frozen? ⟨p, 0, none⟩ = false
  ty : ∃ cs fz, u.heap[p]? = some (.cells cs 139 fz)
theorem crow_kept {u u' : World} {v : Value} {L : List Ver} (h : CRow u v L) (hk : ∀ k, v.ownBlock = some k → u'.heap[k]? = u.heap[k]?) : CRow u' v L := by
  refine ⟨h.1, ?_⟩
  rcases h.2 with h0 | ⟨g, cap, cur, e1, hg, hh, r⟩
  · exact .inl h0
  · exact .inr ⟨g, cap, cur, e1, hg, (hk g (by rw [e1]; rfl)).trans hh, r⟩
theorem ChD.kept {u u' : World} {p : Nat} {L : List Ver} {X : Foot} (h : ChD u p L X) (hs : u.heap.size ≤ u'.heap.size) (hk : ∀ k, X k → u'.heap[k]? = u.heap[k]?) : ChD u' p L X := by
  obtain ⟨a, c, h1, h2, h3⟩ := h.list
  exact ⟨h.own, fun k hk => Nat.lt_of_lt_of_le (h.lt k hk) hs, h.chn, ⟨a, c, (cell_kept (hk p h.own) 0).trans h1, crow_kept h2 (fun k e => hk k (h3 k e).1), h3⟩, (frozen_kept (hk p h.own) 0).trans h.free, by rw [hk p h.own]; exact h.ty⟩
theorem ChD.past {u u' : World} {p : Nat} {L : List Ver} {X : Foot} (h : ChD u p L X) (hb : Below u.heap.size u u') : ChD u' p L X := h.kept hb.size (fun k x => hb.block k (h.lt k x))
/-- The list's cell, and each version of it, in every world behind. -/
theorem ChD.open {u : World} {p : Nat} {L : List Ver} {X : Foot} (h : ChD u p L X) : ∃ a c, L.length ≤ c ∧ c ≤ maxLen ∧ (a = none → L = [] ∧ c = 0) ∧ (∀ v, Below u.heap.size u v → v.cell? ⟨p, 0, none⟩ = some (.slice a L.length c) ∧ CRow v (.slice a L.length c) L) ∧ (L = [] ∨ ∃ g, a = some ⟨g, 0, none⟩ ∧ g < u.heap.size ∧ ∀ v, Below u.heap.size u v → ∀ i V, L[i]? = some V → CVerAt v g (i * 4) V) := by
  obtain ⟨a, c, h1, h2, h3⟩ := h.list
  have hb : ∀ v, Below u.heap.size u v → v.cell? ⟨p, 0, none⟩ = some (.slice a L.length c) ∧ CRow v (.slice a L.length c) L := fun v hb =>
    ⟨(hb.cell (p := ⟨p, 0, none⟩) (h.lt p h.own)).trans h1, own_below h2 hb (Nat.le_refl _)⟩
  have hc : L.length ≤ c ∧ c ≤ maxLen ∧ (a = none → L = [] ∧ c = 0) ∧ (L = [] ∨ ∃ g, a = some ⟨g, 0, none⟩ ∧ g < u.heap.size) := by
    rcases h2.2 with ⟨e1, e2⟩ | ⟨g, cap, cur, e1, _, hh, e5, e6, _⟩
    · have hn := List.eq_nil_of_length_eq_zero e2
      subst hn
      cases e1
      exact ⟨Nat.le_refl _, Nat.zero_le _, fun _ => ⟨rfl, rfl⟩, .inl rfl⟩
    · cases e1
      exact ⟨e5, e6, fun h => (by cases h), .inr ⟨g, rfl, (Array.getElem?_eq_some_iff.1 hh).1⟩⟩
  refine ⟨a, c, hc.1, hc.2.1, hc.2.2.1, hb, ?_⟩
  rcases hc.2.2.2 with e | ⟨g, rfl, hg⟩
  · exact .inl e
  · refine .inr ⟨g, rfl, hg, fun v hv i V hV => ?_⟩
    obtain ⟨g', e, _, hat⟩ := (hb v hv).2.ver hV
    injection e with e
    injection e with e
    subst e
    exact hat
end Go.Proofs.YtpnjcflfnoamoaaGreat

