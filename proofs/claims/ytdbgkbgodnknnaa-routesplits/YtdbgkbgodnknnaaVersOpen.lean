/-
  Lists of versions of one key, and of calls on a chain, that came in: where their cells lie.
-/
import Derived.Test.YtdbgkbgodnknnaaStorePlain
import Derived.Test.YtdbgkbgodnknnaaNested
import Derived.ProofKit
import Derived.OpenShut
import Derived.ChangeSame
import Derived.Deep.Strs
import Derived.Deep.Slices
import Derived.Below
namespace Go.Proofs.Ytdbgkbgodnknnaa
open Go.RowKit Go.ChangeShapes Go.WideShapes Go.ChangeAt Go.Deep
set_option linter.unusedVariables false

theorem str_numsV (S : ByteArray) : ∃ ns : List Int, (∀ z ∈ ns, 0 ≤ z ∧ z ≤ 255) ∧ S = strOfNums ns := by
  refine ⟨S.data.toList.map fun b => (b.toNat : Int), fun z hz => ?_, ?_⟩
  · obtain ⟨b, _, rfl⟩ := List.mem_map.1 hz
    have := b.toNat_lt
    omega
  · apply ByteArray.ext
    apply Array.toList_inj.1
    have : (strOfNums (S.data.toList.map fun b => (b.toNat : Int))).data.toList = (S.data.toList.map fun b => (b.toNat : Int)).map fun n => UInt8.ofNat n.toNat := by rw [strOfNums_data]
    rw [this, List.map_map]
    have e : ((fun n : Int => UInt8.ofNat n.toNat) ∘ fun b : UInt8 => (b.toNat : Int)) = id := by
      funext b
      simp
    rw [e, List.map_id]
/-- A version that came in: of no key, its numbers in their bounds. -/
structure VerIn (V : Ver) : Prop where
  key : V.k = zeroK
  t : -9223372036854775808 ≤ V.t ∧ V.t ≤ 9223372036854775807
  n : 0 ≤ V.n ∧ V.n ≤ 255
  val : ∀ z ∈ V.v, 0 ≤ z ∧ z ≤ 255
  few : V.v.length ≤ maxLen
theorem VerIn.ok {V : Ver} (h : VerIn V) (hl : V.v.length ≤ 1000000) : VerOk V := ⟨by rw [h.key]; exact zeroK_ky, h.t.1, h.t.2, h.n.1, h.n.2, h.val, hl⟩
structure CVerAt (w : World) (b o : Nat) (V : Ver) : Prop where
  c0 : w.cell? ⟨b, o, none⟩ = some (.int .i64 V.t)
  c1 : w.cell? ⟨b, o + 1, none⟩ = some (.int .u8 V.n)
  c2 : w.cell? ⟨b, o + 2, none⟩ = some (.string (strOfNums V.v))
  c3 : w.cell? ⟨b, o + 3, none⟩ = some (.bool V.g)
theorem CVerAt.lt {w : World} {b o : Nat} {V : Ver} (h : CVerAt w b o V) : b < w.heap.size := lt_of_cell h.c0
theorem CVerAt.past {w w' : World} {b o : Nat} {V : Ver} (h : CVerAt w b o V) (hb : Below w.heap.size w w') : CVerAt w' b o V :=
  ⟨(hb.cell (p := ⟨b, o, none⟩) h.lt).trans h.c0, (hb.cell (p := ⟨b, o + 1, none⟩) h.lt).trans h.c1, (hb.cell (p := ⟨b, o + 2, none⟩) h.lt).trans h.c2, (hb.cell (p := ⟨b, o + 3, none⟩) h.lt).trans h.c3⟩
theorem add_atV (b off j : Nat) : (⟨b, off, none⟩ : Addr).add j = ⟨b, off + j, none⟩ := by unfold Addr.add; split <;> simp_all
section
variable {H : Type} {enc : TypeId × Value → H} {w : World} {base : Nat} {held : Bool}
end
end Go.Proofs.Ytdbgkbgodnknnaa
