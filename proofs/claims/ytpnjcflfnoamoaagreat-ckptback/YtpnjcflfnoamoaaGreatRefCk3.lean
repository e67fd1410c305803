/-
  A store of bytes, read piece by piece: what is left to read decides.
-/
import Derived.Test.YtpnjcflfnoamoaaGreatAu32
import Derived.Test.YtpnjcflfnoamoaaGreatRd
namespace Go.Proofs.YtpnjcflfnoamoaaGreat
open Go.RowKit
set_option linter.unusedVariables false
set_option linter.unusedSimpArgs false

def finS (M : List Ver) (x : Option (List Ver × List Int)) : Option (List Ver) := match x with
  | some (L, []) => some (M ++ L)
  | _ => none
def resK (M : List Ver) (n : Nat) (p : Option (List Int)) (o : Option (List Int)) : Option (List Ver) := finS M (o.bind (keysP n p))
def goV (M : List Ver) (k : List Int) (n : Nat) (x : Option (List Ver × List Int)) : Option (List Ver) := match x with
  | none => none
  | some y => resK (M ++ y.1) n (some k) (some y.2)
def resV (M : List Ver) (k : List Int) (m : Nat) (pv : Option (Int × Int)) (n : Nat) (o : Option (List Int)) : Option (List Ver) := goV M k n (o.bind (versP k m pv))
theorem finS_app (M l : List Ver) (x : Option (List Ver × List Int)) : finS M (x.map (fun y => (l ++ y.1, y.2))) = finS (M ++ l) x := by
  cases x with
  | none => rfl
  | some y =>
    obtain ⟨L, r⟩ := y
    cases r with
    | nil => show some (M ++ (l ++ L)) = some (M ++ l ++ L); rw [List.append_assoc]
    | cons c r => rfl
theorem resS_start {zs : List Int} {o : Option (List Int)} {n : Int} (h : Rds (countP 200) (some zs) o n) : getS zs = resK [] n.toNat none o := by
  unfold getS storeP
  rcases h.cases with ⟨e, rfl⟩ | ⟨r, e, rfl⟩
  · rw [seq_none e]; rfl
  · rw [seq_some e]
    unfold resK
    rw [Option.bind_some]
    cases keysP n.toNat none r with
    | none => rfl
    | some y =>
      obtain ⟨L, s⟩ := y
      cases s <;> rfl
theorem resK_next {M : List Ver} {n : Nat} {p : Option (List Int)} {o o1 o2 : Option (List Int)} {k : List Int} {m : Int} (D1 : Rds (bytesP 16) o o1 k) (D2 : Rds (countP 50) o1 o2 m) (hm : mayKey p k m = true) : resK M (n + 1) p o = resV M k m.toNat none n o2 := by
  cases o with
  | none =>
    cases (show o1 = none from D1)
    cases (show o2 = none from D2)
    rfl
  | some zs =>
    rcases D1.cases with ⟨e, rfl⟩ | ⟨r, e, rfl⟩
    · cases (show o2 = none from D2)
      show finS M (seqP (bytesP 16) _ zs) = none
      rw [seq_none e]; rfl
    · rcases D2.cases with ⟨e2, rfl⟩ | ⟨r2, e2, rfl⟩
      · show finS M (seqP (bytesP 16) _ zs) = none
        rw [seq_some e, seq_none e2]; rfl
      · show finS M (seqP (bytesP 16) _ zs) = _
        rw [seq_some e, seq_some e2, if_pos hm]
        unfold resV
        rw [Option.bind_some]
        cases e3 : versP k m.toNat none r2 with
        | none => rw [seq_none e3]; rfl
        | some y =>
          obtain ⟨l, r3⟩ := y
          rw [seq_some e3]
          show _ = finS (M ++ l) (keysP n (some k) r3)
          rw [← finS_app]
          congr 1
          cases e4 : keysP n (some k) r3 with
          | none => rw [seq_none e4]; rfl
          | some x =>
            obtain ⟨L, r4⟩ := x
            rw [seq_some e4]
            rfl
theorem resK_bad {M : List Ver} {n : Nat} {p : Option (List Int)} {o o1 o2 : Option (List Int)} {k : List Int} {m : Int} (D1 : Rds (bytesP 16) o o1 k) (D2 : Rds (countP 50) o1 o2 m) (hm : mayKey p k m = false) : resK M (n + 1) p o = none := by
  cases o with
  | none => rfl
  | some zs =>
    show finS M (seqP (bytesP 16) _ zs) = none
    rcases D1.cases with ⟨e, rfl⟩ | ⟨r, e, rfl⟩
    · rw [seq_none e]; rfl
    · rw [seq_some e]
      rcases D2.cases with ⟨e2, rfl⟩ | ⟨r2, e2, rfl⟩
      · rw [seq_none e2]; rfl
      · rw [seq_some e2, if_neg (by rw [hm]; decide)]; rfl
/-- A version that may be read, or none. -/
def mayVer (pv : Option (Int × Int)) (V : Ver) : Bool := mayV V && aboveV pv V.t V.n
theorem resV_next {M : List Ver} {k : List Int} {m n : Nat} {pv : Option (Int × Int)} {o o3 : Option (List Int)} {V : Ver} (D : Rds (verP k pv) o o3 V) : resV M k (m + 1) pv n o = resV (M ++ [V]) k m (some (V.t, V.n)) n o3 := by
  cases o with
  | none =>
    cases (show o3 = none from D)
    rfl
  | some zs =>
    rcases D.cases with ⟨e, rfl⟩ | ⟨r, e, rfl⟩
    · show goV M k n (seqP (verP k pv) _ zs) = none
      rw [seq_none e]
      rfl
    · show goV M k n (seqP (verP k pv) _ zs) = goV (M ++ [V]) k n (versP k m (some (V.t, V.n)) r)
      rw [seq_some e]
      cases e2 : versP k m (some (V.t, V.n)) r with
      | none => rw [seq_none e2]; rfl
      | some x =>
        obtain ⟨l, r2⟩ := x
        rw [seq_some e2]
        show resK (M ++ (V :: l)) n (some k) (some r2) = resK (M ++ [V] ++ l) n (some k) (some r2)
        rw [List.append_assoc]
        rfl
theorem resV_bad {M : List Ver} {k : List Int} {m n : Nat} {pv : Option (Int × Int)} {o : Option (List Int)} {V : Ver} (D : Rds (verP k pv) o none V) : resV M k (m + 1) pv n o = none := resV_next (m := m) D
theorem resV_end (M : List Ver) (k : List Int) (pv : Option (Int × Int)) (n : Nat) (o : Option (List Int)) : resV M k 0 pv n o = resK M n (some k) o := by
  cases o with
  | none => rfl
  | some r =>
    show resK (M ++ []) n (some k) (some r) = _
    rw [List.append_nil]
theorem resK_end (M : List Ver) (p : Option (List Int)) (o : Option (List Int)) : (o = some [] → resK M 0 p o = some M) ∧ (o ≠ some [] → resK M 0 p o = none) := by
  refine ⟨fun e => ?_, fun e => ?_⟩
  · rw [e]
    show some (M ++ []) = some M
    rw [List.append_nil]
  · cases o with
    | none => rfl
    | some r =>
      cases r with
      | nil => exact absurd rfl e
      | cons c r => rfl
end Go.Proofs.YtpnjcflfnoamoaaGreat
