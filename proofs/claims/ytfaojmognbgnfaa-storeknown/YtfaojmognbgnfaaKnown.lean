/-
  StoreKnown: what chapter 12 says of refusals, of scans is answered so.
-/
import Derived.Test.YtfaojmognbgnfaaRows
import Derived.Test.YtfaojmognbgnfaaStoL8
import Derived.WalkKit
import Derived.ProofKit
import Derived.OpenShut
import Derived.ShutString
import Derived.ChangeOld
import Derived.Below
import Derived.Carry
namespace Go.Proofs.Ytfaojmognbgnfaa.storeKnown
open Go.ChangeShapes Go.WideShapes Go.ChangeAt Go.RowKit
open Go.ChangeMaps (open_string shut_string)
set_option linter.unusedVariables false

theorem own : ownKnob Try.prog.godebug = none := by kernel_rfl
theorem laidOut : laidOutB Try.prog = true := by kernel_rfl
/-- A slice of integers that came in: nil, or a row of 'cap' cells, of which the first 'len' are its elements. -/
def IsRow (k : IntKind) (w : World) (a : Option Addr) (len cap : Nat) (zs : List Int) : Prop :=
  (a = none ∧ len = 0 ∧ cap = 0 ∧ zs = []) ∨
  ∃ x, a = some x ∧ len ≤ cap ∧ cap ≤ maxLen ∧ zs.length = cap ∧ (∀ i, i < zs.length → w.cell? (x.add i) = some (.int k (zs.getD i 0))) ∧ ∀ n ∈ zs, (Lit.int k n).wf = true

set_option maxRecDepth 20000 in
set_option maxHeartbeats 16000000 in
theorem walk  (w : World)  :
    Calls Try.prog 3 #[] w fun e w' => e = .returned (.bool true) ∧ Below w.heap.size w w' := by
  obtain ⟨KA, hKA⟩ : ∃ K, K = keyA := ⟨_, rfl⟩
  have YKA : Hid (Ky KA) := by rw [hKA]; exact keyA_ky
  have CKA : Hid (∀ u, Calls Try.prog 12 #[.string ⟨#[97]⟩] u fun e w' => e = .returned (kv KA) ∧ Below u.heap.size u w') := fun u => lk_any [97] (by decide) (by decide) _ rfl KA (by rw [hKA]; rfl) u
  obtain ⟨KB, hKB⟩ : ∃ K, K = keyB := ⟨_, rfl⟩
  have YKB : Hid (Ky KB) := by rw [hKB]; exact keyB_ky
  have CKB : Hid (∀ u, Calls Try.prog 12 #[.string ⟨#[98]⟩] u fun e w' => e = .returned (kv KB) ∧ Below u.heap.size u w') := fun u => lk_any [98] (by decide) (by decide) _ rfl KB (by rw [hKB]; rfl) u
  obtain ⟨KC, hKC⟩ : ∃ K, K = keyC := ⟨_, rfl⟩
  have YKC : Hid (Ky KC) := by rw [hKC]; exact keyC_ky
  have CKC : Hid (∀ u, Calls Try.prog 12 #[.string ⟨#[99]⟩] u fun e w' => e = .returned (kv KC) ∧ Below u.heap.size u w') := fun u => lk_any [99] (by decide) (by decide) _ rfl KC (by rw [hKC]; rfl) u
  obtain ⟨KZ, hKZ⟩ : ∃ K, K = keyZ := ⟨_, rfl⟩
  have YKZ : Hid (Ky KZ) := by rw [hKZ]; exact keyZ_ky
  have CKZ : Hid (∀ u, Calls Try.prog 12 #[.string ⟨#[122]⟩] u fun e w' => e = .returned (kv KZ) ∧ Below u.heap.size u w') := fun u => lk_any [122] (by decide) (by decide) _ rfl KZ (by rw [hKZ]; rfl) u
  have AW : Hid (∀ u, Calls Try.prog 8 #[] u fun e w' => e = .returned (.bool true) ∧ Below u.heap.size u w') := fun u => lawake_any u
  have CN : Hid (∀ u, Below w.heap.size w u → Calls Try.prog 9 #[] u fun e w' => ∃ p, e = .returned (.pointer (some ⟨p, 0, none⟩)) ∧ StX w w' p []) := fun u hb => (xnew_any u).mono fun e w' ⟨p, h1, h2⟩ => ⟨p, h1, h2.to hb⟩
  have CA : Hid (∀ u t, Calls Try.prog 11 #[.int .i64 t] u fun e w' => e = .returned (.agg #[.int .i64 t, .int .u8 0]) ∧ Below u.heap.size u w') := fun u t => latt_any t u
  obtain ⟨L1, hL1⟩ : ∃ L, L = known1 := ⟨_, rfl⟩
  obtain ⟨L2, hL2⟩ : ∃ L, L = known2 := ⟨_, rfl⟩
  obtain ⟨L3, hL3⟩ : ∃ L, L = known3 := ⟨_, rfl⟩
  have CP0 : Hid (∀ u p, StX w u p [] → Calls Try.prog 10 #[.pointer (some ⟨p, 0, none⟩), .agg #[.int .i64 1, .int .u8 0], .slice none 0 0] u fun e w' => e = .returned (.int .i64 1) ∧ StX w w' p []) := fun u p h => by
    have h9 := xnil_any h 1 0 (by omega)
    rw [known_a] at h9
    exact h9
  have CPb : Hid (∀ u p, StX w u p [] → Calls Try.prog 10 #[.pointer (some ⟨p, 0, none⟩), .agg #[.int .i64 1, .int .u8 0], .slice (some ⟨u.heap.size, 0, none⟩) 2 2] (u.alloc (.cells (encW (⟨KA, [], false⟩ : Wrt) ++ encW (⟨KA, [], false⟩ : Wrt)).toArray 34)) fun e w' => e = .returned (.int .i64 1) ∧ StX w w' p []) := fun u p h => by
    have hat : WrtsAt (u.alloc (.cells (encW (⟨KA, [], false⟩ : Wrt) ++ encW (⟨KA, [], false⟩ : Wrt)).toArray 34)) (some ⟨u.heap.size, 0, none⟩) [(⟨KA, [], false⟩ : Wrt), (⟨KA, [], false⟩ : Wrt)] := by
      have h8 := wrts_made u [(⟨KA, [], false⟩ : Wrt), (⟨KA, [], false⟩ : Wrt)] (fun V hV => by
        simp only [List.mem_cons, List.not_mem_nil, or_false] at hV
        rcases hV with rfl | rfl
        · exact ⟨YKA.out, (by show ∀ z ∈ ([] : List Int), 0 ≤ z ∧ z ≤ 255; decide), (by show ([] : List Int).length ≤ maxLen; unfold maxLen; decide)⟩
        · exact ⟨YKA.out, (by show ∀ z ∈ ([] : List Int), 0 ≤ z ∧ z ≤ 255; decide), (by show ([] : List Int).length ≤ maxLen; unfold maxLen; decide)⟩)
      simpa using h8
    have h9 := xapply_new h ((Below.refl _ _).alloc (Nat.le_refl _) _) (1) 0 (by omega) u.heap.size (Nat.le_refl _) 2 2 [(⟨KA, [], false⟩ : Wrt), (⟨KA, [], false⟩ : Wrt)] rfl (Nat.le_refl _) (by omega) hat
    rw [show applyV [] (1) 0 [(⟨KA, [], false⟩ : Wrt), (⟨KA, [], false⟩ : Wrt)] = (1, []) by rw [hKA]; exact known_b] at h9
    exact h9
  have CPc : Hid (∀ u p, StX w u p [] → Calls Try.prog 10 #[.pointer (some ⟨p, 0, none⟩), .agg #[.int .i64 (-1), .int .u8 0], .slice (some ⟨u.heap.size, 0, none⟩) 1 1] (u.alloc (.cells (encW (⟨KA, [], false⟩ : Wrt)).toArray 34)) fun e w' => e = .returned (.int .i64 1) ∧ StX w w' p []) := fun u p h => by
    have hat : WrtsAt (u.alloc (.cells (encW (⟨KA, [], false⟩ : Wrt)).toArray 34)) (some ⟨u.heap.size, 0, none⟩) [(⟨KA, [], false⟩ : Wrt)] := by
      have h8 := wrts_made u [(⟨KA, [], false⟩ : Wrt)] (fun V hV => by
        simp only [List.mem_cons, List.not_mem_nil, or_false] at hV
        rcases hV with rfl
        · exact ⟨YKA.out, (by show ∀ z ∈ ([] : List Int), 0 ≤ z ∧ z ≤ 255; decide), (by show ([] : List Int).length ≤ maxLen; unfold maxLen; decide)⟩)
      simpa using h8
    have h9 := xapply_new h ((Below.refl _ _).alloc (Nat.le_refl _) _) ((-1)) 0 (by omega) u.heap.size (Nat.le_refl _) 1 1 [(⟨KA, [], false⟩ : Wrt)] rfl (Nat.le_refl _) (by omega) hat
    rw [show applyV [] ((-1)) 0 [(⟨KA, [], false⟩ : Wrt)] = (1, []) by rw [hKA]; exact known_c] at h9
    exact h9
  have CP1 : Hid (∀ u p, StX w u p [] → Calls Try.prog 10 #[.pointer (some ⟨p, 0, none⟩), .agg #[.int .i64 1, .int .u8 0], .slice (some ⟨u.heap.size, 0, none⟩) 3 3] (u.alloc (.cells (encW (⟨KB, [49], false⟩ : Wrt) ++ (encW (⟨KA, [50], false⟩ : Wrt) ++ encW (⟨KC, [51], false⟩ : Wrt))).toArray 34)) fun e w' => e = .returned (.int .i64 0) ∧ StX w w' p L1) := fun u p h => by
    have hat : WrtsAt (u.alloc (.cells (encW (⟨KB, [49], false⟩ : Wrt) ++ (encW (⟨KA, [50], false⟩ : Wrt) ++ encW (⟨KC, [51], false⟩ : Wrt))).toArray 34)) (some ⟨u.heap.size, 0, none⟩) [(⟨KB, [49], false⟩ : Wrt), (⟨KA, [50], false⟩ : Wrt), (⟨KC, [51], false⟩ : Wrt)] := by
      have h8 := wrts_made u [(⟨KB, [49], false⟩ : Wrt), (⟨KA, [50], false⟩ : Wrt), (⟨KC, [51], false⟩ : Wrt)] (fun V hV => by
        simp only [List.mem_cons, List.not_mem_nil, or_false] at hV
        rcases hV with rfl | rfl | rfl
        · exact ⟨YKB.out, (by show ∀ z ∈ ([49] : List Int), 0 ≤ z ∧ z ≤ 255; decide), (by show ([49] : List Int).length ≤ maxLen; unfold maxLen; decide)⟩
        · exact ⟨YKA.out, (by show ∀ z ∈ ([50] : List Int), 0 ≤ z ∧ z ≤ 255; decide), (by show ([50] : List Int).length ≤ maxLen; unfold maxLen; decide)⟩
        · exact ⟨YKC.out, (by show ∀ z ∈ ([51] : List Int), 0 ≤ z ∧ z ≤ 255; decide), (by show ([51] : List Int).length ≤ maxLen; unfold maxLen; decide)⟩)
      simpa using h8
    have h9 := xapply_new h ((Below.refl _ _).alloc (Nat.le_refl _) _) (1) 0 (by omega) u.heap.size (Nat.le_refl _) 3 3 [(⟨KB, [49], false⟩ : Wrt), (⟨KA, [50], false⟩ : Wrt), (⟨KC, [51], false⟩ : Wrt)] rfl (Nat.le_refl _) (by omega) hat
    rw [show applyV [] (1) 0 [(⟨KB, [49], false⟩ : Wrt), (⟨KA, [50], false⟩ : Wrt), (⟨KC, [51], false⟩ : Wrt)] = (0, L1) by rw [hKA, hKB, hKC, hL1]; exact known_1] at h9
    exact h9
  have CPd : Hid (∀ u p, StX w u p L1 → Calls Try.prog 10 #[.pointer (some ⟨p, 0, none⟩), .agg #[.int .i64 1, .int .u8 0], .slice (some ⟨u.heap.size, 0, none⟩) 2 2] (u.alloc (.cells (encW (⟨KZ, [], false⟩ : Wrt) ++ encW (⟨KA, [], false⟩ : Wrt)).toArray 34)) fun e w' => e = .returned (.int .i64 5) ∧ StX w w' p L1) := fun u p h => by
    have hat : WrtsAt (u.alloc (.cells (encW (⟨KZ, [], false⟩ : Wrt) ++ encW (⟨KA, [], false⟩ : Wrt)).toArray 34)) (some ⟨u.heap.size, 0, none⟩) [(⟨KZ, [], false⟩ : Wrt), (⟨KA, [], false⟩ : Wrt)] := by
      have h8 := wrts_made u [(⟨KZ, [], false⟩ : Wrt), (⟨KA, [], false⟩ : Wrt)] (fun V hV => by
        simp only [List.mem_cons, List.not_mem_nil, or_false] at hV
        rcases hV with rfl | rfl
        · exact ⟨YKZ.out, (by show ∀ z ∈ ([] : List Int), 0 ≤ z ∧ z ≤ 255; decide), (by show ([] : List Int).length ≤ maxLen; unfold maxLen; decide)⟩
        · exact ⟨YKA.out, (by show ∀ z ∈ ([] : List Int), 0 ≤ z ∧ z ≤ 255; decide), (by show ([] : List Int).length ≤ maxLen; unfold maxLen; decide)⟩)
      simpa using h8
    have h9 := xapply_new h ((Below.refl _ _).alloc (Nat.le_refl _) _) (1) 0 (by omega) u.heap.size (Nat.le_refl _) 2 2 [(⟨KZ, [], false⟩ : Wrt), (⟨KA, [], false⟩ : Wrt)] rfl (Nat.le_refl _) (by omega) hat
    rw [show applyV L1 (1) 0 [(⟨KZ, [], false⟩ : Wrt), (⟨KA, [], false⟩ : Wrt)] = (5, L1) by rw [hKA, hKZ, hL1]; exact known_d] at h9
    exact h9
  have CP2 : Hid (∀ u p, StX w u p L1 → Calls Try.prog 10 #[.pointer (some ⟨p, 0, none⟩), .agg #[.int .i64 3, .int .u8 0], .slice (some ⟨u.heap.size, 0, none⟩) 1 1] (u.alloc (.cells (encW (⟨KB, [], true⟩ : Wrt)).toArray 34)) fun e w' => e = .returned (.int .i64 0) ∧ StX w w' p L2) := fun u p h => by
    have hat : WrtsAt (u.alloc (.cells (encW (⟨KB, [], true⟩ : Wrt)).toArray 34)) (some ⟨u.heap.size, 0, none⟩) [(⟨KB, [], true⟩ : Wrt)] := by
      have h8 := wrts_made u [(⟨KB, [], true⟩ : Wrt)] (fun V hV => by
        simp only [List.mem_cons, List.not_mem_nil, or_false] at hV
        rcases hV with rfl
        · exact ⟨YKB.out, (by show ∀ z ∈ ([] : List Int), 0 ≤ z ∧ z ≤ 255; decide), (by show ([] : List Int).length ≤ maxLen; unfold maxLen; decide)⟩)
      simpa using h8
    have h9 := xapply_new h ((Below.refl _ _).alloc (Nat.le_refl _) _) (3) 0 (by omega) u.heap.size (Nat.le_refl _) 1 1 [(⟨KB, [], true⟩ : Wrt)] rfl (Nat.le_refl _) (by omega) hat
    rw [show applyV L1 (3) 0 [(⟨KB, [], true⟩ : Wrt)] = (0, L2) by rw [hKB, hL1, hL2]; exact known_2] at h9
    exact h9
  obtain ⟨R1, hR1⟩ : ∃ R : List Itm, R = [(keyA, [50]), (keyB, [49])] := ⟨_, rfl⟩
  obtain ⟨R2, hR2⟩ : ∃ R : List Itm, R = [(keyA, [50])] := ⟨_, rfl⟩
  have CX : Hid (∀ u p, StX w u p L2 → Calls Try.prog 13 #[.pointer (some ⟨p, 0, none⟩), kv KA, kv zeroK, .agg #[.int .i64 2, .int .u8 0], .int .i64 2] u fun e w' => ∃ g c', e = .returned (.slice (some ⟨g, 0, none⟩) 2 c') ∧ ItmsAt w' (some ⟨g, 0, none⟩) R1 ∧ 2 ≤ c' ∧ Kn w w' p L2 (fun k => noFoot k ∨ k = g) ∧ Below u.heap.size u w') := fun u p h => h.kn.scan KA zeroK YKA.out zeroK_ky 2 0 2 (by omega) R1 (by rw [hR1, hL2, hKA]; exact known_x) 2 (by rw [hR1]; rfl) (by omega)
  have CY : Hid (∀ u p g, Kn w u p L2 (fun k => noFoot k ∨ k = g) → Calls Try.prog 13 #[.pointer (some ⟨p, 0, none⟩), kv KA, kv KC, .agg #[.int .i64 3, .int .u8 0], .int .i64 9] u fun e w' => ∃ g' c', e = .returned (.slice (some ⟨g', 0, none⟩) 1 c') ∧ ItmsAt w' (some ⟨g', 0, none⟩) R2 ∧ 1 ≤ c' ∧ Kn w w' p L2 (fun k => (noFoot k ∨ k = g) ∨ k = g') ∧ Below u.heap.size u w') := fun u p g h => h.scan KA KC YKA.out YKC.out 3 0 9 (by omega) R2 (by rw [hR2, hL2, hKA, hKC]; exact known_y) 1 (by rw [hR2]; rfl) (by omega)
  have CNE : Hid (∀ u p, StX w u p L2 → Calls Try.prog 14 #[.pointer (some ⟨p, 0, none⟩), kv KB] u fun e w' => e = .returned (.tuple #[.agg #[.int .i64 3, .int .u8 0], .bool true]) ∧ Below u.heap.size u w') := fun u p h => by
    obtain ⟨X, hX, _⟩ := h
    have h9 := snewest_any p L2 X KB YKB.out u hX
    rw [show newestV L2 KB = some ⟨keyB, 3, 0, [], true⟩ by rw [hL2, hKB]; exact known_n] at h9
    exact h9
  have CT : Hid (∀ u p g g' nb, KnS w u p L2 g g' nb R1 R2 3 0 → Calls Try.prog 15 #[.pointer (some ⟨p, 0, none⟩), .agg #[.int .i64 3, .int .u8 0]] u fun e w' => e = .returned (.int .i64 2) ∧ KnS w w' p L3 g g' nb R1 R2 3 0) := fun u p g g' nb h => by
    have h9 := h.trim 3 0
    rw [show restV L2 3 0 = L3 by rw [hL2, hL3]; exact known_t, show ((L2.length : Int) - (L3.length : Int)) = 2 by rw [hL2, hL3]; rfl] at h9
    exact h9
  have CNG : Hid (∀ u p, StX w u p L3 → Calls Try.prog 14 #[.pointer (some ⟨p, 0, none⟩), kv KB] u fun e w' => e = .returned (.tuple #[.agg #[.int .i64 0, .int .u8 0], .bool false]) ∧ Below u.heap.size u w') := fun u p h => by
    obtain ⟨X, hX, _⟩ := h
    have h9 := snewest_any p L3 X KB YKB.out u hX
    rw [show newestV L3 KB = none by rw [hL3, hKB]; exact known_g] at h9
    exact h9
  have CKS : Hid (∀ u p, StX w u p L3 → Calls Try.prog 17 #[.pointer (some ⟨p, 0, none⟩)] u fun e w' => (∃ a' c', e = .returned (.slice a' 2 c') ∧ KeysAt w' a' [KA, KC] ∧ 2 ≤ c') ∧ Below u.heap.size u w') := fun u p h => by
    obtain ⟨X, hX, _⟩ := h
    have h9 := skeys_any p L3 X u hX
    rw [show keysV L3 = [KA, KC] by rw [hL3, hKA, hKC]; exact known_k] at h9
    exact h9
  have CKK : Hid (∀ u a c a' c', KeysAt u a [KA, KC] → KeysAt u a' [KA, KC] → 2 ≤ c → 2 ≤ c' → Calls Try.prog 16 #[.slice a 2 c, .slice a' 2 c'] u fun e w' => e = .returned (.bool true) ∧ Below u.heap.size u w') := fun u a c a' c' h1 h2 h3 h4 => by
    have h9 := lkeys_any a a' 2 2 c c' [KA, KC] [KA, KC] u rfl rfl h3 h4 (by omega) (by omega) h1 h2
    rw [show decide ([KA, KC] = [KA, KC]) = true from by simp] at h9
    exact h9
  have CE : Hid (∀ u p, StX w u p L3 → Calls Try.prog 13 #[.pointer (some ⟨p, 0, none⟩), kv KA, kv zeroK, .agg #[.int .i64 9, .int .u8 0], .int .i64 (-1)] u fun e w' => ∃ a' c', e = .returned (.slice a' 0 c') ∧ Below u.heap.size u w') := fun u p h => by
    obtain ⟨X, hX, _⟩ := h
    have h9 := sscan_any p L3 X KA zeroK YKA.out zeroK_ky 9 0 (-1) (by omega) u hX
    rw [show (scanV L3 KA zeroK 9 0).take (-1 : Int).toNat = [] by rw [hL3, hKA]; exact known_e] at h9
    exact h9.mono fun e w' ⟨⟨a', c', h1, _, _⟩, h2⟩ => ⟨a', c', h1, h2⟩
  have HX : Hid (∀ u g, ItmsAt u (some ⟨g, 0, none⟩) R1 → KeyAt u g 0 KA ∧ u.cell? ⟨g, 33, none⟩ = some (.string ⟨#[49]⟩)) := fun u g h => by
    rw [hR1] at h
    obtain ⟨b, o, e1, h1, h2⟩ := h.itm (i := 0) rfl
    obtain ⟨b2, o2, e2, h3, h4⟩ := h.itm (i := 1) rfl
    cases e1
    cases e2
    refine ⟨by rw [hKA]; exact h1.key h2.key, ?_⟩
    have h5 := h3.cell h4.key
    exact h5
  have HY : Hid (∀ u g, ItmsAt u (some ⟨g, 0, none⟩) R2 → u.cell? ⟨g, 16, none⟩ = some (.string ⟨#[50]⟩)) := fun u g h => by
    rw [hR2] at h
    obtain ⟨b, o, e1, h1, h2⟩ := h.itm (i := 0) rfl
    cases e1
    exact h1.cell h2.key
  have hqk : ∀ u, (Op.equalIn 10000 31 (kv KA) (kv KA)).run Try.prog u = .ok true u := fun u => by rw [eq_key u KA KA YKA.out YKA.out]; simp
  have HS49 : Hid ((Value.string ⟨#[49]⟩) = .string (strOfNums [49])) := rfl
  have HS50 : Hid ((Value.string ⟨#[50]⟩) = .string (strOfNums [50])) := rfl
  have HS51 : Hid ((Value.string ⟨#[51]⟩) = .string (strOfNums [51])) := rfl
  clear hKA hKB hKC hKZ hL1 hL2 hL3 hR1 hR2
  go_enter Try.func3, Try.ntmps3
  go_wp2_with (first | (go_at_call 8; refine (AW.out _).mono ?_; rintro e u0 ⟨rfl, hb0⟩; have B0 : Hid (Below w.heap.size w u0) := hb0; clear hb0 AW) | (have hgo := B0.out; clear hgo; go_at_call 9; refine (CN.out _ B0.out).mono ?_; rintro e u1 ⟨p, rfl, h1⟩; have H1 : Hid (StX w u1 p []) := h1; clear h1 B0 CN) | (have hgo := H1.out; clear hgo; go_at_call 11; refine (CA.out _ _).mono ?_; rintro e u2 ⟨rfl, hb2⟩; have H2 : Hid (StX w u2 p []) := H1.out.past hb2; clear hb2 H1) | (have hgo := H2.out; clear hgo; go_at_call 10; refine (CP0.out _ _ H2.out).mono ?_; rintro e u3 ⟨rfl, h1003⟩; have H3 : Hid (StX w u3 p []) := h1003; clear h1003 H2) | (have hgo := H3.out; clear hgo; go_at_call 11; refine (CA.out _ _).mono ?_; rintro e u4 ⟨rfl, hb4⟩; have H4 : Hid (StX w u4 p []) := H3.out.past hb4; clear hb4 H3) | (have hgo := H4.out; clear hgo; go_at_call 12; refine (CKA.out _).mono ?_; rintro e u5 ⟨rfl, hb5⟩; have H5 : Hid (StX w u5 p []) := H4.out.past hb5; clear hb5 H4) | ((with_reducible show wpList _ _ _ (Oper.mk (some 22) _ _ _ _ _ :: _) _ _); refine wpList_build_w1 22 (by rfl) (by rfl) (.tmp 21) (by rfl) KA YKA.out (by rfl) ?_) | (have hgo := H5.out; clear hgo; go_at_call 12; refine (CKA.out _).mono ?_; rintro e u6 ⟨rfl, hb6⟩; have H6 : Hid (StX w u6 p []) := H5.out.past hb6; clear hb6 H5) | ((with_reducible show wpList _ _ _ (Oper.mk (some 24) _ _ _ _ _ :: _) _ _); refine wpList_build_w1 24 (by rfl) (by rfl) (.tmp 23) (by rfl) KA YKA.out (by rfl) ?_) | ((with_reducible show wpList _ _ _ (Oper.mk (some 25) _ _ _ _ _ :: _) _ _); refine wpList_build_ws2 25 (by rfl) (by rfl) (.tmp 22) (.tmp 24) (by rfl) ⟨KA, [], false⟩ ⟨KA, [], false⟩ YKA.out YKA.out (by rfl) (by rfl) ?_) | (have hgo := H6.out; clear hgo; go_at_call 10; refine (CPb.out _ _ H6.out).mono ?_; rintro e u7 ⟨rfl, h1007⟩; have H7 : Hid (StX w u7 p []) := h1007; clear h1007 H6) | (have hgo := H7.out; clear hgo; go_at_call 11; refine (CA.out _ _).mono ?_; rintro e u8 ⟨rfl, hb8⟩; have H8 : Hid (StX w u8 p []) := H7.out.past hb8; clear hb8 H7) | (have hgo := H8.out; clear hgo; go_at_call 12; refine (CKA.out _).mono ?_; rintro e u9 ⟨rfl, hb9⟩; have H9 : Hid (StX w u9 p []) := H8.out.past hb9; clear hb9 H8) | ((with_reducible show wpList _ _ _ (Oper.mk (some 30) _ _ _ _ _ :: _) _ _); refine wpList_build_w1 30 (by rfl) (by rfl) (.tmp 29) (by rfl) KA YKA.out (by rfl) ?_) | ((with_reducible show wpList _ _ _ (Oper.mk (some 31) _ _ _ _ _ :: _) _ _); refine wpList_build_ws1 31 (by rfl) (by rfl) (.tmp 30) (by rfl) ⟨KA, [], false⟩ YKA.out (by rfl) ?_) | (have hgo := H9.out; clear hgo; go_at_call 10; refine (CPc.out _ _ H9.out).mono ?_; rintro e u10 ⟨rfl, h1010⟩; have H10 : Hid (StX w u10 p []) := h1010; clear h1010 H9) | (have hgo := H10.out; clear hgo; go_at_call 11; refine (CA.out _ _).mono ?_; rintro e u11 ⟨rfl, hb11⟩; have H11 : Hid (StX w u11 p []) := H10.out.past hb11; clear hb11 H10) | (have hgo := H11.out; clear hgo; go_at_call 12; refine (CKB.out _).mono ?_; rintro e u12 ⟨rfl, hb12⟩; have H12 : Hid (StX w u12 p []) := H11.out.past hb12; clear hb12 H11) | ((with_reducible show wpList _ _ _ (Oper.mk (some 36) _ _ _ _ _ :: _) _ _); refine wpList_build_w2 36 (by rfl) (by rfl) (.tmp 35) (.const (.string ⟨#[49]⟩)) (by rfl) KB [49] YKB.out (by rfl) HS49.out ?_) | (have hgo := H12.out; clear hgo; go_at_call 12; refine (CKA.out _).mono ?_; rintro e u13 ⟨rfl, hb13⟩; have H13 : Hid (StX w u13 p []) := H12.out.past hb13; clear hb13 H12) | ((with_reducible show wpList _ _ _ (Oper.mk (some 38) _ _ _ _ _ :: _) _ _); refine wpList_build_w2 38 (by rfl) (by rfl) (.tmp 37) (.const (.string ⟨#[50]⟩)) (by rfl) KA [50] YKA.out (by rfl) HS50.out ?_) | (have hgo := H13.out; clear hgo; go_at_call 12; refine (CKC.out _).mono ?_; rintro e u14 ⟨rfl, hb14⟩; have H14 : Hid (StX w u14 p []) := H13.out.past hb14; clear hb14 H13) | ((with_reducible show wpList _ _ _ (Oper.mk (some 40) _ _ _ _ _ :: _) _ _); refine wpList_build_w2 40 (by rfl) (by rfl) (.tmp 39) (.const (.string ⟨#[51]⟩)) (by rfl) KC [51] YKC.out (by rfl) HS51.out ?_) | ((with_reducible show wpList _ _ _ (Oper.mk (some 41) _ _ _ _ _ :: _) _ _); refine wpList_build_ws3 41 (by rfl) (by rfl) (.tmp 36) (.tmp 38) (.tmp 40) (by rfl) ⟨KB, [49], false⟩ ⟨KA, [50], false⟩ ⟨KC, [51], false⟩ YKB.out YKA.out YKC.out (by rfl) (by rfl) (by rfl) ?_) | (have hgo := H14.out; clear hgo; go_at_call 10; refine (CP1.out _ _ H14.out).mono ?_; rintro e u15 ⟨rfl, h1015⟩; have H15 : Hid (StX w u15 p L1) := h1015; clear h1015 H14) | (have hgo := H15.out; clear hgo; go_at_call 11; refine (CA.out _ _).mono ?_; rintro e u16 ⟨rfl, hb16⟩; have H16 : Hid (StX w u16 p L1) := H15.out.past hb16; clear hb16 H15) | (have hgo := H16.out; clear hgo; go_at_call 12; refine (CKZ.out _).mono ?_; rintro e u17 ⟨rfl, hb17⟩; have H17 : Hid (StX w u17 p L1) := H16.out.past hb17; clear hb17 H16) | ((with_reducible show wpList _ _ _ (Oper.mk (some 46) _ _ _ _ _ :: _) _ _); refine wpList_build_w1 46 (by rfl) (by rfl) (.tmp 45) (by rfl) KZ YKZ.out (by rfl) ?_) | (have hgo := H17.out; clear hgo; go_at_call 12; refine (CKA.out _).mono ?_; rintro e u18 ⟨rfl, hb18⟩; have H18 : Hid (StX w u18 p L1) := H17.out.past hb18; clear hb18 H17) | ((with_reducible show wpList _ _ _ (Oper.mk (some 48) _ _ _ _ _ :: _) _ _); refine wpList_build_w1 48 (by rfl) (by rfl) (.tmp 47) (by rfl) KA YKA.out (by rfl) ?_) | ((with_reducible show wpList _ _ _ (Oper.mk (some 49) _ _ _ _ _ :: _) _ _); refine wpList_build_ws2 49 (by rfl) (by rfl) (.tmp 46) (.tmp 48) (by rfl) ⟨KZ, [], false⟩ ⟨KA, [], false⟩ YKZ.out YKA.out (by rfl) (by rfl) ?_) | (have hgo := H18.out; clear hgo; go_at_call 10; refine (CPd.out _ _ H18.out).mono ?_; rintro e u19 ⟨rfl, h1019⟩; have H19 : Hid (StX w u19 p L1) := h1019; clear h1019 H18) | (have hgo := H19.out; clear hgo; go_at_call 11; refine (CA.out _ _).mono ?_; rintro e u20 ⟨rfl, hb20⟩; have H20 : Hid (StX w u20 p L1) := H19.out.past hb20; clear hb20 H19) | (have hgo := H20.out; clear hgo; go_at_call 12; refine (CKB.out _).mono ?_; rintro e u21 ⟨rfl, hb21⟩; have H21 : Hid (StX w u21 p L1) := H20.out.past hb21; clear hb21 H20) | ((with_reducible show wpList _ _ _ (Oper.mk (some 54) _ _ _ _ _ :: _) _ _); refine wpList_build_w3 54 (by rfl) (by rfl) (.tmp 53) (.const (.bool true)) (by rfl) KB true YKB.out (by rfl) (by rfl) ?_) | ((with_reducible show wpList _ _ _ (Oper.mk (some 55) _ _ _ _ _ :: _) _ _); refine wpList_build_ws1 55 (by rfl) (by rfl) (.tmp 54) (by rfl) ⟨KB, [], true⟩ YKB.out (by rfl) ?_) | (have hgo := H21.out; clear hgo; go_at_call 10; refine (CP2.out _ _ H21.out).mono ?_; rintro e u22 ⟨rfl, h1022⟩; have H22 : Hid (StX w u22 p L2) := h1022; clear h1022 H21) | (have hgo := H22.out; clear hgo; go_at_call 12; refine (CKA.out _).mono ?_; rintro e u23 ⟨rfl, hb23⟩; have H23 : Hid (StX w u23 p L2) := H22.out.past hb23; clear hb23 H22) | ((with_reducible show wpList _ _ _ (Oper.mk (some 59) _ _ _ _ _ :: _) _ _); refine wpList_build_k0 59 (by rfl) (by rfl) (by rfl) ?_) | (have hgo := H23.out; clear hgo; go_at_call 11; refine (CA.out _ _).mono ?_; rintro e u24 ⟨rfl, hb24⟩; have H24 : Hid (StX w u24 p L2) := H23.out.past hb24; clear hb24 H23) | (have hgo := H24.out; clear hgo; go_at_call 13; refine (CX.out _ _ H24.out).mono ?_; rintro e u25 ⟨g1, c1, rfl, i1, hc1, k1, hb1⟩; have H25 : Hid (Kn w u25 p L2 (fun k => noFoot k ∨ k = g1) ∧ ItmsAt u25 (some ⟨g1, 0, none⟩) R1) := ⟨k1, i1⟩; clear i1 k1 hb1 H24) | (have hgo := H25.out; clear hgo; go_at_call 12; refine (CKA.out _).mono ?_; rintro e u26 ⟨rfl, hb26⟩; have H26 : Hid (Kn w u26 p L2 (fun k => noFoot k ∨ k = g1) ∧ ItmsAt u26 (some ⟨g1, 0, none⟩) R1) := ⟨H25.out.1.past hb26, H25.out.2.past hb26⟩; clear hb26 H25) | (have hgo := H26.out; clear hgo; go_at_call 12; refine (CKC.out _).mono ?_; rintro e u27 ⟨rfl, hb27⟩; have H27 : Hid (Kn w u27 p L2 (fun k => noFoot k ∨ k = g1) ∧ ItmsAt u27 (some ⟨g1, 0, none⟩) R1) := ⟨H26.out.1.past hb27, H26.out.2.past hb27⟩; clear hb27 H26) | (have hgo := H27.out; clear hgo; go_at_call 11; refine (CA.out _ _).mono ?_; rintro e u28 ⟨rfl, hb28⟩; have H28 : Hid (Kn w u28 p L2 (fun k => noFoot k ∨ k = g1) ∧ ItmsAt u28 (some ⟨g1, 0, none⟩) R1) := ⟨H27.out.1.past hb28, H27.out.2.past hb28⟩; clear hb28 H27) | (have hgo := H28.out; clear hgo; go_at_call 13; refine (CY.out _ _ _ H28.out.1).mono ?_; rintro e u29 ⟨g2, c2, rfl, i1, hc2, k1, hb1⟩; have H29 : Hid (Kn w u29 p L2 (fun k => k = g1 ∨ k = g2) ∧ ItmsAt u29 (some ⟨g1, 0, none⟩) R1 ∧ ItmsAt u29 (some ⟨g2, 0, none⟩) R2) := ⟨k1.add (Below.refl _ _) (fun k hk => .inl (hk.elim (fun e => .inl (.inr e)) .inr)), H28.out.2.past hb1, i1⟩; clear i1 k1 hb1 H28) | (have hgo := H29.out; clear hgo; go_at_call 12; refine (CKB.out _).mono ?_; rintro e u30 ⟨rfl, hb1⟩; have H30 : Hid (Kn w u30 p L2 (fun k => k = g1 ∨ k = g2) ∧ ItmsAt u30 (some ⟨g1, 0, none⟩) R1 ∧ ItmsAt u30 (some ⟨g2, 0, none⟩) R2) := ⟨H29.out.1.past hb1, H29.out.2.1.past hb1, H29.out.2.2.past hb1⟩; clear hb1 H29) | (have hgo := H30.out; clear hgo; go_at_call 14; refine (CNE.out _ _ H30.out.1.stx).mono ?_; rintro e u31 ⟨rfl, hb1⟩; obtain ⟨nb, hnb⟩ : ∃ b, b = u31.heap.size := ⟨_, rfl⟩; have H31 : Hid (KnS w (u31.alloc (.cells #[.int .i64 3, .int .u8 0] 28)) p L2 g1 g2 u31.heap.size R1 R2 3 0) := KnS.made (H30.out.1.past hb1) (H30.out.2.1.past hb1) (H30.out.2.2.past hb1) 3 0 28; clear hb1 hnb nb H30) | (have hgo := H31.out; clear hgo; go_at_call 11; refine (CA.out _ _).mono ?_; rintro e u32 ⟨rfl, hb32⟩; have H32 : Hid (KnS w u32 p L2 g1 g2 u31.heap.size R1 R2 3 0) := H31.out.past hb32; clear hb32 H31) | (have hgo := H32.out; clear hgo; go_at_call 15; refine (CT.out _ _ _ _ _ H32.out).mono ?_; rintro e u33 ⟨rfl, h1033⟩; have H33 : Hid (KnS w u33 p L3 g1 g2 u31.heap.size R1 R2 3 0) := h1033; clear h1033 H32) | (have hgo := H33.out; clear hgo; go_at_call 12; refine (CKB.out _).mono ?_; rintro e u34 ⟨rfl, hb34⟩; have H34 : Hid (KnS w u34 p L3 g1 g2 u31.heap.size R1 R2 3 0) := H33.out.past hb34; clear hb34 H33) | (have hgo := H34.out; clear hgo; go_at_call 14; refine (CNG.out _ _ H34.out.kn.stx).mono ?_; rintro e u35 ⟨rfl, hb1⟩; have H35 : Hid (KnS w (u35.alloc (.cells #[.int .i64 0, .int .u8 0] 28)) p L3 g1 g2 u31.heap.size R1 R2 3 0) := (H34.out.past hb1).past ((Below.refl _ _).alloc (Nat.le_refl _) _); clear hb1 H34))
  generalize u35.alloc (.cells #[.int .i64 0, .int .u8 0] 28) = U9 at H35 ⊢
  generalize u31.heap.size = nb at H35 ⊢
  have HU : Hid (∀ u, Below U9.heap.size U9 u → KnS w u p L3 g1 g2 nb R1 R2 3 0) := fun u hb => H35.out.past hb
  clear H35
  have FX : Hid (∀ u, Below U9.heap.size U9 u → KeyAt u g1 0 KA) := fun u hb => (HX.out u g1 (HU.out u hb).x).1
  have FPS : Hid (∀ u, Below U9.heap.size U9 u → u.cell? ⟨g1, 33, none⟩ = some (.string ⟨#[49]⟩)) := fun u hb => (HX.out u g1 (HU.out u hb).x).2
  have FY : Hid (∀ u, Below U9.heap.size U9 u → u.cell? ⟨g2, 16, none⟩ = some (.string ⟨#[50]⟩)) := fun u hb => HY.out u g2 (HU.out u hb).y
  clear HX HY
  refine wp_region_noPanic ?_
  refine wp_region_held_drew (S := fun u => Below U9.heap.size U9 u) (by kernel_rfl) ?_ (fun hHeld => ?_)
  · exact (Below.refl _ _).drew
  refine wpAnyH_take (i := 0) (v := ?_) rfl (by kernel_rfl) (by kernel_rfl) (by kernel_rfl) (fun _ _ _ h => h) (Or.inl ⟨by rfl, ?_⟩) hHeld ?_
  rotate_left
  · intro u hSu
    (go_simp) <;> (with_reducible rfl)
  change wpAnyH _ _ _ _ _ _ _ (Act.put _ (some 82) _) _
  simp only [Act.put, List.setIfInBounds_toArray, List.set_cons_zero, List.set_cons_succ]
  refine wpAnyH_take (i := 1) (v := ?_) rfl (by kernel_rfl) (by kernel_rfl) (by kernel_rfl) (fun _ _ _ h => h) (Or.inl ⟨by rfl, ?_⟩) hHeld ?_
  rotate_left
  · intro u hSu
    (go_simp) <;> (with_reducible rfl)
  change wpAnyH _ _ _ _ _ _ _ (Act.put _ (some 83) _) _
  simp only [Act.put, List.setIfInBounds_toArray, List.set_cons_zero, List.set_cons_succ]
  refine wpAnyH_take (i := 2) (v := ?_) rfl (by kernel_rfl) (by kernel_rfl) (by kernel_rfl) (fun _ _ _ h => h) (Or.inl ⟨by rfl, ?_⟩) hHeld ?_
  rotate_left
  · intro u hSu
    (go_simp) <;> (with_reducible rfl)
  change wpAnyH _ _ _ _ _ _ _ (Act.put _ (some 84) _) _
  simp only [Act.put, List.setIfInBounds_toArray, List.set_cons_zero, List.set_cons_succ]
  refine wpAnyH_take (i := 3) (v := ?_) rfl (by kernel_rfl) (by kernel_rfl) (by kernel_rfl) (fun _ _ _ h => h) (Or.inl ⟨by rfl, ?_⟩) hHeld ?_
  rotate_left
  · intro u hSu
    (go_simp) <;> (with_reducible rfl)
  change wpAnyH _ _ _ _ _ _ _ (Act.put _ (some 85) _) _
  simp only [Act.put, List.setIfInBounds_toArray, List.set_cons_zero, List.set_cons_succ]
  refine wpAnyH_take (i := 4) (v := ?_) rfl (by kernel_rfl) (by kernel_rfl) (by kernel_rfl) (fun _ _ _ h => h) (Or.inl ⟨by rfl, ?_⟩) hHeld ?_
  rotate_left
  · intro u hSu
    (go_simp) <;> (with_reducible rfl)
  change wpAnyH _ _ _ _ _ _ _ (Act.put _ (some 86) _) _
  simp only [Act.put, List.setIfInBounds_toArray, List.set_cons_zero, List.set_cons_succ]
  refine wpAnyH_take (i := 5) (v := ?_) rfl (by kernel_rfl) (by kernel_rfl) (by kernel_rfl) (fun _ _ _ h => h) (Or.inl ⟨by rfl, ?_⟩) hHeld ?_
  rotate_left
  · intro u hSu
    (go_simp) <;> (with_reducible rfl)
  change wpAnyH _ _ _ _ _ _ _ (Act.put _ (some 87) _) _
  simp only [Act.put, List.setIfInBounds_toArray, List.set_cons_zero, List.set_cons_succ]
  refine wpAnyH_take (i := 6) (v := ?_) rfl (by kernel_rfl) (by kernel_rfl) (by kernel_rfl) (fun _ _ _ h => h) (Or.inl ⟨by rfl, ?_⟩) hHeld ?_
  rotate_left
  · intro u hSu
    (go_simp) <;> (with_reducible rfl)
  change wpAnyH _ _ _ _ _ _ _ (Act.put _ (some 88) _) _
  simp only [Act.put, List.setIfInBounds_toArray, List.set_cons_zero, List.set_cons_succ]
  refine wpAnyH_take (i := 7) (v := ?_) rfl (by kernel_rfl) (by kernel_rfl) (by kernel_rfl) (fun _ _ _ h => h) (Or.inl ⟨by rfl, ?_⟩) hHeld ?_
  rotate_left
  · intro u hSu
    (go_simp) <;> (with_reducible rfl)
  change wpAnyH _ _ _ _ _ _ _ (Act.put _ (some 89) _) _
  simp only [Act.put, List.setIfInBounds_toArray, List.set_cons_zero, List.set_cons_succ]
  refine wpAnyH_take (i := 8) (v := ?_) rfl (by kernel_rfl) (by kernel_rfl) (by kernel_rfl) (fun _ _ _ h => h) (Or.inl ⟨by rfl, ?_⟩) hHeld ?_
  rotate_left
  · intro u hSu
    (go_simp) <;> (with_reducible rfl)
  change wpAnyH _ _ _ _ _ _ _ (Act.put _ (some 90) _) _
  simp only [Act.put, List.setIfInBounds_toArray, List.set_cons_zero, List.set_cons_succ]
  refine wpAnyH_take (i := 9) (v := ?_) rfl (by kernel_rfl) (by kernel_rfl) (by kernel_rfl) (fun _ _ _ h => h) (Or.inl ⟨by rfl, ?_⟩) hHeld ?_
  rotate_left
  · intro u hSu
    (go_simp) <;> (with_reducible rfl)
  change wpAnyH _ _ _ _ _ _ _ (Act.put _ (some 91) _) _
  simp only [Act.put, List.setIfInBounds_toArray, List.set_cons_zero, List.set_cons_succ]
  refine wpAnyH_take (i := 10) (v := ?_) rfl (by kernel_rfl) (by kernel_rfl) (by kernel_rfl) (fun _ _ _ h => h) (Or.inl ⟨by rfl, ?_⟩) hHeld ?_
  rotate_left
  · intro u hSu
    (go_simp) <;> (with_reducible rfl)
  change wpAnyH _ _ _ _ _ _ _ (Act.put _ (some 92) _) _
  simp only [Act.put, List.setIfInBounds_toArray, List.set_cons_zero, List.set_cons_succ]
  refine wpAnyH_take (i := 11) (v := ?_) rfl (by kernel_rfl) (by kernel_rfl) (by kernel_rfl) (fun _ _ _ h => h) (Or.inl ⟨by rfl, ?_⟩) hHeld ?_
  rotate_left
  · intro u hSu
    (go_simp) <;> (with_reducible rfl)
  change wpAnyH _ _ _ _ _ _ _ (Act.put _ (some 93) _) _
  simp only [Act.put, List.setIfInBounds_toArray, List.set_cons_zero, List.set_cons_succ]
  refine wpAnyH_take (i := 12) (v := ?_) rfl (by kernel_rfl) (by kernel_rfl) (by kernel_rfl) (fun _ _ _ h => h) (Or.inl ⟨by rfl, ?_⟩) hHeld ?_
  rotate_left
  · intro u hSu
    (go_simp) <;> (with_reducible rfl)
  change wpAnyH _ _ _ _ _ _ _ (Act.put _ (some 94) _) _
  simp only [Act.put, List.setIfInBounds_toArray, List.set_cons_zero, List.set_cons_succ]
  refine wpAnyH_take (i := 13) (v := ?_) rfl (by kernel_rfl) (by kernel_rfl) (by kernel_rfl) (fun _ _ _ h => h) (Or.inl ⟨by rfl, ?_⟩) hHeld ?_
  rotate_left
  · intro u hSu
    (go_simp) <;> (with_reducible rfl)
  change wpAnyH _ _ _ _ _ _ _ (Act.put _ (some 95) _) _
  simp only [Act.put, List.setIfInBounds_toArray, List.set_cons_zero, List.set_cons_succ]
  refine wpAnyH_take (i := 14) (v := ?_) rfl (by kernel_rfl) (by kernel_rfl) (by kernel_rfl) (fun _ _ _ h => h) (Or.inl ⟨by rfl, ?_⟩) hHeld ?_
  rotate_left
  · intro u hSu
    (go_simp) <;> (with_reducible rfl)
  change wpAnyH _ _ _ _ _ _ _ (Act.put _ (some 96) _) _
  simp only [Act.put, List.setIfInBounds_toArray, List.set_cons_zero, List.set_cons_succ]
  refine wpAnyH_take (i := 15) (v := ?_) rfl (by kernel_rfl) (by kernel_rfl) (by kernel_rfl) (fun _ _ _ h => h) (Or.inl ⟨by rfl, ?_⟩) hHeld ?_
  rotate_left
  · intro u hSu
    (go_simp) <;> (with_reducible rfl)
  change wpAnyH _ _ _ _ _ _ _ (Act.put _ (some 97) _) _
  simp only [Act.put, List.setIfInBounds_toArray, List.set_cons_zero, List.set_cons_succ]
  refine wpAnyH_take (i := 16) (v := ?_) rfl (by kernel_rfl) (by kernel_rfl) (by kernel_rfl) (fun _ _ _ h => h) (Or.inl ⟨by rfl, ?_⟩) hHeld ?_
  rotate_left
  · intro u hSu
    (go_simp) <;> (with_reducible rfl)
  change wpAnyH _ _ _ _ _ _ _ (Act.put _ (some 98) _) _
  simp only [Act.put, List.setIfInBounds_toArray, List.set_cons_zero, List.set_cons_succ]
  refine wpAnyH_take (i := 17) (v := ?_) rfl (by kernel_rfl) (by kernel_rfl) (by kernel_rfl) (fun _ _ _ h => h) (Or.inl ⟨by rfl, ?_⟩) hHeld ?_
  rotate_left
  · intro u hSu
    (go_simp) <;> (with_reducible rfl)
  change wpAnyH _ _ _ _ _ _ _ (Act.put _ (some 99) _) _
  simp only [Act.put, List.setIfInBounds_toArray, List.set_cons_zero, List.set_cons_succ]
  refine wpAnyH_take (i := 18) (v := ?_) rfl (by kernel_rfl) (by kernel_rfl) (by kernel_rfl) (fun _ _ _ h => h) (Or.inl ⟨by rfl, ?_⟩) hHeld ?_
  rotate_left
  · intro u hSu
    (go_simp) <;> (with_reducible rfl)
  change wpAnyH _ _ _ _ _ _ _ (Act.put _ (some 100) _) _
  simp only [Act.put, List.setIfInBounds_toArray, List.set_cons_zero, List.set_cons_succ]
  refine wpAnyH_take (i := 19) (v := ?_) rfl (by kernel_rfl) (by kernel_rfl) (by kernel_rfl) (fun _ _ _ h => h) (Or.inl ⟨by rfl, ?_⟩) hHeld ?_
  rotate_left
  · intro u hSu
    (go_simp) <;> (with_reducible rfl)
  change wpAnyH _ _ _ _ _ _ _ (Act.put _ (some 101) _) _
  simp only [Act.put, List.setIfInBounds_toArray, List.set_cons_zero, List.set_cons_succ]
  refine wpAnyH_take (i := 20) (v := ?_) rfl (by kernel_rfl) (by kernel_rfl) (by kernel_rfl) (fun _ _ _ h => h) (Or.inl ⟨by rfl, ?_⟩) hHeld ?_
  rotate_left
  · intro u hSu
    (go_simp) <;> (with_reducible rfl)
  change wpAnyH _ _ _ _ _ _ _ (Act.put _ (some 102) _) _
  simp only [Act.put, List.setIfInBounds_toArray, List.set_cons_zero, List.set_cons_succ]
  refine wpAnyH_take (i := 21) (v := ?_) rfl (by kernel_rfl) (by kernel_rfl) (by kernel_rfl) (fun _ _ _ h => h) (Or.inl ⟨by rfl, ?_⟩) hHeld ?_
  rotate_left
  · intro u hSu
    (go_simp) <;> (with_reducible rfl)
  change wpAnyH _ _ _ _ _ _ _ (Act.put _ (some 103) _) _
  simp only [Act.put, List.setIfInBounds_toArray, List.set_cons_zero, List.set_cons_succ]
  refine wpAnyH_take (i := 22) (v := ?_) rfl (by kernel_rfl) (by kernel_rfl) (by kernel_rfl) (fun _ _ _ h => h) (Or.inl ⟨by rfl, ?_⟩) hHeld ?_
  rotate_left
  · intro u hSu
    (go_simp) <;> (with_reducible rfl)
  change wpAnyH _ _ _ _ _ _ _ (Act.put _ (some 104) _) _
  simp only [Act.put, List.setIfInBounds_toArray, List.set_cons_zero, List.set_cons_succ]
  refine wpAnyH_take (i := 23) (v := kv KA) rfl (by kernel_rfl) (by kernel_rfl) (by kernel_rfl) (fun _ _ _ h => h) (yieldsIf_load_mid (by rfl) _ _ rfl _ _ rfl (KA.map (Value.int .u8)) _ (fun u hu => (FX.out u hu).range YKA.out) Try.underlying31 rfl (info_keyl KA YKA.out)) hHeld ?_
  change wpAnyH _ _ _ _ _ _ _ (Act.put _ (some 105) _) _
  simp only [Act.put, List.setIfInBounds_toArray, List.set_cons_zero, List.set_cons_succ]
  refine wpAnyH_ready (rs := [24]) (by kernel_rfl) (by simp) ?_
  refine AllReadyH.cons rfl (fun K hK => ?_) AllReadyH.nil
  go_simp
  go_at_call 12
  refine (CKA.out _).mono ?_
  rintro e x1 ⟨rfl, hbx1⟩
  have Bx1 : Hid (Below U9.heap.size U9 x1) := hHeld.trans (hbx1.mono hHeld.size)
  clear hbx1
  refine hK.out _ _ ?_ (fun hHeld2 => ?_)
  · exact Bx1.out
  clear hK K hHeld
  have hHeld := hHeld2
  clear hHeld2
  refine wpAnyH_take (i := 25) (v := ?_) rfl (by kernel_rfl) (by kernel_rfl) (by kernel_rfl) (fun _ _ _ h => h) (Or.inl ⟨by rfl, ?_⟩) hHeld ?_
  rotate_left
  · intro u hSu
    (go_simp) <;> (with_reducible rfl)
  change wpAnyH _ _ _ _ _ _ _ (Act.put _ (some 107) _) _
  simp only [Act.put, List.setIfInBounds_toArray, List.set_cons_zero, List.set_cons_succ]
  refine wpAnyH_take (i := 26) (v := ?_) rfl (by kernel_rfl) (by kernel_rfl) (by kernel_rfl) (fun _ _ _ h => h) (Or.inl ⟨by rfl, ?_⟩) hHeld ?_
  rotate_left
  · intro u hSu
    (go_simp) <;> (with_reducible rfl)
  change wpAnyH _ _ _ _ _ _ _ (Act.put _ (some 108) _) _
  simp only [Act.put, List.setIfInBounds_toArray, List.set_cons_zero, List.set_cons_succ]
  refine wpAnyH_take (i := 27) (v := ?_) rfl (by kernel_rfl) (by kernel_rfl) (by kernel_rfl) (fun _ _ _ h => h) (Or.inl ⟨by rfl, ?_⟩) hHeld ?_
  rotate_left
  · intro u hSu
    (go_simp) <;> (with_reducible rfl)
  change wpAnyH _ _ _ _ _ _ _ (Act.put _ (some 109) _) _
  simp only [Act.put, List.setIfInBounds_toArray, List.set_cons_zero, List.set_cons_succ]
  refine wpAnyH_take (i := 28) (v := ?_) rfl (by kernel_rfl) (by kernel_rfl) (by kernel_rfl) (fun _ _ _ h => h) (Or.inl ⟨by rfl, ?_⟩) hHeld ?_
  rotate_left
  · intro u hSu
    (go_simp) <;> (with_reducible rfl)
  change wpAnyH _ _ _ _ _ _ _ (Act.put _ (some 110) _) _
  simp only [Act.put, List.setIfInBounds_toArray, List.set_cons_zero, List.set_cons_succ]
  refine wpAnyH_take (i := 29) (v := ?_) rfl (by kernel_rfl) (by kernel_rfl) (by kernel_rfl) (fun _ _ _ h => h) (Or.inl ⟨by rfl, ?_⟩) hHeld ?_
  rotate_left
  · intro u hSu
    (go_simp) <;> (with_reducible rfl)
  change wpAnyH _ _ _ _ _ _ _ (Act.put _ (some 111) _) _
  simp only [Act.put, List.setIfInBounds_toArray, List.set_cons_zero, List.set_cons_succ]
  refine wpAnyH_take (i := 30) (v := ?_) rfl (by kernel_rfl) (by kernel_rfl) (by kernel_rfl) (fun _ _ _ h => h) (Or.inl ⟨by rfl, ?_⟩) hHeld ?_
  rotate_left
  · intro u hSu
    (go_simp) <;> (with_reducible rfl)
  change wpAnyH _ _ _ _ _ _ _ (Act.put _ (some 112) _) _
  simp only [Act.put, List.setIfInBounds_toArray, List.set_cons_zero, List.set_cons_succ]
  refine wpAnyH_take (i := 31) (v := ?_) rfl (by kernel_rfl) (by kernel_rfl) (by kernel_rfl) (fun _ _ _ h => h) (Or.inl ⟨by rfl, ?_⟩) hHeld ?_
  rotate_left
  · intro u hSu
    have r1 := FPS.out u hSu
    (go_simp) <;> (with_reducible rfl)
  change wpAnyH _ _ _ _ _ _ _ (Act.put _ (some 113) _) _
  simp only [Act.put, List.setIfInBounds_toArray, List.set_cons_zero, List.set_cons_succ]
  refine wpAnyH_take (i := 32) (v := ?_) rfl (by kernel_rfl) (by kernel_rfl) (by kernel_rfl) (fun _ _ _ h => h) (Or.inl ⟨by rfl, ?_⟩) hHeld ?_
  rotate_left
  · intro u hSu
    (go_simp) <;> (with_reducible rfl)
  change wpAnyH _ _ _ _ _ _ _ (Act.put _ (some 114) _) _
  simp only [Act.put, List.setIfInBounds_toArray, List.set_cons_zero, List.set_cons_succ]
  refine wpAnyH_take (i := 33) (v := ?_) rfl (by kernel_rfl) (by kernel_rfl) (by kernel_rfl) (fun _ _ _ h => h) (Or.inl ⟨by rfl, ?_⟩) hHeld ?_
  rotate_left
  · intro u hSu
    (go_simp) <;> (with_reducible rfl)
  change wpAnyH _ _ _ _ _ _ _ (Act.put _ (some 115) _) _
  simp only [Act.put, List.setIfInBounds_toArray, List.set_cons_zero, List.set_cons_succ]
  refine wpAnyH_take (i := 34) (v := ?_) rfl (by kernel_rfl) (by kernel_rfl) (by kernel_rfl) (fun _ _ _ h => h) (Or.inl ⟨by rfl, ?_⟩) hHeld ?_
  rotate_left
  · intro u hSu
    (go_simp) <;> (with_reducible rfl)
  change wpAnyH _ _ _ _ _ _ _ (Act.put _ (some 116) _) _
  simp only [Act.put, List.setIfInBounds_toArray, List.set_cons_zero, List.set_cons_succ]
  refine wpAnyH_take (i := 35) (v := ?_) rfl (by kernel_rfl) (by kernel_rfl) (by kernel_rfl) (fun _ _ _ h => h) (Or.inl ⟨by rfl, ?_⟩) hHeld ?_
  rotate_left
  · intro u hSu
    (go_simp) <;> (with_reducible rfl)
  change wpAnyH _ _ _ _ _ _ _ (Act.put _ (some 117) _) _
  simp only [Act.put, List.setIfInBounds_toArray, List.set_cons_zero, List.set_cons_succ]
  refine wpAnyH_take (i := 36) (v := ?_) rfl (by kernel_rfl) (by kernel_rfl) (by kernel_rfl) (fun _ _ _ h => h) (Or.inl ⟨by rfl, ?_⟩) hHeld ?_
  rotate_left
  · intro u hSu
    (go_simp) <;> (with_reducible rfl)
  change wpAnyH _ _ _ _ _ _ _ (Act.put _ (some 118) _) _
  simp only [Act.put, List.setIfInBounds_toArray, List.set_cons_zero, List.set_cons_succ]
  refine wpAnyH_take (i := 37) (v := ?_) rfl (by kernel_rfl) (by kernel_rfl) (by kernel_rfl) (fun _ _ _ h => h) (Or.inl ⟨by rfl, ?_⟩) hHeld ?_
  rotate_left
  · intro u hSu
    (go_simp) <;> (with_reducible rfl)
  change wpAnyH _ _ _ _ _ _ _ (Act.put _ (some 119) _) _
  simp only [Act.put, List.setIfInBounds_toArray, List.set_cons_zero, List.set_cons_succ]
  refine wpAnyH_take (i := 38) (v := ?_) rfl (by kernel_rfl) (by kernel_rfl) (by kernel_rfl) (fun _ _ _ h => h) (Or.inl ⟨by rfl, ?_⟩) hHeld ?_
  rotate_left
  · intro u hSu
    (go_simp) <;> (with_reducible rfl)
  change wpAnyH _ _ _ _ _ _ _ (Act.put _ (some 120) _) _
  simp only [Act.put, List.setIfInBounds_toArray, List.set_cons_zero, List.set_cons_succ]
  refine wpAnyH_take (i := 39) (v := ?_) rfl (by kernel_rfl) (by kernel_rfl) (by kernel_rfl) (fun _ _ _ h => h) (Or.inl ⟨by rfl, ?_⟩) hHeld ?_
  rotate_left
  · intro u hSu
    (go_simp) <;> (with_reducible rfl)
  change wpAnyH _ _ _ _ _ _ _ (Act.put _ (some 121) _) _
  simp only [Act.put, List.setIfInBounds_toArray, List.set_cons_zero, List.set_cons_succ]
  refine wpAnyH_take (i := 40) (v := ?_) rfl (by kernel_rfl) (by kernel_rfl) (by kernel_rfl) (fun _ _ _ h => h) (Or.inl ⟨by rfl, ?_⟩) hHeld ?_
  rotate_left
  · intro u hSu
    (go_simp) <;> (with_reducible rfl)
  change wpAnyH _ _ _ _ _ _ _ (Act.put _ (some 122) _) _
  simp only [Act.put, List.setIfInBounds_toArray, List.set_cons_zero, List.set_cons_succ]
  refine wpAnyH_take (i := 41) (v := ?_) rfl (by kernel_rfl) (by kernel_rfl) (by kernel_rfl) (fun _ _ _ h => h) (Or.inl ⟨by rfl, ?_⟩) hHeld ?_
  rotate_left
  · intro u hSu
    (go_simp) <;> (with_reducible rfl)
  change wpAnyH _ _ _ _ _ _ _ (Act.put _ (some 123) _) _
  simp only [Act.put, List.setIfInBounds_toArray, List.set_cons_zero, List.set_cons_succ]
  refine wpAnyH_take (i := 42) (v := ?_) rfl (by kernel_rfl) (by kernel_rfl) (by kernel_rfl) (fun _ _ _ h => h) (Or.inl ⟨by rfl, ?_⟩) hHeld ?_
  rotate_left
  · intro u hSu
    (go_simp) <;> (with_reducible rfl)
  change wpAnyH _ _ _ _ _ _ _ (Act.put _ (some 124) _) _
  simp only [Act.put, List.setIfInBounds_toArray, List.set_cons_zero, List.set_cons_succ]
  refine wpAnyH_take (i := 43) (v := ?_) rfl (by kernel_rfl) (by kernel_rfl) (by kernel_rfl) (fun _ _ _ h => h) (Or.inl ⟨by rfl, ?_⟩) hHeld ?_
  rotate_left
  · intro u hSu
    have r1 := FY.out u hSu
    (go_simp) <;> (with_reducible rfl)
  change wpAnyH _ _ _ _ _ _ _ (Act.put _ (some 125) _) _
  simp only [Act.put, List.setIfInBounds_toArray, List.set_cons_zero, List.set_cons_succ]
  refine wpAnyH_take (i := 44) (v := ?_) rfl (by kernel_rfl) (by kernel_rfl) (by kernel_rfl) (fun _ _ _ h => h) (Or.inl ⟨by rfl, ?_⟩) hHeld ?_
  rotate_left
  · intro u hSu
    (go_simp) <;> (with_reducible rfl)
  change wpAnyH _ _ _ _ _ _ _ (Act.put _ (some 126) _) _
  simp only [Act.put, List.setIfInBounds_toArray, List.set_cons_zero, List.set_cons_succ]
  refine wpAnyH_take (i := 45) (v := ?_) rfl (by kernel_rfl) (by kernel_rfl) (by kernel_rfl) (fun _ _ _ h => h) (Or.inl ⟨by rfl, ?_⟩) hHeld ?_
  rotate_left
  · intro u hSu
    (go_simp) <;> (with_reducible rfl)
  change wpAnyH _ _ _ _ _ _ _ (Act.put _ (some 127) _) _
  simp only [Act.put, List.setIfInBounds_toArray, List.set_cons_zero, List.set_cons_succ]
  refine wpAnyH_take (i := 46) (v := ?_) rfl (by kernel_rfl) (by kernel_rfl) (by kernel_rfl) (fun _ _ _ h => h) (Or.inl ⟨by rfl, ?_⟩) hHeld ?_
  rotate_left
  · intro u hSu
    (go_simp) <;> (with_reducible rfl)
  change wpAnyH _ _ _ _ _ _ _ (Act.put _ (some 128) _) _
  simp only [Act.put, List.setIfInBounds_toArray, List.set_cons_zero, List.set_cons_succ]
  refine wpAnyH_take (i := 47) (v := ?_) rfl (by kernel_rfl) (by kernel_rfl) (by kernel_rfl) (fun _ _ _ h => h) (Or.inl ⟨by rfl, ?_⟩) hHeld ?_
  rotate_left
  · intro u hSu
    (go_simp) <;> (with_reducible rfl)
  change wpAnyH _ _ _ _ _ _ _ (Act.put _ (some 129) _) _
  simp only [Act.put, List.setIfInBounds_toArray, List.set_cons_zero, List.set_cons_succ]
  refine wpAnyH_take (i := 48) (v := ?_) rfl (by kernel_rfl) (by kernel_rfl) (by kernel_rfl) (fun _ _ _ h => h) (Or.inl ⟨by rfl, ?_⟩) hHeld ?_
  rotate_left
  · intro u hSu
    (go_simp) <;> (with_reducible rfl)
  change wpAnyH _ _ _ _ _ _ _ (Act.put _ (some 130) _) _
  simp only [Act.put, List.setIfInBounds_toArray, List.set_cons_zero, List.set_cons_succ]
  refine wpAnyH_take (i := 49) (v := ?_) rfl (by kernel_rfl) (by kernel_rfl) (by kernel_rfl) (fun _ _ _ h => h) (Or.inl ⟨by rfl, ?_⟩) hHeld ?_
  rotate_left
  · intro u hSu
    (go_simp) <;> (with_reducible rfl)
  change wpAnyH _ _ _ _ _ _ _ (Act.put _ (some 131) _) _
  simp only [Act.put, List.setIfInBounds_toArray, List.set_cons_zero, List.set_cons_succ]
  refine wpAnyH_take (i := 50) (v := ?_) rfl (by kernel_rfl) (by kernel_rfl) (by kernel_rfl) (fun _ _ _ h => h) (Or.inl ⟨by rfl, ?_⟩) hHeld ?_
  rotate_left
  · intro u hSu
    have r1 := (HU.out u hSu).c0; have r2 := (HU.out u hSu).c1
    (go_simp) <;> (with_reducible rfl)
  change wpAnyH _ _ _ _ _ _ _ (Act.put _ (some 132) _) _
  simp only [Act.put, List.setIfInBounds_toArray, List.set_cons_zero, List.set_cons_succ]
  refine wpAnyH_ready (rs := [51]) (by kernel_rfl) (by simp) ?_
  refine AllReadyH.cons rfl (fun K hK => ?_) AllReadyH.nil
  go_simp
  go_at_call 11
  refine (CA.out _ _).mono ?_
  rintro e x2 ⟨rfl, hbx2⟩
  have Bx2 : Hid (Below U9.heap.size U9 x2) := hHeld.trans (hbx2.mono hHeld.size)
  clear hbx2
  refine hK.out _ _ ?_ (fun hHeld2 => ?_)
  · exact Bx2.out
  clear hK K hHeld
  have hHeld := hHeld2
  clear hHeld2
  refine wpAnyH_take (i := 52) (v := ?_) rfl (by kernel_rfl) (by kernel_rfl) (by kernel_rfl) (fun _ _ _ h => h) (Or.inl ⟨by rfl, ?_⟩) hHeld ?_
  rotate_left
  · intro u hSu
    (go_simp) <;> (with_reducible rfl)
  change wpAnyH _ _ _ _ _ _ _ (Act.put _ (some 134) _) _
  simp only [Act.put, List.setIfInBounds_toArray, List.set_cons_zero, List.set_cons_succ]
  refine wpAnyH_take (i := 53) (v := ?_) rfl (by kernel_rfl) (by kernel_rfl) (by kernel_rfl) (fun _ _ _ h => h) (Or.inl ⟨by rfl, ?_⟩) hHeld ?_
  rotate_left
  · intro u hSu
    (go_simp) <;> (with_reducible rfl)
  change wpAnyH _ _ _ _ _ _ _ (Act.put _ (some 135) _) _
  simp only [Act.put, List.setIfInBounds_toArray, List.set_cons_zero, List.set_cons_succ]
  refine wpAnyH_take (i := 54) (v := ?_) rfl (by kernel_rfl) (by kernel_rfl) (by kernel_rfl) (fun _ _ _ h => h) (Or.inl ⟨by rfl, ?_⟩) hHeld ?_
  rotate_left
  · intro u hSu
    (go_simp) <;> (with_reducible rfl)
  change wpAnyH _ _ _ _ _ _ _ (Act.put _ (some 136) _) _
  simp only [Act.put, List.setIfInBounds_toArray, List.set_cons_zero, List.set_cons_succ]
  refine wpAnyH_take (i := 55) (v := ?_) rfl (by kernel_rfl) (by kernel_rfl) (by kernel_rfl) (fun _ _ _ h => h) (Or.inl ⟨by rfl, ?_⟩) hHeld ?_
  rotate_left
  · intro u hSu
    (go_simp) <;> (with_reducible rfl)
  change wpAnyH _ _ _ _ _ _ _ (Act.put _ (some 137) _) _
  simp only [Act.put, List.setIfInBounds_toArray, List.set_cons_zero, List.set_cons_succ]
  refine wpAnyH_take (i := 56) (v := ?_) rfl (by kernel_rfl) (by kernel_rfl) (by kernel_rfl) (fun _ _ _ h => h) (Or.inl ⟨by rfl, ?_⟩) hHeld ?_
  rotate_left
  · intro u hSu
    (go_simp) <;> (with_reducible rfl)
  change wpAnyH _ _ _ _ _ _ _ (Act.put _ (some 138) _) _
  simp only [Act.put, List.setIfInBounds_toArray, List.set_cons_zero, List.set_cons_succ]
  refine wpAnyH_take (i := 57) (v := ?_) rfl (by kernel_rfl) (by kernel_rfl) (by kernel_rfl) (fun _ _ _ h => h) (Or.inl ⟨by rfl, ?_⟩) hHeld ?_
  rotate_left
  · intro u hSu
    (go_simp) <;> (with_reducible rfl)
  change wpAnyH _ _ _ _ _ _ _ (Act.put _ (some 139) _) _
  simp only [Act.put, List.setIfInBounds_toArray, List.set_cons_zero, List.set_cons_succ]
  refine wpAnyH_take (i := 58) (v := ?_) rfl (by kernel_rfl) (by kernel_rfl) (by kernel_rfl) (fun _ _ _ h => h) (Or.inl ⟨by rfl, ?_⟩) hHeld ?_
  rotate_left
  · intro u hSu
    (go_simp) <;> (with_reducible rfl)
  change wpAnyH _ _ _ _ _ _ _ (Act.put _ (some 140) _) _
  simp only [Act.put, List.setIfInBounds_toArray, List.set_cons_zero, List.set_cons_succ]
  refine wpAnyH_take (i := 59) (v := ?_) rfl (by kernel_rfl) (by kernel_rfl) (by kernel_rfl) (fun _ _ _ h => h) (Or.inl ⟨by rfl, ?_⟩) hHeld ?_
  rotate_left
  · intro u hSu
    (go_simp) <;> (with_reducible rfl)
  change wpAnyH _ _ _ _ _ _ _ (Act.put _ (some 141) _) _
  simp only [Act.put, List.setIfInBounds_toArray, List.set_cons_zero, List.set_cons_succ]
  refine wpAnyH_take (i := 60) (v := ?_) rfl (by kernel_rfl) (by kernel_rfl) (by kernel_rfl) (fun _ _ _ h => h) (Or.inl ⟨by rfl, ?_⟩) hHeld ?_
  rotate_left
  · intro u hSu
    (go_simp) <;> (with_reducible rfl)
  change wpAnyH _ _ _ _ _ _ _ (Act.put _ (some 142) _) _
  simp only [Act.put, List.setIfInBounds_toArray, List.set_cons_zero, List.set_cons_succ]
  refine wpAnyH_take (i := 61) (v := ?_) rfl (by kernel_rfl) (by kernel_rfl) (by kernel_rfl) (fun _ _ _ h => h) (Or.inl ⟨by rfl, ?_⟩) hHeld ?_
  rotate_left
  · intro u hSu
    (go_simp) <;> (with_reducible rfl)
  change wpAnyH _ _ _ _ _ _ _ (Act.put _ (some 143) _) _
  simp only [Act.put, List.setIfInBounds_toArray, List.set_cons_zero, List.set_cons_succ]
  refine wpAnyH_take (i := 62) (v := ?_) rfl (by kernel_rfl) (by kernel_rfl) (by kernel_rfl) (fun _ _ _ h => h) (Or.inl ⟨by rfl, ?_⟩) hHeld ?_
  rotate_left
  · intro u hSu
    (go_simp) <;> (with_reducible rfl)
  change wpAnyH _ _ _ _ _ _ _ (Act.put _ (some 144) _) _
  simp only [Act.put, List.setIfInBounds_toArray, List.set_cons_zero, List.set_cons_succ]
  refine wpAnyH_take (i := 63) (v := ?_) rfl (by kernel_rfl) (by kernel_rfl) (by kernel_rfl) (fun _ _ _ h => h) (Or.inl ⟨by rfl, ?_⟩) hHeld ?_
  rotate_left
  · intro u hSu
    (go_simp) <;> (with_reducible rfl)
  change wpAnyH _ _ _ _ _ _ _ (Act.put _ (some 145) _) _
  simp only [Act.put, List.setIfInBounds_toArray, List.set_cons_zero, List.set_cons_succ]
  refine wpAnyH_ready (rs := [64]) (by kernel_rfl) (by simp) ?_
  refine AllReadyH.cons rfl (fun K hK => ?_) AllReadyH.nil
  go_simp
  go_at_call 17
  refine (CKS.out _ _ (HU.out _ hHeld).kn.stx).mono ?_
  rintro e x3 ⟨⟨ka, kc0, rfl, hk1, hkc⟩, hbx3⟩
  have Bx3 : Hid (Below U9.heap.size U9 x3) := hHeld.trans (hbx3.mono hHeld.size)
  have J3 : Hid (KeysAt x3 ka [KA, KC]) := hk1
  clear hk1
  clear hbx3
  refine hK.out _ _ ?_ (fun hHeld2 => ?_)
  · exact Bx3.out
  clear hK K hHeld
  have hHeld := hHeld2
  clear hHeld2
  refine wpAnyH_ready (rs := [65]) (by kernel_rfl) (by simp) ?_
  refine AllReadyH.cons rfl (fun K hK => ?_) AllReadyH.nil
  go_simp
  go_at_call 12
  refine (CKA.out _).mono ?_
  rintro e x4 ⟨rfl, hbx4⟩
  have Bx4 : Hid (Below U9.heap.size U9 x4) := hHeld.trans (hbx4.mono hHeld.size)
  have J4 : Hid (KeysAt x4 ka [KA, KC]) := J3.out.past hbx4
  clear J3
  clear hbx4
  refine hK.out _ _ ?_ (fun hHeld2 => ?_)
  · exact Bx4.out
  clear hK K hHeld
  have hHeld := hHeld2
  clear hHeld2
  refine wpAnyH_ready (rs := [66]) (by kernel_rfl) (by simp) ?_
  refine AllReadyH.cons rfl (fun K hK => ?_) AllReadyH.nil
  go_simp
  go_at_call 12
  refine (CKC.out _).mono ?_
  rintro e x5 ⟨rfl, hbx5⟩
  have Bx5 : Hid (Below U9.heap.size U9 x5) := hHeld.trans (hbx5.mono hHeld.size)
  have J5 : Hid (KeysAt x5 ka [KA, KC]) := J4.out.past hbx5
  clear J4
  clear hbx5
  refine hK.out _ _ ?_ (fun hHeld2 => ?_)
  · exact Bx5.out
  clear hK K hHeld
  have hHeld := hHeld2
  clear hHeld2
  refine wpAnyH_ready (rs := [67]) (by kernel_rfl) (by simp) ?_
  refine AllReadyH.cons rfl (fun K hK => ?_) AllReadyH.nil
  refine step_build_keys2 (by rfl) (.tmp 147) (.tmp 148) rfl KA KC YKA.out YKC.out rfl rfl ?_
  have J6 : Hid (KeysAt (x5.alloc (.cells (kc KA ++ kc KC).toArray 31)) ka [KA, KC] ∧ KeysAt (x5.alloc (.cells (kc KA ++ kc KC).toArray 31)) (some ⟨x5.heap.size, 0, none⟩) [KA, KC]) := ⟨J5.out.past ((Below.refl _ _).alloc (Nat.le_refl _) _), keys2_at x5 KA KC YKA.out YKC.out⟩
  have Bx6 : Hid (Below U9.heap.size U9 (x5.alloc (.cells (kc KA ++ kc KC).toArray 31))) := Bx5.out.alloc Bx5.out.size _
  clear J5
  generalize x5.alloc (.cells (kc KA ++ kc KC).toArray 31) = x6 at J6 Bx6 ⊢
  refine hK.out _ _ ?_ (fun hHeld2 => ?_)
  · exact Bx6.out
  clear hK K hHeld
  have hHeld := hHeld2
  clear hHeld2
  refine wpAnyH_ready (rs := [68]) (by kernel_rfl) (by simp) ?_
  refine AllReadyH.cons rfl (fun K hK => ?_) AllReadyH.nil
  go_simp
  go_at_call 16
  refine (CKK.out _ _ _ _ _ J6.out.1 J6.out.2 hkc (Nat.le_refl _)).mono ?_
  rintro e x7 ⟨rfl, hbx7⟩
  have Bx7 : Hid (Below U9.heap.size U9 x7) := hHeld.trans (hbx7.mono hHeld.size)
  clear hbx7
  refine hK.out _ _ ?_ (fun hHeld2 => ?_)
  · exact Bx7.out
  clear hK K hHeld
  have hHeld := hHeld2
  clear hHeld2
  refine wpAnyH_take (i := 69) (v := ?_) rfl (by kernel_rfl) (by kernel_rfl) (by kernel_rfl) (fun _ _ _ h => h) (Or.inl ⟨by rfl, ?_⟩) hHeld ?_
  rotate_left
  · intro u hSu
    (go_simp) <;> (with_reducible rfl)
  change wpAnyH _ _ _ _ _ _ _ (Act.put _ (some 151) _) _
  simp only [Act.put, List.setIfInBounds_toArray, List.set_cons_zero, List.set_cons_succ]
  refine wpAnyH_take (i := 70) (v := ?_) rfl (by kernel_rfl) (by kernel_rfl) (by kernel_rfl) (fun _ _ _ h => h) (Or.inl ⟨by rfl, ?_⟩) hHeld ?_
  rotate_left
  · intro u hSu
    (go_simp) <;> (with_reducible rfl)
  change wpAnyH _ _ _ _ _ _ _ (Act.put _ (some 152) _) _
  simp only [Act.put, List.setIfInBounds_toArray, List.set_cons_zero, List.set_cons_succ]
  refine wpAnyH_take (i := 71) (v := ?_) rfl (by kernel_rfl) (by kernel_rfl) (by kernel_rfl) (fun _ _ _ h => h) (Or.inl ⟨by rfl, ?_⟩) hHeld ?_
  rotate_left
  · intro u hSu
    (go_simp) <;> (with_reducible rfl)
  change wpAnyH _ _ _ _ _ _ _ (Act.put _ (some 153) _) _
  simp only [Act.put, List.setIfInBounds_toArray, List.set_cons_zero, List.set_cons_succ]
  refine wpAnyH_take (i := 73) (v := kv zeroK) rfl (by kernel_rfl) (by kernel_rfl) (by kernel_rfl) (fun _ _ _ h => h) (yieldsIf_build_k0 (by rfl) rfl) hHeld ?_
  change wpAnyH _ _ _ _ _ _ _ (Act.put _ (some 155) _) _
  simp only [Act.put, List.setIfInBounds_toArray, List.set_cons_zero, List.set_cons_succ]
  refine wpAnyH_ready (rs := [72]) (by kernel_rfl) (by simp) ?_
  refine AllReadyH.cons rfl (fun K hK => ?_) AllReadyH.nil
  go_simp
  go_at_call 12
  refine (CKA.out _).mono ?_
  rintro e x8 ⟨rfl, hbx8⟩
  have Bx8 : Hid (Below U9.heap.size U9 x8) := hHeld.trans (hbx8.mono hHeld.size)
  clear hbx8
  refine hK.out _ _ ?_ (fun hHeld2 => ?_)
  · exact Bx8.out
  clear hK K hHeld
  have hHeld := hHeld2
  clear hHeld2
  refine wpAnyH_ready (rs := [74]) (by kernel_rfl) (by simp) ?_
  refine AllReadyH.cons rfl (fun K hK => ?_) AllReadyH.nil
  go_simp
  go_at_call 11
  refine (CA.out _ _).mono ?_
  rintro e x9 ⟨rfl, hbx9⟩
  have Bx9 : Hid (Below U9.heap.size U9 x9) := hHeld.trans (hbx9.mono hHeld.size)
  clear hbx9
  refine hK.out _ _ ?_ (fun hHeld2 => ?_)
  · exact Bx9.out
  clear hK K hHeld
  have hHeld := hHeld2
  clear hHeld2
  refine wpAnyH_ready (rs := [75]) (by kernel_rfl) (by simp) ?_
  refine AllReadyH.cons rfl (fun K hK => ?_) AllReadyH.nil
  go_simp
  go_at_call 13
  refine (CE.out _ _ (HU.out _ hHeld).kn.stx).mono ?_
  rintro e y1 ⟨ea, ec, rfl, hby⟩
  have By1 : Hid (Below U9.heap.size U9 y1) := hHeld.trans (hby.mono hHeld.size)
  clear hby
  refine hK.out _ _ ?_ (fun hHeld2 => ?_)
  · exact By1.out
  clear hK K hHeld
  have hHeld := hHeld2
  clear hHeld2
  refine wpAnyH_take (i := 76) (v := ?_) rfl (by kernel_rfl) (by kernel_rfl) (by kernel_rfl) (fun _ _ _ h => h) (Or.inl ⟨by rfl, ?_⟩) hHeld ?_
  rotate_left
  · intro u hSu
    (go_simp) <;> (with_reducible rfl)
  change wpAnyH _ _ _ _ _ _ _ (Act.put _ (some 158) _) _
  simp only [Act.put, List.setIfInBounds_toArray, List.set_cons_zero, List.set_cons_succ]
  refine wpAnyH_take (i := 77) (v := ?_) rfl (by kernel_rfl) (by kernel_rfl) (by kernel_rfl) (fun _ _ _ h => h) (Or.inl ⟨by rfl, ?_⟩) hHeld ?_
  rotate_left
  · intro u hSu
    (go_simp) <;> (with_reducible rfl)
  change wpAnyH _ _ _ _ _ _ _ (Act.put _ (some 159) _) _
  simp only [Act.put, List.setIfInBounds_toArray, List.set_cons_zero, List.set_cons_succ]
  refine wpAnyH_take (i := 78) (v := ?_) rfl (by kernel_rfl) (by kernel_rfl) (by kernel_rfl) (fun _ _ _ h => h) (Or.inl ⟨by rfl, ?_⟩) hHeld ?_
  rotate_left
  · intro u hSu
    (go_simp) <;> (with_reducible rfl)
  change wpAnyH _ _ _ _ _ _ _ (Act.put _ (some 160) _) _
  simp only [Act.put, List.setIfInBounds_toArray, List.set_cons_zero, List.set_cons_succ]
  refine wpAnyH_take (i := 79) (v := ?_) rfl (by kernel_rfl) (by kernel_rfl) (by kernel_rfl) (fun _ _ _ h => h) (Or.inl ⟨by rfl, ?_⟩) hHeld ?_
  rotate_left
  · intro u hSu
    (go_simp) <;> (with_reducible rfl)
  change wpAnyH _ _ _ _ _ _ _ (Act.put _ (some 0) _) _
  simp only [Act.put, List.setIfInBounds_toArray, List.set_cons_zero]
  refine wpAnyH_done (by kernel_rfl) ?_ _
  refine NoPanic.normal ?_
  go_wp2
  go_ret
  exact ⟨rfl, (HU.out _ By1.out).kn.below⟩

set_option maxRecDepth 100000 in
theorem lifted (os : Os) (started : os.Started) (H : Type) (enc : TypeId × Value → H) :
    ReturnsInHanded {} Try.checked os 3 .any (Rows.storeKnownSpec.pre6 enc Try.prog Try.f3 Rows.storeKnownRow.domain false) (Rows.storeKnownSpec.post enc Try.prog Try.f3 false true false false) := by
  refine returnsInHanded_of_change (C := Try.checked) own started (by kernel_rfl) Try.func3
    (ChangeSpec.witness6 (enc := enc) (C := Try.checked) false ⟨#[], #[], []⟩ 8 (by kernel_rfl) (by kernel_rfl) (by kernel_rfl) (by kernel_rfl)) ?_
  intro W base args ds gs before hval0 hW hcnd _
  have hval : ∀ (j : Nat) t v, Try.f3.params[j]? = some t → args[j]? = some v → Value.okWide Try.prog W .any base t v := hval0
  have hW' := hW
  obtain ⟨p, q, hA0, hV, rfl, hfz, hnd⟩ := hW
  have hA : DataW.TrodAll enc Try.prog W 0 (fun _ => true) true Try.f3.params.toList args.toList ds p := hA0
  rw [Try.params3] at hA hval
  obtain ⟨hargs, rfl, rfl⟩ := trodAll_nil hA
  obtain rfl : args = #[] := by cases args; simp_all
  obtain ⟨rfl, rfl⟩ := trodVars_none hV
  clear hA0 hval0
  refine (walk  W ).mono fun e W' ⟨he, bel⟩ => ?_
  subst he
  exact ⟨_, rfl, _, _, _, [], _, [], hW', trodAll_mk1 (shut_bool Try.underlying4 _), trodAll_mk0, rfl, bel.frame _, fun h => by cases h⟩

theorem over : Rows.storeKnownRow.holds Try.pinned (OpenSpec.ofChange Rows.storeKnownSpec) :=
  OpenClaim.holds_of_wide 3 Try.f3 rfl rfl rfl rfl rfl rfl rfl ⟨rfl, rfl, rfl, rfl, rfl⟩ rfl rfl rfl rfl rfl (by kernel_rfl) Try.func3 (by kernel_rfl)
    (of_decide_eq_true (by kernel_rfl)) (by unfold Func.isWrapper; first | (rw [if_pos (by decide +kernel)]; kernel_rfl) | (rw [if_neg (by decide +kernel)]; exact ⟨rfl, rfl⟩))
    (fun os started H enc _ => lifted os started H enc)
theorem proved : Rows.StoreKnownSaid := over
#print axioms proved
end Go.Proofs.Ytfaojmognbgnfaa.storeKnown
namespace Go.Proofs.Ytfaojmognbgnfaa
/-- StoreKnown, as given. -/
theorem storeKnown_holds : Rows.StoreKnownSaid := storeKnown.proved
end Go.Proofs.Ytfaojmognbgnfaa
