/-
  WalKnown: what chapter 9 says at the ends is answered so.
-/
import Derived.Test.YtlfmhdljldbjmaaRows
import Derived.Test.YtlfmhdljldbjmaaWalMore2
import Derived.WalkKit
import Derived.ProofKit
import Derived.OpenShut
import Derived.ShutString
import Derived.ChangeOld
import Derived.Below
import Derived.Carry
import Derived.Deep.QuietTactic
import Derived.BigQuiet
namespace Go.Proofs.Ytlfmhdljldbjmaa.walKnown
open Go.ChangeShapes Go.WideShapes Go.ChangeAt Go.RowKit
open Go.ChangeMaps (open_string shut_string)
set_option linter.unusedVariables false

theorem own : ownKnob Try.prog.godebug = none := by kernel_rfl
theorem laidOut : laidOutB Try.prog = true := by kernel_rfl
/-- A slice of integers that came in: nil, or a row of 'cap' cells, of which the first 'len' are its elements. -/
def IsRow (k : IntKind) (w : World) (a : Option Addr) (len cap : Nat) (zs : List Int) : Prop :=
  (a = none ∧ len = 0 ∧ cap = 0 ∧ zs = []) ∨
  ∃ x, a = some x ∧ len ≤ cap ∧ cap ≤ maxLen ∧ zs.length = cap ∧ (∀ i, i < zs.length → w.cell? (x.add i) = some (.int k (zs.getD i 0))) ∧ ∀ n ∈ zs, (Lit.int k n).wf = true

set_option maxHeartbeats 4000000 in
set_option maxRecDepth 8000 in
theorem walk  (w : World)  :
    Calls Try.prog 3 #[] w fun e w' => e = .returned (.bool true) ∧ Below w.heap.size w w' := by
  have C1 : Hid (∀ u, Below w.heap.size w u → Calls Try.prog 10 #[.int .i64 65536] u fun e w' => ∃ b X, e = .returned (.tuple #[.pointer (some ⟨b, 0, none⟩), .int .i64 0]) ∧ DT w w' b (newDS 65536) X) := fun u hb => lt_new w u hb 65536 (by omega) (by omega)
  have CB : Hid (∀ u b X, DT w u b (newDS 65536) X → Calls Try.prog 11 #[.pointer (some ⟨b, 0, none⟩), .string ⟨#[]⟩] u fun e w' => e = .returned (.tuple #[.pointer none, .int .i64 1]) ∧ ∃ X', DT w w' b (newDS 65536) X') := fun u b X h => lt_openbad w u b _ X [] h rfl (by decide) (fun r hr => by simp at hr) (by simp)
  have C2 : Hid (∀ u b X, DT w u b (newDS 65536) X → Calls Try.prog 11 #[.pointer (some ⟨b, 0, none⟩), .string ⟨#[108, 111, 103]⟩] u fun e w' => ∃ p X' Z, e = .returned (.tuple #[.pointer (some ⟨p, 0, none⟩), .int .i64 0]) ∧ LT w w' p b (newDS 65536) ⟨[108, 111, 103], 1, false, [], 0⟩ X' Z) := fun u b X h => lt_open w u b _ X [108, 111, 103] h rfl may_log (by simp [newDS, sizeN])
  have hcv := fun (w : World) (C : Array Value) (n c : Nat) => Lib.run_convert_bytes_const (P := Try.prog) w 31 5 C n c Try.underlying31 Try.underlying5
  have hcv2 : ∀ (u : World) (o : Obj) (C : Array Value) (n c : Nat), (convert 31 31 (.slice (some ⟨u.heap.size + 1, 0, none⟩) n c)).run Try.prog ((u.alloc o).alloc (.cells C 5)) = .ok (.slice (some ⟨u.heap.size + 1, 0, none⟩) n c) ((u.alloc o).alloc (.cells C 5 (C.size, C.size + 1))) := fun u o C n c => by
    have h := hcv (u.alloc o) C n c
    rw [show (u.alloc o).heap.size = u.heap.size + 1 by simp] at h
    exact h
  obtain ⟨S0, hS0⟩ : ∃ S, S = newDS 65536 := ⟨_, rfl⟩
  obtain ⟨l0, hl0⟩ : ∃ l, l = (⟨[108, 111, 103], 1, false, [], 0⟩ : LS) := ⟨_, rfl⟩
  obtain ⟨S1, hS1⟩ : ∃ S, S = oneF 65536 1 [108, 111, 103] [] 0 := ⟨_, rfl⟩
  obtain ⟨S2, hS2⟩ : ∃ S, S = oneF 65536 1 [108, 111, 103] (frames [[112], [113]]) 0 := ⟨_, rfl⟩
  obtain ⟨l2, hl2⟩ : ∃ l, l = (⟨[108, 111, 103], 1, false, [[112], [113]], 0⟩ : LS) := ⟨_, rfl⟩
  obtain ⟨S3, hS3⟩ : ∃ S, S = oneF 65536 1 [108, 111, 103] (frames [[114]]) 0 := ⟨_, rfl⟩
  obtain ⟨l3, hl3⟩ : ∃ l, l = (⟨[108, 111, 103], 1, false, [[114]], 0⟩ : LS) := ⟨_, rfl⟩
  obtain ⟨S4, hS4⟩ : ∃ S, S = S3.crash 99 0 := ⟨_, rfl⟩
  obtain ⟨S5, hS5⟩ : ∃ S, S = S4.on := ⟨_, rfl⟩
  obtain ⟨S6, hS6⟩ : ∃ S, S = oneF 65536 2 [108, 111, 103] (frames [[114]]) (frames [[114]]).length := ⟨_, rfl⟩
  obtain ⟨l6, hl6⟩ : ∃ l, l = (⟨[108, 111, 103], 2, false, [[114]], 1⟩ : LS) := ⟨_, rfl⟩
  have f13 : (frames [[(114 : Int)]]).length = 13 := by rw [frames_size]; simp
  have f26 : (frames [[(112 : Int)], [113]]).length = 26 := by rw [frames_size]; simp
  have e5 : S5 = oneF 65536 2 [108, 111, 103] (frames [[114]]) (frames [[114]]).length := by
    rw [hS5, hS4, hS3, crash_one]
    rw [show (99 : Int).toNat = 99 from rfl, crash_all _ (by rw [f13]; omega)]
    rfl
  have z0 : sizeN S0.fs ≤ 1048576 := by rw [hS0]; simp [newDS, sizeN]
  have z1 : sizeN S1.fs ≤ 1048576 := by rw [hS1]; simp [oneF, sizeN]
  have z2 : sizeN S2.fs ≤ 1048576 := by rw [hS2]; simp only [oneF, sizeN]; simp [f26]
  have z3 : sizeN S3.fs ≤ 1048576 := by rw [hS3]; simp only [oneF, sizeN]; simp [f13]
  have z5 : sizeN S5.fs ≤ 1048576 := by rw [e5]; simp only [oneF, sizeN]; simp [f13]
  have CA : Hid (∀ u p b X Z, LT w u p b S0 l0 X Z → Calls Try.prog 12 #[.pointer (some ⟨p, 0, none⟩), .slice (some ⟨u.heap.size + 2, 0, none⟩) 2 2] (((u.alloc (.cells #[.int .u8 120] 5 (1, 2))).alloc (.cells (zeros 8001) 5)).alloc (.cells #[.slice (some ⟨u.heap.size, 0, none⟩) 1 1, .slice (some ⟨u.heap.size + 1, 0, none⟩) 8001 8001] 31)) fun e w' => ∃ X' Z', e = .returned (.int .i64 2) ∧ LT w w' p b S0 l0 X' Z') := fun u p b X Z h => lt_add w _ p b S0 l0 X Z _ 2 2 [[120], List.replicate 8001 0] (three_past h _ _ _) rfl (fun u' _ hk => rows_big u u' X Z _ _ _ h.pd.disk.lt h.pd.log.lt hk) (by omega) z0 (by rw [hS0]; show (0 : Int) ≤ 65536 ∧ (65536 : Int) ≤ 1048576; omega) (by rw [hS0]; show 1 ≤ 1000; omega) (by rw [hl0]; show 2 ≤ 1000000; omega) S0 l0 2 (by
    rw [hS0, hl0]
    unfold addL
    rw [if_neg (by rw [off_new]; simp), if_pos (by
      rw [List.all_cons, List.all_cons, List.length_replicate]
      rfl)])
  have CL0 : Hid (∀ u p b S X Z, LT w u p b S l0 X Z → Calls Try.prog 13 #[.pointer (some ⟨p, 0, none⟩)] u fun e w' => e = .returned (.int .i64 0) ∧ LT w w' p b S l0 X Z) := fun u p b S X Z h => (lt_len w u p b S l0 X Z h).mono (by rintro e w' ⟨rfl, a1, a2⟩; rw [hl0] at a1 ⊢; exact ⟨rfl, a1⟩)
  have CT : Hid (∀ u p b X Z, LT w u p b S0 l0 X Z → Calls Try.prog 14 #[.pointer (some ⟨p, 0, none⟩), .int .i64 0] u fun e w' => ∃ c X' Z', e = .returned (.tuple #[.slice none 0 c, .int .i64 4]) ∧ LT w w' p b S0 l0 X' Z') := fun u p b X Z h => (lt_atout w u p b S0 l0 X Z 0 h (by rw [hl0]; exact .inr (.inr (by simp)))).mono (by
    have ea : (atL S0 l0 0).1 = 4 := by rw [hS0, hl0]; rfl
    rintro e w' ⟨c, X', Z', rfl, a1⟩
    rw [ea]
    exact ⟨c, X', Z', rfl, a1⟩)
  have CE : Hid (∀ u p b X Z, LT w u p b S0 l0 X Z → Calls Try.prog 12 #[.pointer (some ⟨p, 0, none⟩), .slice none 0 0] u fun e w' => ∃ X' Z', e = .returned (.int .i64 0) ∧ LT w w' p b S1 l0 X' Z') := fun u p b X Z h => lt_add w _ p b S0 l0 X Z _ 0 0 [] h rfl (fun u' _ _ => rows_nil u') (by omega) z0 (by rw [hS0]; show (0 : Int) ≤ 65536 ∧ (65536 : Int) ≤ 1048576; omega) (by rw [hS0]; show 1 ≤ 1000; omega) (by rw [hl0]; show 0 ≤ 1000000; omega) S1 l0 0 (by rw [hS0, hl0, hS1]; exact addL_new 65536 [108, 111, 103] [] may_log (fun r hr => by simp at hr) (by simp [frames]))
  have CQ : Hid (∀ u p b X Z, LT w u p b S1 l0 X Z → Calls Try.prog 12 #[.pointer (some ⟨p, 0, none⟩), .slice (some ⟨u.heap.size + 2, 0, none⟩) 2 2] (((u.alloc (.cells #[.int .u8 112] 5 (1, 2))).alloc (.cells #[.int .u8 113] 5 (1, 2))).alloc (.cells #[.slice (some ⟨u.heap.size, 0, none⟩) 1 1, .slice (some ⟨u.heap.size + 1, 0, none⟩) 1 1] 31)) fun e w' => ∃ X' Z', e = .returned (.int .i64 0) ∧ LT w w' p b S2 l2 X' Z') := fun u p b X Z h => lt_add w _ p b S1 l0 X Z _ 2 2 [[112], [113]] (three_past h _ _ _) rfl (fun u' _ hk => rows_pq u u' 112 113 (by omega) (by omega) X Z _ _ _ h.pd.disk.lt h.pd.log.lt hk) (by omega) z1 (by rw [hS1]; show (0 : Int) ≤ 65536 ∧ (65536 : Int) ≤ 1048576; omega) (by rw [hS1]; show 2 ≤ 1000; omega) (by rw [hl0]; show 2 ≤ 1000000; omega) S2 l2 0 (by rw [hS1, hl0, hS2, hl2]; exact addL_one 65536 1 [108, 111, 103] [] [[112], [113]] 0 0 may_log (fun r hr => by simp at hr; rcases hr with rfl | rfl <;> simp) (by rw [f26]; simp [frames]))
  have CL2 : Hid (∀ u p b S X Z, LT w u p b S l2 X Z → Calls Try.prog 13 #[.pointer (some ⟨p, 0, none⟩)] u fun e w' => e = .returned (.int .i64 2) ∧ LT w w' p b S l2 X Z) := fun u p b S X Z h => (lt_len w u p b S l2 X Z h).mono (by rintro e w' ⟨rfl, a1, a2⟩; rw [hl2] at a1 ⊢; exact ⟨rfl, a1⟩)
  have CC : Hid (∀ u p b X Z, LT w u p b S2 l2 X Z → Calls Try.prog 15 #[.pointer (some ⟨p, 0, none⟩)] u fun e w' => ∃ X' Z', e = .returned (.int .i64 0) ∧ LT w w' p b S1 l0 X' Z') := fun u p b X Z h => lt_clear w u p b S2 l2 X Z h z2 S1 l0 0 (by rw [hS2, hl2, hS1, hl0]; exact clearL_one 65536 1 [108, 111, 103] _ _ _ _ may_log)
  have CR : Hid (∀ u p b X Z, LT w u p b S1 l0 X Z → Calls Try.prog 12 #[.pointer (some ⟨p, 0, none⟩), .slice (some ⟨u.heap.size + 1, 0, none⟩) 1 1] ((u.alloc (.cells #[.int .u8 114] 5 (1, 2))).alloc (.cells #[.slice (some ⟨u.heap.size, 0, none⟩) 1 1] 31)) fun e w' => ∃ X' Z', e = .returned (.int .i64 0) ∧ LT w w' p b S3 l3 X' Z') := fun u p b X Z h => lt_add w _ p b S1 l0 X Z _ 1 1 [[114]] ((h.past ((Below.refl _ _).alloc (Nat.le_refl _) _)).past ((Below.refl _ _).alloc (Nat.le_refl _) _)) rfl (fun u' _ hk => rows_made u u' 114 (by omega) X Z h.pd.disk.lt h.pd.log.lt hk) (by omega) z1 (by rw [hS1]; show (0 : Int) ≤ 65536 ∧ (65536 : Int) ≤ 1048576; omega) (by rw [hS1]; show 2 ≤ 1000; omega) (by rw [hl0]; show 1 ≤ 1000000; omega) S3 l3 0 (by rw [hS1, hl0, hS3, hl3]; exact addL_one 65536 1 [108, 111, 103] [] [[114]] 0 0 may_log (fun r hr => by simp at hr; subst hr; simp) (by rw [f13]; simp [frames]))
  have hlv : l3.lives ≤ S3.lives ∧ l3.lives ≤ S4.lives ∧ S4.lives = 1 ∧ S4.off = true ∧ l3.lives = 1 ∧ S5.lives = 2 ∧ S5.off = false ∧ S5.room = 65536 ∧ S5.fs.length = 1 := by
    rw [e5, hS4, hS3, hl3]
    exact ⟨Int.le_refl _, Int.le_refl _, rfl, rfl, rfl, rfl, rfl, rfl, rfl⟩
  obtain ⟨v1, v2, v3, v4, v5, v6, v7, v8, v9⟩ := hlv
  have CX : Hid (∀ u p b X Z, LT w u p b S3 l3 X Z → Calls Try.prog 16 #[.pointer (some ⟨b, 0, none⟩), .int .i64 99, .int .u8 0] u fun e w' => e = .returned (.tuple #[]) ∧ ∃ X', LT w w' p b S4 l3 X' Z) := fun u p b X Z h => by rw [hS4]; exact lt_crashL w u p b S3 l3 X Z 99 0 h v1 z3 (by omega) (by omega) (by omega)
  have CY : Hid (∀ u p b X Z, LT w u p b S4 l3 X Z → Calls Try.prog 17 #[.pointer (some ⟨p, 0, none⟩)] u fun e w' => ∃ X' Z', e = .returned (.int .i64 7) ∧ LT w w' p b S4 l3 X' Z') := fun u p b X Z h => lt_sync w u p b S4 l3 X Z h S4 l3 7 (by unfold syncL; rw [if_pos (by simp [offN, v4])])
  have CF : Hid (∀ u p b X Z, LT w u p b S4 l3 X Z → Calls Try.prog 11 #[.pointer (some ⟨b, 0, none⟩), .string ⟨#[108, 111, 103]⟩] u fun e w' => e = .returned (.tuple #[.pointer none, .int .i64 7]) ∧ ∃ X', LT w w' p b S4 l3 X' Z) := fun u p b X Z h => lt_openoff w u p b S4 l3 X Z [108, 111, 103] h v2 v4 (fun r hr => by simp at hr; omega) (by simp)
  have CO : Hid (∀ u p b X Z, LT w u p b S4 l3 X Z → Calls Try.prog 18 #[.pointer (some ⟨b, 0, none⟩)] u fun e w' => e = .returned (.tuple #[]) ∧ ∃ X', LT w w' p b S5 l3 X' Z) := fun u p b X Z h => by rw [hS5]; exact lt_onL w u p b S4 l3 X Z h v2 (by rw [v3]; omega) (by rw [v3]; omega)
  have CN : Hid (∀ u p b X Z, LT w u p b S5 l3 X Z → Calls Try.prog 12 #[.pointer (some ⟨p, 0, none⟩), .slice (some ⟨u.heap.size, 0, none⟩) 1 1] (u.alloc (.cells #[.slice none 0 0] 31)) fun e w' => ∃ X' Z', e = .returned (.int .i64 7) ∧ LT w w' p b S5 l3 X' Z') := fun u p b X Z h => lt_add1 w u p b S5 l3 X Z none 0 0 [] h rfl (fun u' _ => ⟨fun y hy => by simp at hy, .inl rfl⟩) (fun _ => rfl) (Nat.le_refl _) z5 (by rw [v8]; omega) (by rw [v9]; omega) (by rw [hl3]; show 2 ≤ 1000000; omega) S5 l3 7 (by unfold addL; rw [if_pos (by simp [offN, v5, v6])])
  have CP : Hid (∀ u p b X Z, LT w u p b S5 l3 X Z → Calls Try.prog 11 #[.pointer (some ⟨b, 0, none⟩), .string ⟨#[108, 111, 103]⟩] u fun e w' => ∃ p X' Z, e = .returned (.tuple #[.pointer (some ⟨p, 0, none⟩), .int .i64 0]) ∧ LT w w' p b S6 l6 X' Z) := fun u p b X Z h => by
    have hc := lt_open w u b S5 X [108, 111, 103] h.dt v7 may_log z5
    obtain ⟨o1, o2⟩ := open_frames 65536 2 [108, 111, 103] [[114]] (frames [[114]]).length (fun r hr => by simp at hr; subst hr; simp)
    rw [e5] at hc
    rw [o1, o2] at hc
    rw [hS6, hl6]
    exact hc
  have CL6 : Hid (∀ u p b X Z, LT w u p b S6 l6 X Z → Calls Try.prog 13 #[.pointer (some ⟨p, 0, none⟩)] u fun e w' => e = .returned (.int .i64 1) ∧ LT w w' p b S6 l6 X Z) := fun u p b X Z h => (lt_len w u p b S6 l6 X Z h).mono (by rintro e w' ⟨rfl, a1, a2⟩; rw [hl6] at a1 ⊢; exact ⟨rfl, a1⟩)
  have CS6 : Hid (∀ u p b X Z, LT w u p b S6 l6 X Z → Calls Try.prog 19 #[.pointer (some ⟨p, 0, none⟩)] u fun e w' => e = .returned (.int .i64 1) ∧ LT w w' p b S6 l6 X Z) := fun u p b X Z h => (lt_safe w u p b S6 l6 X Z h).mono (by rintro e w' ⟨rfl, a1, a2⟩; rw [hl6] at a1 ⊢; exact ⟨rfl, a1⟩)
  rw [← hS0, ← hl0] at C2
  rw [← hS0] at C1 CB
  obtain ⟨Q, hQ⟩ : ∃ Q, Q = zeros 8001 := ⟨_, rfl⟩
  rw [← hQ] at CA
  have hmk : ∀ u : World, (Instr.makeSlice 31 (.int .i64 8001) (.int .i64 8001)).run Try.prog u = .ok (.slice (some ⟨u.heap.size, 0, none⟩) 8001 8001) (u.alloc (.cells Q 5)) := fun u => by rw [hQ]; exact run_bytes u 8001 (by omega)
  clear hS0 hl0 hS1 hS2 hl2 hS3 hl3 hS4 hS5 hS6 hl6 f13 f26 e5 z0 z1 z2 z3 z5 v1 v2 v3 v4 v5 v6 v7 v8 v9 hQ
  go_enter Try.func3, Try.ntmps3
  go_wp2_with (first
    | (go_at_call 19; refine (CS6.out _ _ _ _ _ M20.out).mono ?_; rintro e w21 ⟨rfl, h1⟩; have M21 : Hid (LT w w21 p9 b S6 l6 X19 Z19) := h1; clear h1)
    | (go_at_call 13; have hgo := M19.out; clear hgo; refine (CL6.out _ _ _ _ _ M19.out).mono ?_; rintro e w20 ⟨rfl, h1⟩; have M20 : Hid (LT w w20 p9 b S6 l6 X19 Z19) := h1; clear h1)
    | (go_at_call 11; have hgo := L18.out; clear hgo; refine (CP.out _ _ _ _ _ L18.out).mono ?_; rintro e w19 ⟨p9, X19, Z19, rfl, h1⟩; have M19 : Hid (LT w w19 p9 b S6 l6 X19 Z19) := h1; clear h1)
    | (go_at_call 12; have hgo := L17.out; clear hgo; refine (CN.out _ _ _ _ _ L17.out).mono ?_; rintro e w18 ⟨X18, Z18, rfl, h1⟩; have L18 : Hid (LT w w18 p b S5 l3 X18 Z18) := h1; clear h1)
    | (go_at_call 18; refine (CO.out _ _ _ _ _ L16.out).mono ?_; rintro e w17 ⟨rfl, X17, h1⟩; have L17 : Hid (LT w w17 p b S5 l3 X17 Z15) := h1; clear h1)
    | (go_at_call 11; have hgo := L15.out; clear hgo; refine (CF.out _ _ _ _ _ L15.out).mono ?_; rintro e w16 ⟨rfl, X16, h1⟩; have L16 : Hid (LT w w16 p b S4 l3 X16 Z15) := h1; clear h1)
    | (go_at_call 17; refine (CY.out _ _ _ _ _ L14.out).mono ?_; rintro e w15 ⟨X15, Z15, rfl, h1⟩; have L15 : Hid (LT w w15 p b S4 l3 X15 Z15) := h1; clear h1)
    | (go_at_call 16; refine (CX.out _ _ _ _ _ L13.out).mono ?_; rintro e w14 ⟨rfl, X14, h1⟩; have L14 : Hid (LT w w14 p b S4 l3 X14 Z13) := h1; clear h1)
    | (go_at_call 12; have hgo := L12.out; clear hgo; refine (CR.out _ _ _ _ _ L12.out).mono ?_; rintro e w13 ⟨X13, Z13, rfl, h1⟩; have L13 : Hid (LT w w13 p b S3 l3 X13 Z13) := h1; clear h1)
    | (go_at_call 13; have hgo := L11.out; clear hgo; refine (CL0.out _ _ _ _ _ _ L11.out).mono ?_; rintro e w12 ⟨rfl, h1⟩; have L12 : Hid (LT w w12 p b S1 l0 X11 Z11) := h1; clear h1)
    | (go_at_call 15; refine (CC.out _ _ _ _ _ L10.out).mono ?_; rintro e w11 ⟨X11, Z11, rfl, h1⟩; have L11 : Hid (LT w w11 p b S1 l0 X11 Z11) := h1; clear h1)
    | (go_at_call 13; have hgo := L9.out; clear hgo; refine (CL2.out _ _ _ _ _ _ L9.out).mono ?_; rintro e w10 ⟨rfl, h1⟩; have L10 : Hid (LT w w10 p b S2 l2 X9 Z9) := h1; clear h1)
    | (go_at_call 12; have hgo := L8.out; clear hgo; refine (CQ.out _ _ _ _ _ L8.out).mono ?_; rintro e w9 ⟨X9, Z9, rfl, h1⟩; have L9 : Hid (LT w w9 p b S2 l2 X9 Z9) := h1; clear h1)
    | (go_at_call 12; have hgo := L7.out; clear hgo; refine (CE.out _ _ _ _ _ L7.out).mono ?_; rintro e w8 ⟨X8, Z8, rfl, h1⟩; have L8 : Hid (LT w w8 p b S1 l0 X8 Z8) := h1; clear h1)
    | (go_at_call 14; refine (CT.out _ _ _ _ _ L6.out).mono ?_; rintro e w7 ⟨c7, X7, Z7, rfl, h1⟩; have L7 : Hid (LT w w7 p b S0 l0 X7 Z7) := h1; clear h1)
    | (go_at_call 13; refine (CL0.out _ _ _ _ _ _ L5.out).mono ?_; rintro e w6 ⟨rfl, h1⟩; have L6 : Hid (LT w w6 p b S0 l0 X5 Z5) := h1; clear h1)
    | (go_at_call 12; refine (CA.out _ _ _ _ _ L4.out).mono ?_; rintro e w5 ⟨X5, Z5, rfl, h1⟩; have L5 : Hid (LT w w5 p b S0 l0 X5 Z5) := h1; clear h1)
    | (go_at_call 11; have hgo := D3.out; clear hgo; refine (C2.out _ _ _ D3.out).mono ?_; rintro e w4 ⟨p, X4, Z4, rfl, h1⟩; have L4 : Hid (LT w w4 p b S0 l0 X4 Z4) := h1; clear h1)
    | (go_at_call 11; refine (CB.out _ _ _ D2.out).mono ?_; rintro e w3 ⟨rfl, X3, h1⟩; have D3 : Hid (DT w w3 b S0 X3) := h1; clear h1)
    | (go_at_call 10; refine (C1.out _ BA.out).mono ?_; rintro e w2 ⟨b, X2, rfl, h1⟩; have D2 : Hid (DT w w2 b S0 X2) := h1; clear h1)
    | (go_at_call 9; refine (awake_any _).mono ?_; rintro e wa ⟨rfl, hb⟩; have BA : Hid (Below w.heap.size w wa) := hb; clear hb))
  go_ret
  exact ⟨rfl, M21.out.below⟩

set_option maxRecDepth 100000 in
theorem lifted (os : Os) (started : os.Started) (H : Type) (enc : TypeId × Value → H) :
    ReturnsInHanded {} Try.checked os 3 .any (Rows.walKnownSpec.pre6 enc Try.prog Try.f3 Rows.walKnownRow.domain false) (Rows.walKnownSpec.post enc Try.prog Try.f3 false true false false) := by
  refine returnsInHanded_of_change (C := Try.checked) own started (by kernel_rfl) Try.func3
    (ChangeSpec.witness6 (enc := enc) (C := Try.checked) false ⟨#[], #[], []⟩ 8 (by kernel_rfl) (by kernel_rfl) (by kernel_rfl) (by kernel_rfl)) ?_
  intro W base args ds gs before hval0 hW hcnd _
  have hval : ∀ (j : Nat) t v, Try.f3.params[j]? = some t → args[j]? = some v → Value.okWide Try.prog W .any base t v := hval0
  have hW' := hW
  obtain ⟨p, q, hA0, hV, rfl, hfz, hnd⟩ := hW
  have hA : DataW.TrodAll enc Try.prog W 0 (fun _ => true) true Try.f3.params.toList args.toList ds p := hA0
  rw [Try.params3] at hA hval
  obtain ⟨hargs, rfl, rfl⟩ := trodAll_nil hA
  obtain rfl : args = #[] := by cases args; simp_all
  obtain ⟨rfl, rfl⟩ := trodVars_none hV
  clear hA0 hval0
  refine (walk  W ).mono fun e W' ⟨he, bel⟩ => ?_
  subst he
  exact ⟨_, rfl, _, _, _, [], _, [], hW', trodAll_mk1 (shut_bool Try.underlying4 _), trodAll_mk0, rfl, bel.frame _, fun h => by cases h⟩

theorem over : Rows.walKnownRow.holds Try.pinned (OpenSpec.ofChange Rows.walKnownSpec) :=
  OpenClaim.holds_of_wide 3 Try.f3 rfl rfl rfl rfl rfl rfl rfl ⟨rfl, rfl, rfl, rfl, rfl⟩ rfl rfl rfl rfl rfl (by kernel_rfl) Try.func3 (by kernel_rfl)
    (of_decide_eq_true (by kernel_rfl)) (by unfold Func.isWrapper; first | (rw [if_pos (by decide +kernel)]; kernel_rfl) | (rw [if_neg (by decide +kernel)]; exact ⟨rfl, rfl⟩))
    (fun os started H enc _ => lifted os started H enc)
theorem proved : Rows.WalKnownSaid := over
#print axioms proved
end Go.Proofs.Ytlfmhdljldbjmaa.walKnown
namespace Go.Proofs.Ytlfmhdljldbjmaa
/-- WalKnown, as given. -/
theorem walKnown_holds : Rows.WalKnownSaid := walKnown.proved
end Go.Proofs.Ytlfmhdljldbjmaa
