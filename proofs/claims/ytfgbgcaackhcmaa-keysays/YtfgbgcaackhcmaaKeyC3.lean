/-
  What package key answers: Of.
-/
import Derived.Test.YtfgbgcaackhcmaaKeyC2
import Derived.Lib.LazyBuf
namespace Go.Proofs.Ytfgbgcaackhcmaa
open Go.RowKit
set_option linter.unusedVariables false

theorem sidx_any (s : List Int) (hb : ∀ z ∈ s, 0 ≤ z ∧ z ≤ 255) (w : World) :
    Calls Try.prog 25 #[.string (strOfNums s), .int .u8 0] w fun e w' => e = .returned (.int .i64 (if (txK s).length < s.length then ((txK s).length : Int) else -1)) ∧ w' = w := by
  have hx := fun u => Lib.run_indexByteString (P := Try.prog) (strOfNums s) 0 u
  have hd : (strOfNums s).data.toList = Lib.bytesOf s := by
    have := Lib.strOfNums_toList s
    rwa [Lib.toList_data] at this
  rw [hd, show (0 : Int).toNat.toUInt8 = 0 from rfl, idx_zero s hb] at hx
  generalize (if (txK s).length < s.length then ((txK s).length : Int) else -1) = Z at hx ⊢
  generalize strOfNums s = S at hx
  clear hd hb
  have C1 : ∀ u, Calls Try.prog 31 #[.string S, .int .u8 0] u fun e w' => e = .returned (.int .i64 Z) ∧ w' = u := fun u => by
    have hx := hx u
    go_enter Try.func31, Try.ntmps31
    go_wp2
    rw [run_callFunc_extern Try.func37 (by kernel_rfl) (by kernel_rfl) (by kernel_rfl) (e := Extern.BytealgIndexByte.indexByte) (by kernel_rfl), hx]
    simp only [Result.andThen]
    rw [Oper.upon_value]
    go_wp2
    go_ret
    exact ⟨rfl, rfl⟩
  clear hx
  go_enter Try.func25, Try.ntmps25
  go_wp2_with (go_at_call 31; refine (C1 _).mono ?_; rintro e w1 ⟨rfl, rfl⟩)
  go_ret
  exact ⟨rfl, rfl⟩
theorem tx_all {s : List Int} : (∀ z ∈ s, z ≠ 0) ↔ ¬ (txK s).length < s.length := by
  constructor
  · intro h
    have : txK s = s := by
      have := txK_app (s := s) (r := []) h (by simp)
      simpa using this
    rw [this]; omega
  · intro h z hz
    have hle := txK_le s
    have e : txK s = s := by
      have h1 := txK_split s
      have h2 : s.drop (txK s).length = [] := List.drop_of_length_le (by omega)
      rw [h2, List.append_nil] at h1
      exact h1.symm
    exact txK_none s z (by rw [e]; exact hz)
theorem str_cells (s : List Int) (hb : ∀ z ∈ s, 0 ≤ z ∧ z ≤ 255) : ((strOfNums s).data.toList.map fun x => Value.int .u8 (x.toNat : Int)) = s.map (Value.int .u8) := by
  have hd : (strOfNums s).data.toList = Lib.bytesOf s := by
    have := Lib.strOfNums_toList s
    rwa [Lib.toList_data] at this
  rw [hd]
  unfold Lib.bytesOf
  rw [List.map_map]
  refine List.map_congr_left fun z hz => ?_
  have h := byte_nat (hb z hz)
  show Value.int .u8 ((UInt8.ofNat z.toNat).toNat : Int) = _
  rw [show (UInt8.ofNat z.toNat).toNat = z.toNat from h]
  congr 1
  have := (hb z hz).1
  omega
/-- A text laid into a key of noughts. -/
theorem KeyMine.lay {w : World} {b : Nat} {s : List Int} (h : KeyMine w b 0 zeroK) (hs : s.length ≤ 16) (hb : ∀ z ∈ s, 0 ≤ z ∧ z ≤ 255) : KeyMine (w.setCells b 0 (s.map (Value.int .u8))) b 0 (keyK s) := by
  have ht : w.there b 0 (s.map (Value.int .u8)).length := fun j hj => h.there j (by rw [List.length_map] at hj; omega)
  have hr := World.rangeAt_setCells_same w b 0 (s.map (Value.int .u8)) ht
  refine ⟨⟨fun i hi => ?_⟩, fun i hi => by rw [World.frozen?_setCells]; exact h.free i hi, keyK_ky hs hb⟩
  by_cases e : i < s.length
  · refine hr i _ ?_
    simp [keyK, List.getD, e, List.getElem?_append]
  · rw [World.cell?_setCells_out b (s.map (Value.int .u8)) 0 w ⟨b, 0 + i, none⟩ (fun _ => by simp; omega), h.lies.cell i hi]
    have e2 : i - s.length < 16 - s.length := by omega
    have hz : zeroK.getD i 0 = 0 := by unfold zeroK; simp only [List.getD, List.getElem?_replicate, hi, if_true]; rfl
    rw [hz]
    unfold keyK
    simp only [List.getD, List.getElem?_append, e, if_false, List.getElem?_replicate, e2, if_true]
    rfl
theorem str_empty (S : ByteArray) : S.toList.isEmpty = decide (S.size = 0) := by
  rw [Lib.toList_data]
  obtain ⟨⟨l⟩⟩ := S
  cases l <;> simp [ByteArray.size]
/-- The text of a key, laid. -/
theorem OfR.lay {w u : World} (h : OfR w u zeroK) {s : List Int} (hs : s.length ≤ 16) (hb : ∀ z ∈ s, 0 ≤ z ∧ z ≤ 255) : OfR w (u.setCells (w.heap.size + 1) 0 (s.map (Value.int .u8))) (keyK s) :=
  ⟨below_cells (by omega) h.below, h.res.other (by omega), h.key.lay hs hb⟩
set_option maxHeartbeats 1000000 in
theorem kof_any (s : List Int) (hb : ∀ z ∈ s, 0 ≤ z ∧ z ≤ 255) (hm : s.length ≤ 1000000) (w : World) :
    Calls Try.prog 10 #[.string (strOfNums s)] w fun e w' => e = .returned (.tuple #[kv (ofK s), .int .i64 (if mayK s = true then 0 else 1)]) ∧ Below w.heap.size w w' := by
  obtain ⟨E, hE⟩ : ∃ E : Int, E = if mayK s = true then 0 else 1 := ⟨_, rfl⟩
  have HE : Hid (E = if mayK s = true then 0 else 1) := hE
  rw [← hE]
  clear hE
  have H0 : Hid (OfR w ((w.alloc (.cells (kcs zeroK) 24)).alloc (.cells (kcs zeroK) 24)) zeroK) := OfR.made w 24
  rw [zero_cells] at H0
  have HB : Hid (∀ z ∈ s, 0 ≤ z ∧ z ≤ 255) := hb
  have HZ : Hid ((strOfNums s).size = s.length) := strOfNums_size s
  have CI : Hid (∀ u, Calls Try.prog 25 #[.string (strOfNums s), .int .u8 0] u fun e w' => e = .returned (.int .i64 (if (txK s).length < s.length then ((txK s).length : Int) else -1)) ∧ w' = u) := fun u => sidx_any s hb u
  have HC : Hid (∀ (u : World) (ty : TypeId), s.length ≤ 16 → OfR w u zeroK → (Builtin.copy_ #[45, 9] ty #[.slice (some ⟨w.heap.size + 1, 0, none⟩) 16 16, .string (strOfNums s)]).run Try.prog u = .ok (goInt (strOfNums s).size) (u.setCells (w.heap.size + 1) 0 (s.map (Value.int .u8)))) := fun u ty hs hu => by
    have hth := hu.key.there
    have := run_copy_string (P := Try.prog) u 45 9 ty 5 (w.heap.size + 1) 0 16 16 (strOfNums s) Try.underlying45 Try.sizeOf5 (by rw [strOfNums_size]; exact hs) (fun j hj => (hth j (by rw [strOfNums_size] at hj; omega)).1) (fun j hj => (hth j (by rw [strOfNums_size] at hj; omega)).2)
    rw [str_cells s hb] at this
    exact this
  obtain ⟨S, hS⟩ : ∃ S, S = strOfNums s := ⟨_, rfl⟩
  rw [← hS] at HZ CI HC ⊢
  have hl : S.size ≤ 1000000 := by rw [HZ.out]; exact hm
  clear hS hb hm
  by_cases hlen : 1 ≤ S.size ∧ S.size ≤ 16
  · obtain ⟨l1, l2⟩ := hlen
    have hemp : S.toList.isEmpty = false := by rw [str_empty]; exact decide_eq_false (by omega)
    by_cases hz : (txK s).length < s.length
    · have HR : Hid (mayK s = false) := decide_eq_false fun h => tx_all.1 h.2.2 hz
      rw [if_pos hz] at CI
      obtain ⟨T, hT⟩ : ∃ T : Nat, T = (txK s).length := ⟨_, rfl⟩
      rw [← hT] at CI
      have h0 : (0 : Int) ≤ (T : Int) := by omega
      clear hT hz
      go_enter Try.func10, Try.ntmps10
      go_wp2_with (first | (go_at_call 25; refine (CI.out _).mono ?_; rintro e w1 ⟨rfl, rfl⟩) | (have hgo := H0.out; clear hgo; refine wpList_store_keyU (by rfl) _ _ (by rfl) w.heap.size 0 zeroK zeroK (by rfl) (by rfl) zeroK_ky H0.out.res ?_; intro u2 hu; have HD : Hid (OfD w u2 zeroK) := hu ▸ H0.out.done zeroK_ky; clear hu H0))
      refine bodyPost_ret (results_key rfl _ _ w.heap.size 0 zeroK rfl HD.out.ky HD.out.lies) rfl ?_
      refine ⟨?_, HD.out.below⟩
      have e : ofK s = zeroK := by unfold ofK; rw [HR.out]; rfl
      rw [e, HE.out, HR.out]
      rfl
    · have hs16 : s.length ≤ 16 := by rw [← HZ.out]; exact l2
      have HR : Hid (mayK s = true) := decide_eq_true ⟨by rw [← HZ.out]; exact l1, hs16, tx_all.2 hz⟩
      rw [if_neg hz] at CI
      have hc := HC.out _ 3 hs16 H0.out
      have HL : Hid (OfR w (((w.alloc (.cells #[.int .u8 0, .int .u8 0, .int .u8 0, .int .u8 0, .int .u8 0, .int .u8 0, .int .u8 0, .int .u8 0, .int .u8 0, .int .u8 0, .int .u8 0, .int .u8 0, .int .u8 0, .int .u8 0, .int .u8 0, .int .u8 0] 24)).alloc (.cells #[.int .u8 0, .int .u8 0, .int .u8 0, .int .u8 0, .int .u8 0, .int .u8 0, .int .u8 0, .int .u8 0, .int .u8 0, .int .u8 0, .int .u8 0, .int .u8 0, .int .u8 0, .int .u8 0, .int .u8 0, .int .u8 0] 24)).setCells (w.heap.size + 1) 0 (s.map (Value.int .u8))) (keyK s)) := H0.out.lay hs16 HB.out
      have HY : Hid (Ky (keyK s)) := keyK_ky hs16 HB.out
      clear hz hs16
      go_enter Try.func10, Try.ntmps10
      go_wp2_with (first | (go_at_call 25; refine (CI.out _).mono ?_; rintro e w1 ⟨rfl, rfl⟩) | (have hgo := HL.out; clear hgo; refine wpList_load_key (by rfl) _ (by rfl) (w.heap.size + 1) 0 (by rfl) (keyK s) HY.out HL.out.key.lies ?_) | (have hgo := HL.out; clear hgo; refine wpList_store_keyU (by rfl) _ _ (by rfl) w.heap.size 0 zeroK (keyK s) (by rfl) (by rfl) HY.out HL.out.res ?_; intro u2 hu; have HD : Hid (OfD w u2 (keyK s)) := hu ▸ HL.out.done HY.out; clear hu HL))
      refine bodyPost_ret (results_key rfl _ _ w.heap.size 0 (keyK s) rfl HD.out.ky HD.out.lies) rfl ?_
      refine ⟨?_, HD.out.below⟩
      have e : ofK s = keyK s := by unfold ofK; rw [HR.out]; rfl
      rw [e, HE.out, HR.out]
      rfl
  · have HR : Hid (mayK s = false) := decide_eq_false fun h => hlen ⟨by rw [HZ.out]; exact h.1, by rw [HZ.out]; exact h.2.1⟩
    have hcase : S.size = 0 ∨ 16 < S.size := by omega
    clear hlen
    obtain ⟨b0, hemp, hb0⟩ : ∃ b0, S.toList.isEmpty = b0 ∧ ((b0 = true) ∨ (b0 = false ∧ 16 < S.size)) := by
      refine ⟨_, rfl, ?_⟩
      rw [str_empty]
      rcases hcase with hc | hc
      · exact .inl (decide_eq_true hc)
      · exact .inr ⟨decide_eq_false (by omega), hc⟩
    clear hcase
    rcases hb0 with rfl | ⟨rfl, hc⟩
    all_goals
      go_enter Try.func10, Try.ntmps10
      go_wp2_with (first | (have hgo := H0.out; clear hgo; refine wpList_store_keyU (by rfl) _ _ (by rfl) w.heap.size 0 zeroK zeroK (by rfl) (by rfl) zeroK_ky H0.out.res ?_; intro u2 hu; have HD : Hid (OfD w u2 zeroK) := hu ▸ H0.out.done zeroK_ky; clear hu H0))
      refine bodyPost_ret (results_key rfl _ _ w.heap.size 0 zeroK rfl HD.out.ky HD.out.lies) rfl ?_
      refine ⟨?_, HD.out.below⟩
      have e : ofK s = zeroK := by unfold ofK; rw [HR.out]; rfl
      rw [e, HE.out, HR.out]
      rfl
end Go.Proofs.Ytfgbgcaackhcmaa
