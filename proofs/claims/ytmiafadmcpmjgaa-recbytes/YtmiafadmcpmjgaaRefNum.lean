/-
  What the document's own numbers are: Get, Put, Zig, Zag.
-/
import Derived.Test.YtmiafadmcpmjgaaNumBase
namespace Go.Proofs.Ytmiafadmcpmjgaa
open Go.RowKit
set_option linter.unusedVariables false

theorem ret2 {a b a' b' : Int} (h : a = a' ∧ b = b') : Ending.returned (.tuple #[.int .u64 a, .int .i64 b]) = .returned (.tuple #[.int .u64 a', .int .i64 b']) := by
  obtain ⟨rfl, rfl⟩ := h; rfl
theorem fst_of {g : Int × Int × Int} {a b c : Int} (h : g = (a, b, c)) : a = g.1 ∧ b = g.2.1 := by rw [h]; exact ⟨rfl, rfl⟩
/-- The tenth byte with more than one bit. -/
theorem step_ten {g : Int × Int × Int} {zs r : List Int} {X c : Int} (hd : g = Pl.getF (10 - 9) X 9 zs) (hz : zs = c :: r) (h0 : 0 ≤ c) (h1 : c ≤ 255) (hc : 1 < c % 128) : g = (0, 0, 3) := by
  have e : 10 - 9 = 0 + 1 := rfl
  rw [hd, hz, e]
  by_cases h : c < 128
  · refine Pl.get_bad h ?_
    have h2 : ¬ c = 1 := by omega
    simp [Pl.goodB, h2]
  · rw [Pl.get_more (by omega), Pl.get_none]
theorem good_of {c : Int} {k : Nat} (h0 : 0 ≤ c) (hc : c < 128) (hk : k < 10) (h9 : k = 9 → c % 128 ≤ 1) (hz : ¬ (c = 0 ∧ 0 < k)) : Pl.goodB c k = true := by
  have h1 : ¬ (0 < (k : Int) ∧ c = 0) := fun h => hz ⟨h.2, by omega⟩
  have h2 : (k : Int) < 9 ∨ c = 1 := by
    by_cases hk9 : k = 9
    · have := h9 hk9
      have : ¬ c = 0 := fun h => hz ⟨h, by omega⟩
      omega
    · omega
  unfold Pl.goodB
  rw [Bool.and_eq_true]
  refine ⟨?_, ?_⟩
  · have : (decide (0 < (k : Int)) && c == 0) = false := by
      rw [Bool.eq_false_iff]; intro h; rw [Bool.and_eq_true] at h; exact h1 ⟨of_decide_eq_true h.1, eq_of_beq h.2⟩
    rw [this]; rfl
  · rw [Bool.or_eq_true]
    rcases h2 with h | h
    · exact .inl (decide_eq_true h)
    · exact .inr (by rw [h]; rfl)
theorem bad_of {c : Int} {k : Nat} (hc : c = 0) (hk : 0 < k) : (!Pl.goodB c k) = true := by
  simp [Pl.goodB, hc]
  omega
theorem rget_any (a : Option Addr) (cap : Nat) (zs : List Int) (w : World) (hrow : Row w a zs) (hmax : zs.length ≤ 140737488351232) :
    Calls Try.prog 75 #[.slice a zs.length cap] w fun e w' =>
      e = .returned (.tuple #[.int .u64 (Pl.getI zs).1, .int .i64 (Pl.getI zs).2.1]) ∧ w' = w := by
  obtain ⟨hbytes, hcells⟩ := hrow
  rcases hcells with rfl | ⟨b, off, rfl, hc⟩
  · clear hbytes hmax
    go_enter Try.func75, Try.ntmps75
    go_wp2
    refine wp_loop_rounds 1 ?_
    rw [rounds_succ]
    go_wp2
    go_ret2
    exact ⟨rfl, rfl⟩
  · obtain ⟨len, hlen⟩ : ∃ len, len = zs.length := ⟨_, rfl⟩
    rw [← hlen] at hc hmax ⊢
    go_enter Try.func75, Try.ntmps75
    go_wp2
    go_loop [4, 5] (fun x i => ∃ (k : Nat) (X : Int), k ≤ len ∧ k ≤ 10 ∧ i = .int .i64 k ∧ x = .int .u64 X ∧ (k ≤ 9 → 0 ≤ X ∧ X < 2 ^ (7 * k)) ∧ Pl.getI zs = Pl.getF (10 - k) X k (zs.drop k)) (fun _ i => len - (intOf i).toNat)
    case atStart => exact ⟨0, 0, by omega, by omega, rfl, rfl, fun _ => by simp, rfl⟩
    case round =>
      obtain ⟨k, X, hk, hk10, rfl, rfl, hX, hd⟩ := hrel
      have HD : Hid (Pl.getI zs = Pl.getF (10 - k) X k (zs.drop k)) := hd
      clear hd
      by_cases hlt : k < len ∧ k < 10
      · obtain ⟨hlt, h10⟩ := hlt
        have hcell : w.cell? ⟨b, off + k, none⟩ = some (.int .u8 (zs.getD k 0)) := hc k hlt
        have hrk := at_byte hbytes k
        have hmask := Pl.mask127 hrk.1 hrk.2
        have HDR : Hid (zs.drop k = zs[k]?.getD 0 :: zs.drop (k + 1)) := drop_at zs k (by omega)
        have HF : Hid (10 - k = (9 - k) + 1) := by show _ = _; omega
        clear hlen hbytes hc
        by_cases h9 : k = 9 ∧ 1 < zs[k]?.getD 0 % 128
        · obtain ⟨rfl, hb1⟩ := h9
          have HB : Hid (Pl.getI zs = (0, 0, 3)) := step_ten HD.out HDR.out hrk.1 hrk.2 hb1
          clear HD HDR HF hX
          go_wp2
          go_ret2
          exact ⟨ret2 (fst_of HB.out), rfl⟩
        · have H9 : Hid (k = 9 → zs[k]?.getD 0 % 128 ≤ 1) := fun h => by omega
          have hq : (((k : Int) == 9) = true ∧ zs[k]?.getD 0 % 128 ≤ 1) ∨ ((k : Int) == 9) = false := by
            by_cases h : k = 9
            · left; exact ⟨by rw [h]; rfl, by omega⟩
            · right; exact beq_eq_false_iff_ne.2 (by omega)
          clear h9
          rcases hq with ⟨e9, hle⟩ | e9
          all_goals
            by_cases hc128 : zs[k]?.getD 0 < 128
            · by_cases hz : zs[k]?.getD 0 = 0 ∧ 0 < k
              · have HB : Hid (Pl.getI zs = (0, 0, 3)) := step_bad HD.out HDR.out HF.out hc128 (bad_of hz.1 hz.2)
                have hz1 : (zs[k]?.getD 0 == 0) = true := by simp [hz.1]
                have hz2 : (0 : Int) < (k : Int) := by omega
                clear HD HDR HF hX hz H9
                go_wp2
                go_ret2
                exact ⟨ret2 (fst_of HB.out), rfl⟩
              · have hg := good_of hrk.1 hc128 h10 H9.out hz
                have HB : Hid _ := step_good HD.out HDR.out HF.out hX h10 hrk.1 hc128 hg
                clear HD HDR HF hX hg H9
                by_cases hz0 : zs[k]?.getD 0 = 0
                · have hz1 : (zs[k]?.getD 0 == 0) = true := by simp [hz0]
                  have hz2 : ¬ (0 : Int) < (k : Int) := by omega
                  clear hz hz0
                  go_wp2
                  go_ret2
                  exact ⟨ret2 (fst_of HB.out), rfl⟩
                · have hz1 : (zs[k]?.getD 0 == 0) = false := by simp [hz0]
                  clear hz hz0
                  go_wp2
                  go_ret2
                  exact ⟨ret2 (fst_of HB.out), rfl⟩
            · have R := step_more HD.out HDR.out HF.out hX h10 hrk.1 hrk.2 (by omega)
              have R1 : Hid _ := R
              clear HD HDR HF hX R H9
              go_wp2
              go_round
              case rel => exact ⟨k + 1, _, by omega, by omega, by go_num, rfl, R1.out.1, R1.out.2⟩
              case measure => simp [intOf]; omega
      · have HO : Hid (Pl.getI zs = (0, 0, 3)) := step_out HD.out hlen hlt
        clear HD hX hc hbytes hlen
        by_cases h10 : k < 10
        · have hkl : k = len := by omega
          subst hkl
          clear hlt
          go_wp2
          go_ret2
          exact ⟨ret2 (fst_of HO.out), rfl⟩
        · have hkl : k = 10 := by omega
          subst hkl
          clear hlt
          go_wp2
          all_goals
            go_ret2
            exact ⟨ret2 (fst_of HO.out), rfl⟩
/-- What is owned stays owned where nothing below has turned. -/
theorem own_belowN {w w' : World} {base n cap g B : Nat} {xs : List Value} (h : w.ownsRow base 5 1 (.slice (some ⟨g, 0, none⟩) n cap) n xs) (hb : Below B w w') (hg : g < B) : w'.ownsRow base 5 1 (.slice (some ⟨g, 0, none⟩) n cap) n xs := by
  refine ⟨h.1, ?_⟩
  rcases h.2 with ⟨h1, _⟩ | ⟨g', cap', cur, he, h1, h2, h3⟩
  · cases h1
  · cases he
    exact .inr ⟨g, cap, cur, rfl, h1, by rw [hb.block g hg]; exact h2, h3⟩
theorem own_lit (w : World) (c : Int) : (w.alloc (.cells #[.int .u8 c] 5)).ownsRow w.heap.size 5 1 (.slice (some ⟨w.heap.size, 0, none⟩) 1 1) 1 (bs [c]) :=
  ⟨rfl, .inr ⟨w.heap.size, 1, #[.int .u8 c], rfl, Nat.le_refl _, heap_alloc_new w _, Nat.le_refl _, by decide, rfl, rfl⟩⟩
theorem row_some {w : World} {a : Option Addr} {zs : List Int} (h : Row w a zs) (hp : 1 ≤ zs.length) {m c : Nat} (ha : a = none) : m = 0 ∧ c = 0 := by
  rcases h.cells with rfl | ⟨b, off, h, _⟩
  · simp at hp
  · rw [ha] at h; cases h
/-- What stands behind the call of itself. -/
theorem rput_mid {w w2 : World} {c : Int} (hb2 : Below (w.alloc (.cells #[.int .u8 c] 5)).heap.size (w.alloc (.cells #[.int .u8 c] 5)) w2) :
    w2.ownsRow w.heap.size 5 1 (.slice (some ⟨w.heap.size, 0, none⟩) 1 1) 1 (bs [c]) ∧ Below w.heap.size w w2 := by
  have e : (w.alloc (.cells #[.int .u8 c] 5)).heap.size = w.heap.size + 1 := by simp
  exact ⟨own_belowN (own_lit w c) hb2 (by omega), ((Below.refl _ _).alloc (Nat.le_refl _) _).trans (hb2.mono (by omega))⟩
theorem rput_any (f : Nat) : ∀ (x : Int) (w : World), f ≤ 9 → Pl.Fits f x → 0 ≤ x → x ≤ 18446744073709551615 →
    Calls Try.prog 81 #[.int .u64 x] w fun e w' => ∃ a cap, e = .returned (.slice a (Pl.putF f x).length cap) ∧ Row w' a (Pl.putF f x) ∧ Below w.heap.size w w' := by
  induction f with
  | zero =>
    intro x w hf9 hf h0 h1
    have hlt := Pl.fits_zero hf
    have hm : x % 256 = x := by omega
    have HP : Hid (Pl.putF 0 x = [x]) := rfl
    have HB : Hid (∀ z ∈ [x], 0 ≤ z ∧ z ≤ 255) := fun z hz => by simp at hz; omega
    clear hf
    go_enter Try.func81, Try.ntmps81
    go_wp2_with fail
    go_ret
    exact ⟨_, _, rfl, row_of_own (own_lit w x) HB.out, (Below.refl _ _).alloc (Nat.le_refl _) _⟩
  | succ f ih =>
    intro x w hf9 hf h0 h1
    by_cases hlt : x < 128
    · have hm : x % 256 = x := by omega
      have HP : Hid (Pl.putF (f + 1) x = [x]) := Pl.put_last hlt
      have HB : Hid (∀ z ∈ [x], 0 ≤ z ∧ z ≤ 255) := fun z hz => by simp at hz; omega
      have IH : Hid _ := ih
      clear hf ih
      go_enter Try.func81, Try.ntmps81
      go_wp2_with fail
      go_ret
      refine ⟨some ⟨w.heap.size, 0, none⟩, 1, ?_, ?_, (Below.refl _ _).alloc (Nat.le_refl _) _⟩
      · rw [HP.out]; rfl
      · rw [HP.out]; exact row_of_own (own_lit w x) HB.out
    · have HP : Hid (Pl.putF (f + 1) x = (x % 128 + 128) :: Pl.putF f (x / 128)) := Pl.put_more (by omega)
      have IH : Hid (∀ w, Calls Try.prog 81 #[.int .u64 (x / 128)] w fun e w' => ∃ a cap, e = .returned (.slice a (Pl.putF f (x / 128)).length cap) ∧ Row w' a (Pl.putF f (x / 128)) ∧ Below w.heap.size w w') := fun w => ih (x / 128) w (by omega) (Pl.fits_step hf) (by omega) (by omega)
      have hlen := Pl.put_length_le f (x / 128)
      have hpos := Pl.put_length_pos f (x / 128)
      clear hf ih
      go_enter Try.func81, Try.ntmps81
      have HX : Hid (∀ z ∈ [x % 128 + 128], 0 ≤ z ∧ z ≤ 255) := fun z hz => by simp at hz; omega
      go_wp2_with (first | (go_at_call 81; refine (IH.out _).mono ?_; rintro e w2 ⟨a2, c2, rfl, hrow2, hb2⟩; have HM : Hid _ := rput_mid hb2; have HROW : Hid (Row w2 a2 (Pl.putF f (x / 128))) := hrow2; clear hrow2 hb2) | (at_builtin; refine wpList_append_on rfl (.tmp 12) (.tmp 15) rfl w.heap.size w HM.out.2 HM.out.2.size _ 1 [x % 128 + 128] (Pl.putF f (x / 128)) rfl HM.out.1 _ _ _ rfl HROW.out rfl (row_some HROW.out hpos) HX.out (by omega) ?_; intro a3 c3 w3 hown3 hb3))
      go_ret
      have e1 : (Pl.putF (f + 1) x).length = 1 + (Pl.putF f (x / 128)).length := by rw [HP.out, List.length_cons]; omega
      refine ⟨a3, c3, ?_, ?_, hb3⟩
      · rw [e1]; rfl
      · rw [HP.out]
        refine own_row (cap := c3) hown3 ?_
        intro z hz
        rcases List.mem_cons.1 hz with h | h
        · exact HX.out z (by rw [h]; simp)
        · exact HROW.out.bytes z h
theorem rzig_any (v : Int) (w : World) (h0 : -9223372036854775808 ≤ v) (h1 : v ≤ 9223372036854775807) :
    Calls Try.prog 50 #[.int .i64 v] w fun e w' => e = .returned (.int .u64 (Pl.zigI v)) ∧ w' = w := by
  by_cases h : 0 ≤ v
  · have H : Hid (Pl.zigI v = 2 * v) := by show _ = _; unfold Pl.zigI; rw [if_pos h]
    go_enter Try.func50, Try.ntmps50
    go_wp2
    go_ret
    exact ⟨ret_int H.out.symm, rfl⟩
  · have H : Hid (Pl.zigI v = 2 * -(v + 1) + 1) := by show _ = _; unfold Pl.zigI; rw [if_neg h]; omega
    go_enter Try.func50, Try.ntmps50
    go_wp2
    go_ret
    exact ⟨ret_int H.out.symm, rfl⟩
theorem rzag_any (v : Int) (w : World) (h0 : 0 ≤ v) (h1 : v ≤ 18446744073709551615) :
    Calls Try.prog 43 #[.int .u64 v] w fun e w' => e = .returned (.int .i64 (Pl.zagI v)) ∧ w' = w := by
  by_cases h : v % 2 = 0
  · have H : Hid (Pl.zagI v = v / 2) := by show _ = _; unfold Pl.zagI; rw [if_pos h]
    have h2 : (v % 2 == 0) = true := by simp [h]
    clear h
    go_enter Try.func43, Try.ntmps43
    go_wp2
    go_ret
    exact ⟨ret_int H.out.symm, rfl⟩
  · have H : Hid (Pl.zagI v = -(v / 2) - 1) := by show _ = _; unfold Pl.zagI; rw [if_neg h]
    have h2 : (v % 2 == 0) = false := by simp [h]
    clear h
    go_enter Try.func43, Try.ntmps43
    go_wp2
    go_ret
    exact ⟨ret_int H.out.symm, rfl⟩
end Go.Proofs.Ytmiafadmcpmjgaa
