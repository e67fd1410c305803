/-
  What the document's own texts of numbers and stamps (hourglassref6: Digits, Text) answer.
-/
import Derived.Test.YtmokepjemplfgaaDoorRefStamp
namespace Go.Proofs.YtmokepjemplfgaaDoor
open Go.RowKit
set_option linter.unusedVariables false

theorem one_str (w : World) (v : Int) (h : 0 ≤ v ∧ v ≤ 255) : (convert 51 9 (.slice (some ⟨w.heap.size, 0, none⟩) 1 1)).run Tryd.prog (w.alloc (.cells #[.int .u8 v] 5)) = .ok (.string (strOfNums [v])) (w.alloc (.cells #[.int .u8 v] 5)) := by
  have hr : Row (w.alloc (.cells #[.int .u8 v] 5)) (some ⟨w.heap.size, 0, none⟩) [v] := by
    refine ⟨by simpa using h, .inr ⟨_, _, rfl, fun j hj => ?_⟩⟩
    have : j = 0 := by simpa using hj
    subst this
    rw [Nat.zero_add, World.cell?_alloc_new]
    rfl
  exact str_of_row hr 1
theorem one_str_at (W : World) (g : Nat) (v : Int) (hc : W.cell? ⟨g, 0, none⟩ = some (.int .u8 v)) (h : 0 ≤ v ∧ v ≤ 255) : (convert 51 9 (.slice (some ⟨g, 0, none⟩) 1 1)).run Tryd.prog W = .ok (.string (strOfNums [v])) W := by
  have hr : Row W (some ⟨g, 0, none⟩) [v] := by
    refine ⟨by simpa using h, .inr ⟨_, _, rfl, fun j hj => ?_⟩⟩
    have : j = 0 := by simpa using hj
    subst this
    rw [Nat.zero_add]
    exact hc
  exact str_of_row hr 1
theorem digit_str (u : Nat) : strOfNums [48 + (u : Int)] = ⟨#[UInt8.ofNat (48 + u)]⟩ := by
  have e : (48 + (u : Int)).toNat = 48 + u := by omega
  simp [strOfNums, e]
set_option maxRecDepth 4000 in
set_option maxHeartbeats 1000000 in
theorem rdig6_nn : ∀ (k : Nat) (u : Nat) (w : World), k ≤ 18 → u < 10 ^ (k + 1) → u ≤ 9223372036854775807 →
    Calls Tryd.prog 26 #[.int .i64 u] w fun e w' => e = .returned (.string ⟨(Lib.decDigits u).toArray⟩) ∧ Below w.heap.size w w' := by
  have base : ∀ (u : Nat) (w : World), u < 10 → Calls Tryd.prog 26 #[.int .i64 u] w fun e w' => e = .returned (.string ⟨(Lib.decDigits u).toArray⟩) ∧ Below w.heap.size w w' := by
    intro u w h1
    have hcv := one_str w (48 + (u : Int)) (by omega)
    obtain ⟨R, hR⟩ : ∃ R : ByteArray, R = ⟨(Lib.decDigits u).toArray⟩ := ⟨_, rfl⟩
    rw [← hR]
    obtain ⟨S, hS⟩ : ∃ S, S = strOfNums [48 + (u : Int)] := ⟨_, rfl⟩
    have HS : Hid (S = R) := by show _ = _; rw [hR, dec_one h1, hS, digit_str]
    rw [← hS] at hcv
    clear hR
    obtain ⟨n, hn⟩ : ∃ n : Int, n = u := ⟨_, rfl⟩
    rw [← hn] at hcv ⊢
    have h0 : 0 ≤ n := by omega
    have h2 : n < 10 := by omega
    have hm1 : (48 + n) % 256 = 48 + n := by omega
    have hlt : ¬ n < 0 := by omega
    clear hS hn h0
    go_enter Tryd.func26, Tryd.ntmps26
    go_wp2
    go_ret
    exact ⟨by rw [← HS.out]; rfl, (Below.refl _ _).alloc (Nat.le_refl _) _⟩
  intro k
  induction k with
  | zero => intro u w _ h1 _; exact base u w (by simpa using h1)
  | succ k ih =>
    intro u w hk h1 hbig
    by_cases h10 : u < 10
    · exact base u w h10
    obtain ⟨n, hn⟩ : ∃ n : Int, n = u := ⟨_, rfl⟩
    have hn0 : 0 ≤ n := by omega
    have hnb : n ≤ 9223372036854775807 := by omega
    have hn10 : ¬ n < 10 := by omega
    obtain ⟨X, hX⟩ : ∃ X : ByteArray, X = ⟨(Lib.decDigits (u / 10)).toArray⟩ := ⟨_, rfl⟩
    have IH : Hid (∀ w, Calls Tryd.prog 26 #[.int .i64 (n / 10)] w fun e w' => e = .returned (.string X) ∧ Below w.heap.size w w') := fun w => by
      have e : n / 10 = ((u / 10 : Nat) : Int) := by omega
      rw [e, hX]
      exact ih (u / 10) w (by omega) (by rw [Nat.pow_succ] at h1; omega) (by omega)
    have hq : n.tdiv 10 = n / 10 := td_pos hn0
    have hm : n.tmod 10 = n % 10 := tm_pos hn0
    have hwq : IntKind.i64.wrap (n / 10) = n / 10 := by rw [IntKind.wrap_i64]; omega
    have hw1 : IntKind.i64.wrap (48 + n % 10) = 48 + n % 10 := by rw [IntKind.wrap_i64]; omega
    have hm1 : (48 + n % 10) % 256 = 48 + n % 10 := by omega
    obtain ⟨A, hA⟩ : ∃ A, A = strOfNums [48 + n % 10] := ⟨_, rfl⟩
    have hXs : X.size ≤ 21 := by rw [hX]; exact dec_size _ (by omega)
    have hAs : A.size = 1 := by rw [hA, strOfNums_size]; rfl
    have hcv : ∀ W : World, (convert 51 9 (.slice (some ⟨W.heap.size, 0, none⟩) 1 1)).run Tryd.prog (W.alloc (.cells #[.int .u8 (48 + n % 10)] 5)) = .ok (.string A) (W.alloc (.cells #[.int .u8 (48 + n % 10)] 5)) := fun W => by rw [hA]; exact one_str W _ (by omega)
    have CV : Hid (∀ (W : World) (g : Nat), W.cell? ⟨g, 0, none⟩ = some (.int .u8 (48 + n % 10)) → (convert 51 9 (.slice (some ⟨g, 0, none⟩) 1 1)).run Tryd.prog W = .ok (.string A) W) := fun W g hc => by rw [hA]; exact one_str_at W g _ hc (by omega)
    have hcvd : ∀ W : World, (convert 51 9 (.slice (some ⟨W.heap.size, 0, none⟩) 1 1)).run Tryd.prog (W.alloc (.cells #[.int .u8 (48 + n % 10)] 5)).drew = .ok (.string A) (W.alloc (.cells #[.int .u8 (48 + n % 10)] 5)).drew := fun W => CV.out _ _ (World.cell?_alloc_new W _ _ _)
    have HE : Hid (X ++ A = ⟨(Lib.decDigits u).toArray⟩) := by
      show _ = _
      have e : n % 10 = ((u % 10 : Nat) : Int) := by omega
      rw [hX, hA, e, digit_str, dec_step (u := u) (by omega)]
      apply ByteArray.ext
      simp
    rw [← hn]
    clear hX hA ih h1 base hk hn hbig h10
    have hneg : ¬ n < 0 := by omega
    clear hn0
    go_enter Tryd.func26, Tryd.ntmps26
    go_wp2
    have hw8 : IntKind.u8.wrap (48 + n % 10) = 48 + n % 10 := by rw [IntKind.wrap_u8]; omega
    go_region_with (go_at_call 26; refine (IH.out _).mono ?_; rintro e w2 ⟨rfl, hb2⟩; (first | (have HB2 : Hid (Below w.heap.size w w2) := (Below.refl _ _).drew.trans (hb2.mono (Nat.le_refl _))) | (have HB2 : Hid (Below w.heap.size w w2) := (((Below.refl _ _).alloc (Nat.le_refl _) _).drew).trans (hb2.mono (by simp)); have hcv2 := CV.out w2 w.heap.size (by rw [hb2.cell (p := ⟨w.heap.size, 0, none⟩) (by simp)]; exact World.cell?_alloc_new _ _ _ _)) | skip); clear hb2)
    all_goals go_wp2
    all_goals go_ret
    all_goals refine ⟨by rw [← HE.out]; rfl, ?_⟩
    all_goals first | exact HB2.out | exact HB2.out.alloc HB2.out.size _
theorem rdig6_any (n : Int) (w : World) (h1 : -9223372036854775808 ≤ n) (h2 : n ≤ 9223372036854775807) :
    Calls Tryd.prog 26 #[.int .i64 n] w fun e w' => e = .returned (.string ⟨(Lib.itoa n).toArray⟩) ∧ Below w.heap.size w w' := by
  have p19 : (9223372036854775807 : Nat) < 10 ^ (18 + 1) := by decide
  by_cases hn : n < 0
  · by_cases hl : n = -9223372036854775808
    · subst hl
      rw [itoa_least]
      go_enter Tryd.func26, Tryd.ntmps26
      go_wp2
      go_ret
      exact ⟨rfl, Below.refl _ _⟩
    · obtain ⟨u, hu⟩ : ∃ u : Nat, -n = (u : Int) := ⟨(-n).toNat, by omega⟩
      obtain ⟨X, hX⟩ : ∃ X : ByteArray, X = ⟨(Lib.decDigits u).toArray⟩ := ⟨_, rfl⟩
      have hXs : X.size ≤ 21 := by rw [hX]; exact dec_size _ (by omega)
      have C1 : Hid (∀ w, Calls Tryd.prog 26 #[.int .i64 (-n)] w fun e w' => e = .returned (.string X) ∧ Below w.heap.size w w') := fun w => by rw [hu, hX]; exact rdig6_nn 18 u w (by omega) (by omega) (by omega)
      have HE : Hid (⟨#[45]⟩ ++ X = ⟨(Lib.itoa n).toArray⟩) := by
        show _ = _
        have e : n = -(u : Int) := by omega
        rw [e, Lib.itoa_neg u (by omega), hX]
        apply ByteArray.ext
        simp
      have hlb : (n == -9223372036854775808) = false := by simpa using hl
      clear hX hu p19
      go_enter Tryd.func26, Tryd.ntmps26
      go_wp2_with (go_at_call 26; refine (C1.out _).mono ?_; rintro e w2 ⟨rfl, hb2⟩)
      go_ret
      exact ⟨by rw [← HE.out]; rfl, hb2⟩
  · obtain ⟨u, rfl⟩ : ∃ u : Nat, n = (u : Int) := ⟨n.toNat, by omega⟩
    rw [Lib.itoa_nonneg]
    exact rdig6_nn 18 u w (by omega) (by omega) (by omega)
set_option maxHeartbeats 1000000 in
theorem rtext6_any (t n : Int) (w : World) (h1 : -9223372036854775808 ≤ t) (h2 : t ≤ 9223372036854775807) (hn : 0 ≤ n ∧ n ≤ 255) :
    Calls Tryd.prog 20 #[.agg #[.int .i64 t, .int .u8 n]] w fun e w' => e = .returned (.string (tx6 t n)) ∧ Below w.heap.size w w' := by
  obtain ⟨X, hX⟩ : ∃ X : ByteArray, X = ⟨(Lib.itoa t).toArray⟩ := ⟨_, rfl⟩
  obtain ⟨Y, hY⟩ : ∃ X : ByteArray, X = ⟨(Lib.itoa n).toArray⟩ := ⟨_, rfl⟩
  have sX : X.size ≤ 21 := by rw [hX]; exact itoa_size t h1 h2
  have sY : Y.size ≤ 21 := by rw [hY]; exact itoa_size n (by omega) (by omega)
  have z1 : ¬ 9223372036854775807 < X.size + 1 := by omega
  have z2 : ¬ 9223372036854775807 < X.size + 1 + Y.size := by omega
  have HE : Hid (X ++ ⟨#[46]⟩ ++ Y = tx6 t n) := by rw [hX, hY]; exact tx6_sum t n
  obtain ⟨V, hV⟩ : ∃ V, V = w.alloc (.cells #[.int .i64 t, .int .u8 n] 24) := ⟨_, rfl⟩
  have HVW : Hid (Below w.heap.size w V) := by rw [hV]; exact (Below.refl _ _).alloc (Nat.le_refl _) _
  have q0 : V.cell? ⟨w.heap.size, 0, none⟩ = some (.int .i64 t) := by rw [hV, World.cell?_alloc_new]; rfl
  have q1 : V.cell? ⟨w.heap.size, 1, none⟩ = some (.int .u8 n) := by rw [hV, World.cell?_alloc_new]; rfl
  have hVs : w.heap.size < V.heap.size := by rw [hV]; simp
  have KS : Hid (∀ u, Below V.heap.size V u → u.cell? ⟨w.heap.size, 0, none⟩ = some (.int .i64 t) ∧ u.cell? ⟨w.heap.size, 1, none⟩ = some (.int .u8 n)) := fun u hb => ⟨by rw [hb.cell (p := ⟨w.heap.size, 0, none⟩) hVs]; exact q0, by rw [hb.cell (p := ⟨w.heap.size, 1, none⟩) hVs]; exact q1⟩
  have QX : Hid (∀ u, Below V.heap.size V u → Calls Tryd.prog 26 #[.int .i64 t] u fun e u' => e = .returned (.string X) ∧ Below V.heap.size V u') := fun u hb => by
    rw [hX]
    exact (rdig6_any t u h1 h2).mono (by rintro e u' ⟨rfl, h'⟩; exact ⟨rfl, hb.trans (h'.mono hb.size)⟩)
  have QY : Hid (∀ u, Below V.heap.size V u → Calls Tryd.prog 26 #[.int .i64 n] u fun e u' => e = .returned (.string Y) ∧ Below V.heap.size V u') := fun u hb => by
    rw [hY]
    exact (rdig6_any n u (by omega) (by omega)).mono (by rintro e u' ⟨rfl, h'⟩; exact ⟨rfl, hb.trans (h'.mono hb.size)⟩)
  have hwn : IntKind.i64.wrap n = n := by rw [IntKind.wrap_i64]; omega
  obtain ⟨R, hR⟩ : ∃ R, R = tx6 t n := ⟨_, rfl⟩
  have HR : Hid (X ++ ⟨#[46]⟩ ++ Y = R) := by rw [hR]; exact HE.out
  rw [← hR]
  clear hX hY hR HE sX sY q0 q1 hVs h1 h2
  go_enter Tryd.func20, Tryd.ntmps20
  go_wp2
  rw [← hV]
  clear hV
  go_region_held3 (fun u => u.cell? ⟨w.heap.size, 0, none⟩ = some (.int .i64 t) ∧ u.cell? ⟨w.heap.size, 1, none⟩ = some (.int .u8 n)) (first | exact KS.out _ (by assumption) | exact KS.out _ (Below.refl _ _).drew) (first | (go_at_call_of 26 t; refine (QX.out _ (by first | assumption | exact (Below.refl _ _).drew)).mono ?_; rintro e w5 ⟨rfl, hb5⟩) | (go_at_call_of 26 n; refine (QY.out _ (by first | assumption | exact (Below.refl _ _).drew)).mono ?_; rintro e w6 ⟨rfl, hb6⟩))
  go_wp2
  go_ret
  exact ⟨by rw [← HR.out]; rfl, HVW.out.trans (hb6.mono HVW.out.size)⟩
end Go.Proofs.YtmokepjemplfgaaDoor
