/-
  What the document's own Put answers, for every number: the number's bytes, in a new list.
-/
import Derived.Test.YtpbjdhinogphfaaAppend
namespace Go.Proofs.Ytpbjdhinogphfaa
open Go.RowKit
set_option linter.unusedVariables false

/-- What is owned stays owned where nothing below has turned. -/
theorem own_below {w w' : World} {base n cap g B : Nat} {xs : List Value} (h : w.ownsRow base 5 1 (.slice (some ⟨g, 0, none⟩) n cap) n xs) (hb : Below B w w') (hg : g < B) : w'.ownsRow base 5 1 (.slice (some ⟨g, 0, none⟩) n cap) n xs := by
  refine ⟨h.1, ?_⟩
  rcases h.2 with ⟨h1, _⟩ | ⟨g', cap', cur, he, h1, h2, h3⟩
  · cases h1
  · cases he
    exact .inr ⟨g, cap, cur, rfl, h1, by rw [hb.block g hg]; exact h2, h3⟩
theorem own_lit (w : World) (c : Int) : (w.alloc (.cells #[.int .u8 c] 5)).ownsRow w.heap.size 5 1 (.slice (some ⟨w.heap.size, 0, none⟩) 1 1) 1 (bs [c]) :=
  ⟨rfl, .inr ⟨w.heap.size, 1, #[.int .u8 c], rfl, Nat.le_refl _, heap_alloc_new w _, Nat.le_refl _, by decide, rfl, rfl⟩⟩

theorem row_some {w : World} {a : Option Addr} {zs : List Int} (h : Row w a zs) (hp : 1 ≤ zs.length) {m c : Nat} (ha : a = none) : m = 0 ∧ c = 0 := by
  rcases h.cells with rfl | ⟨b, off, h, _⟩
  · simp at hp
  · rw [ha] at h; cases h
/-- What stands behind the call of itself. -/
theorem rput_mid {w w2 : World} {c : Int} (hb2 : Below (w.alloc (.cells #[.int .u8 c] 5)).heap.size (w.alloc (.cells #[.int .u8 c] 5)) w2) :
    w2.ownsRow w.heap.size 5 1 (.slice (some ⟨w.heap.size, 0, none⟩) 1 1) 1 (bs [c]) ∧ Below w.heap.size w w2 := by
  have e : (w.alloc (.cells #[.int .u8 c] 5)).heap.size = w.heap.size + 1 := by simp
  exact ⟨own_below (own_lit w c) hb2 (by omega), ((Below.refl _ _).alloc (Nat.le_refl _) _).trans (hb2.mono (by omega))⟩

theorem rput_any (f : Nat) : ∀ (x : Int) (w : World), f ≤ 9 → Pl.Fits f x → 0 ≤ x → x ≤ 18446744073709551615 →
    Calls Try.prog 16 #[.int .u64 x] w fun e w' => ∃ a cap, e = .returned (.slice a (Pl.putF f x).length cap) ∧ Row w' a (Pl.putF f x) ∧ Below w.heap.size w w' := by
  induction f with
  | zero =>
    intro x w hf9 hf h0 h1
    have hlt := Pl.fits_zero hf
    have hm : x % 256 = x := by omega
    have HP : Hid (Pl.putF 0 x = [x]) := rfl
    have HB : Hid (∀ z ∈ [x], 0 ≤ z ∧ z ≤ 255) := fun z hz => by simp at hz; omega
    clear hf
    go_enter Try.func16, Try.ntmps16
    go_wp2_with fail
    go_ret
    exact ⟨_, _, rfl, row_of_own (own_lit w x) HB.out, (Below.refl _ _).alloc (Nat.le_refl _) _⟩
  | succ f ih =>
    intro x w hf9 hf h0 h1
    by_cases hlt : x < 128
    · have hm : x % 256 = x := by omega
      have HP : Hid (Pl.putF (f + 1) x = [x]) := Pl.put_last hlt
      have HB : Hid (∀ z ∈ [x], 0 ≤ z ∧ z ≤ 255) := fun z hz => by simp at hz; omega
      have IH : Hid _ := ih
      clear hf ih
      go_enter Try.func16, Try.ntmps16
      go_wp2_with fail
      go_ret
      refine ⟨some ⟨w.heap.size, 0, none⟩, 1, ?_, ?_, (Below.refl _ _).alloc (Nat.le_refl _) _⟩
      · rw [HP.out]; rfl
      · rw [HP.out]; exact row_of_own (own_lit w x) HB.out
    · have HP : Hid (Pl.putF (f + 1) x = (x % 128 + 128) :: Pl.putF f (x / 128)) := Pl.put_more (by omega)
      have IH : Hid (∀ w, Calls Try.prog 16 #[.int .u64 (x / 128)] w fun e w' => ∃ a cap, e = .returned (.slice a (Pl.putF f (x / 128)).length cap) ∧ Row w' a (Pl.putF f (x / 128)) ∧ Below w.heap.size w w') := fun w => ih (x / 128) w (by omega) (Pl.fits_step hf) (by omega) (by omega)
      have hlen := Pl.put_length_le f (x / 128)
      have hpos := Pl.put_length_pos f (x / 128)
      clear hf ih
      go_enter Try.func16, Try.ntmps16
      have HX : Hid (∀ z ∈ [x % 128 + 128], 0 ≤ z ∧ z ≤ 255) := fun z hz => by simp at hz; omega
      go_wp2_with (first | (go_at_call 16; refine (IH.out _).mono ?_; rintro e w2 ⟨a2, c2, rfl, hrow2, hb2⟩; have HM : Hid _ := rput_mid hb2; have HROW : Hid (Row w2 a2 (Pl.putF f (x / 128))) := hrow2; clear hrow2 hb2) | (at_builtin; refine wpList_append_on rfl (.tmp 12) (.tmp 15) rfl w.heap.size w HM.out.2 HM.out.2.size _ 1 [x % 128 + 128] (Pl.putF f (x / 128)) rfl HM.out.1 _ _ _ rfl HROW.out rfl (row_some HROW.out hpos) HX.out (by omega) ?_; intro a3 c3 w3 hown3 hb3))
      go_ret
      have e1 : (Pl.putF (f + 1) x).length = 1 + (Pl.putF f (x / 128)).length := by rw [HP.out, List.length_cons]; omega
      refine ⟨a3, c3, ?_, ?_, hb3⟩
      · rw [e1]; rfl
      · rw [HP.out]
        refine own_row (cap := c3) hown3 ?_
        intro z hz
        rcases List.mem_cons.1 hz with h | h
        · exact HX.out z (by rw [h]; simp)
        · exact HROW.out.bytes z h
end Go.Proofs.Ytpbjdhinogphfaa
