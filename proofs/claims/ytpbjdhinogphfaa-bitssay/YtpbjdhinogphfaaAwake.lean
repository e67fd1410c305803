/-
  The law's own first question (awake): it answers true, and turns nothing that was there.
-/
import Derived.Test.YtpbjdhinogphfaaPut
import Derived.Laws.BytesArg
namespace Go.Proofs.Ytpbjdhinogphfaa
open Go.RowKit
set_option linter.unusedVariables false

theorem add_plain (b off j : Nat) : (⟨b, off, none⟩ : Addr).add j = ⟨b, off + j, none⟩ := by unfold Addr.add; split <;> simp_all
theorem row_of_own {w : World} {base g n cap : Nat} {zs : List Int} (h : w.ownsRow base 5 1 (.slice (some ⟨g, 0, none⟩) n cap) n (bs zs)) (hb : ∀ z ∈ zs, 0 ≤ z ∧ z ≤ 255) : Row w (some ⟨g, 0, none⟩) zs := by
  refine ⟨hb, .inr ⟨g, 0, rfl, fun j hj => ?_⟩⟩
  have := h.cells (g := g) rfl j (.int .u8 (zs.getD j 0)) (by simp [bs, hj])
  rw [add_plain] at this
  exact this
theorem Row.below {w w' : World} {a : Option Addr} {zs : List Int} (h : Row w a zs) {B : Nat} (hb : Below B w w') (hB : w.heap.size ≤ B) : Row w' a zs := by
  refine ⟨h.1, ?_⟩
  rcases h.2 with rfl | ⟨b, off, rfl, hc⟩
  · exact .inl rfl
  · exact .inr ⟨b, off, rfl, fun j hj => by rw [hb.cell (Nat.lt_of_lt_of_le (lt_of_cell (hc j hj)) hB)]; exact hc j hj⟩
/-- The same where the list lies below a number that is not the whole memory's size. -/
theorem Row.nil (w : World) (a : Option Addr) : Row w a [] := ⟨by simp, .inl rfl⟩
theorem str_of_row {w : World} {a : Option Addr} {zs : List Int} (h : Row w a zs) (cap : Nat) :
    (convert 27 9 (.slice a zs.length cap)).run Try.prog w = .ok (.string (strOfNums zs)) w := by
  rcases h.2 with rfl | ⟨b, off, rfl, hc⟩
  · cases a with
    | none => exact run_convert_bytes_nil w 27 5 Try.underlying27 Try.underlying5 0 cap 9 Try.underlying9
    | some ad =>
      have hl : (loadCells ad 0).run Try.prog w = .ok (([] : List Int).map (Value.int .u8)).toArray w := by simpa using run_loadCells_list (P := Try.prog) w ad [] (by simp)
      show (convert 27 9 (.slice (some ad) 0 cap)).run Try.prog w = _
      rw [run_convert_bytes_string w 27 9 5 _ 0 cap Try.underlying27 Try.underlying5 Try.underlying9, run_bytesToString w ad 0 cap [] hl]
      rfl
  · exact run_convert_bytes_arg w 27 5 Try.underlying27 Try.underlying5 b off zs.length cap zs rfl (fun i hi => hc i hi) 9 Try.underlying9

theorem put_row (a : Option Addr) (cap : Nat) (zs : List Int) (v : Int) (w : World) (hrow : Row w a zs) (hmax : zs.length ≤ 140737488351232) (h0 : 0 ≤ v) (h1 : v ≤ 18446744073709551615) :
    Calls Try.prog 18 #[.slice a zs.length cap, .int .u64 v] w fun e w' =>
      e = .returned (.slice (some ⟨w.heap.size, 0, none⟩) (zs ++ Pl.putI v).length (zs ++ Pl.putI v).length) ∧ Row w' (some ⟨w.heap.size, 0, none⟩) (zs ++ Pl.putI v) ∧ Below w.heap.size w w' ∧ w.heap.size < w'.heap.size := by
  refine (put_any a cap zs v w hrow hmax h0 h1).mono ?_
  rintro e w' ⟨rfl, hown, hb⟩
  refine ⟨by rw [List.length_append], row_of_own (by simpa only [List.length_append] using hown) ?_, hb, (hown.lt _ rfl).2⟩
  intro z hz
  rcases List.mem_append.1 hz with h | h
  · exact hrow.1 z h
  · exact Pl.put_bytes 9 v (Pl.fits_start v h0 h1) z h

theorem str_two {w : World} {a : Option Addr} (h : Row w a [172, 2]) : (convert 27 9 (.slice a 2 2)).run Try.prog w = .ok (.string ⟨#[172, 2]⟩) w := str_of_row h 2
theorem awake_any (w : World) : Calls Try.prog 9 #[] w fun e w' => e = .returned (.bool true) ∧ Below w.heap.size w w' := by
  have hput := put_row none 0 [] 300 w (Row.nil _ _) (by simp) (by omega) (by omega)
  have e300 : ([] : List Int) ++ Pl.putI 300 = [172, 2] := by decide +kernel
  rw [e300] at hput
  have HP : Hid (Calls Try.prog 18 #[.slice none 0 0, .int .u64 300] w fun e w' => e = .returned (.slice (some ⟨w.heap.size, 0, none⟩) 2 2) ∧ Row w' (some ⟨w.heap.size, 0, none⟩) [172, 2] ∧ Below w.heap.size w w' ∧ w.heap.size < w'.heap.size) := hput
  clear hput e300
  have hg : ∀ w1, Row w1 (some ⟨w.heap.size, 0, none⟩) [172, 2] → Calls Try.prog 10 #[.slice (some ⟨w.heap.size, 0, none⟩) 2 2] w1 fun e w' => e = .returned (.tuple #[.int .u64 300, .int .i64 2, .int .i64 0]) ∧ w' = w1 := by
    intro w1 hr
    have e : Pl.getI [172, 2] = (300, 2, 0) := by decide +kernel
    have := get_any (some ⟨w.heap.size, 0, none⟩) 2 [172, 2] w1 hr (by simp)
    rw [e] at this
    exact this
  have HG : Hid _ := hg
  clear hg
  have hz : Pl.zigI (-2) = 3 := by decide
  go_enter Try.func9, Try.ntmps9
  go_wp2_with (first | (go_at_call 18; refine HP.out.mono ?_; rintro e w1 ⟨rfl, hrow, hb, hs⟩; have hcv := str_two hrow; have HR : Hid _ := hrow; clear hrow) | (go_at_call 10; refine (HG.out _ HR.out).mono ?_; rintro e w2 ⟨rfl, hw⟩; obtain rfl := hw.symm; clear hw) | (go_at_call 12; refine (zig_any _ _ (by omega) (by omega)).mono ?_; rintro e w2 ⟨rfl, hw⟩; obtain rfl := hw.symm; clear hw))
  go_ret
  exact ⟨rfl, hb⟩
end Go.Proofs.Ytpbjdhinogphfaa
