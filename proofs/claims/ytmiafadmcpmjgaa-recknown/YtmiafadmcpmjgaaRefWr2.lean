/-
  What the document writes: a text behind other bytes.
-/
import Derived.Test.YtmiafadmcpmjgaaRefWr1
import Derived.Test.YtmiafadmcpmjgaaRefRd5
import Derived.Lib.AppendStr
namespace Go.Proofs.Ytmiafadmcpmjgaa
open Go.RowKit
set_option linter.unusedVariables false

theorem strs_cells {l : List Int} (h : ∀ z ∈ l, 0 ≤ z ∧ z ≤ 255) : Lib.strCells (strOfNums l) = bs l := str_cells h
set_option maxRecDepth 8000 in
theorem rtxt14_any (a : Option Addr) (cap len : Nat) (zs l : List Int) (w : World) (hr : Row w a zs) (hl : zs.length = len) (hm : len ≤ 1000000) (hn : a = none → len = 0 ∧ cap = 0) (hb : ∀ z ∈ l, 0 ≤ z ∧ z ≤ 255) (hlm : l.length ≤ 1000000) :
    Calls Try.prog 58 #[.slice a len cap, .string (strOfNums l)] w fun e w' => ∃ a' m c', e = .returned (.slice a' m c') ∧ m = (zs ++ txtB l).length ∧ w'.ownsRow w.heap.size 5 1 (.slice a' m c') m (bs (zs ++ txtB l)) ∧ Below w.heap.size w w' := by
  have HZ : Hid ((strOfNums l).size = l.length) := strOfNums_size l
  obtain ⟨s, hs⟩ : ∃ s, s = strOfNums l := ⟨_, rfl⟩
  have HS : Hid (Lib.strCells s = bs l) := hs ▸ strs_cells hb
  rw [← hs] at HZ ⊢
  have hsz : s.size ≤ 1000000 := by rw [HZ.out]; exact hlm
  have CN : Hid (Calls Try.prog 49 #[.slice a len cap, .int .u64 (s.size : Nat)] w fun e w'' => ∃ a' m c', e = .returned (.slice a' m c') ∧ m = (zs ++ Pl.putI s.size).length ∧ w''.ownsRow w.heap.size 5 1 (.slice a' m c') m (bs (zs ++ Pl.putI s.size)) ∧ Below w.heap.size w w'') := rnum14_any a cap len zs s.size w hr hl hm hn (by omega) (by omega)
  have hmx : (zs ++ Pl.putI s.size).length ≤ 1000010 := by have := Pl.put_length_le 9 (s.size : Int); rw [List.length_append]; unfold Pl.putI; omega
  have HE : Hid (zs ++ Pl.putI s.size ++ l = zs ++ txtB l ∧ (zs ++ txtB l).length = (zs ++ Pl.putI s.size).length + s.size) := by
    have e : zs ++ txtB l = zs ++ Pl.putI s.size ++ l := by unfold txtB; rw [HZ.out, List.append_assoc]
    exact ⟨e.symm, by rw [e]; simp only [List.length_append, HZ.out]⟩
  obtain ⟨M, hM⟩ : ∃ M, M = (zs ++ Pl.putI s.size).length := ⟨_, rfl⟩
  rw [← hM] at CN hmx HE
  obtain ⟨i0, hi, hz0, hz1, hz2⟩ := info_parts info5
  have HI : Hid (Try.prog.info? 5 = some i0) := hi
  clear hr hl hm hn hs hM hi hb hlm
  go_enter Try.func58, Try.ntmps58
  go_wp2_with (first | (have hgo := HQ.out; clear hgo; at_builtin; refine Lib.wpList_append_own_string _ rfl (.tmp 9) (.tmp 10) 32 9 rfl w.heap.size 5 i0 Try.underlying32 Try.underlying9 HI.out hz0 hz1 hz2 _ M (bs (zs ++ Pl.putI s.size)) rfl HQ.out.1 s rfl (by unfold maxLen; omega) (by omega) HQ.out.2.size ?_; intro v6 w6 o6 g6 _; obtain ⟨a6, c6, rfl⟩ := own_form o6; have H6 : Hid (w6.ownsRow w.heap.size 5 1 (.slice a6 (M + s.size) c6) (M + s.size) (bs (zs ++ txtB l)) ∧ Below w.heap.size w w6) := ⟨by rw [HS.out, ← bs_app, HE.out.1] at o6; exact o6, HQ.out.2.grown g6 HQ.out.2.size (fun k hk => (HQ.out.1.lt k hk).1)⟩; clear o6 g6) | (go_at_call 49; refine CN.out.mono ?_; rintro e w3 ⟨a', m, c', rfl, h2, h3, h4⟩; obtain rfl := h2.symm; have HQ : Hid (w3.ownsRow w.heap.size 5 1 (.slice a' M c') M (bs (zs ++ Pl.putI s.size)) ∧ Below w.heap.size w w3) := ⟨h3, h4⟩; clear h3 h4))
  go_returns
  exact ⟨a6, M + s.size, c6, rfl, HE.out.2.symm, H6.out.1, H6.out.2⟩
end Go.Proofs.Ytmiafadmcpmjgaa
