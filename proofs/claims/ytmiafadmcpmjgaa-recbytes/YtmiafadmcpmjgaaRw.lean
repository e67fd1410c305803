/-
  What the document writes: a number, a stamp, a flag behind other bytes.
  What the document writes: a text behind other bytes.
-/
import Derived.Test.YtmiafadmcpmjgaaRefNum
import Derived.Test.YtmiafadmcpmjgaaRecPlain
import Derived.Test.YtmiafadmcpmjgaaRefStamp
import Derived.Test.YtmiafadmcpmjgaaRowOne
import Derived.Test.YtmiafadmcpmjgaaNested
import Derived.Test.YtmiafadmcpmjgaaRefRd5
import Derived.Lib.AppendStr
namespace Go.Proofs.Ytmiafadmcpmjgaa
open Go.RowKit
set_option linter.unusedVariables false

theorem puts_bytes {zs : List Int} (h : ∀ z ∈ zs, 0 ≤ z ∧ z ≤ 255) {v : Int} (h0 : 0 ≤ v) (h1 : v ≤ 18446744073709551615) : ∀ z ∈ zs ++ Pl.putI v, 0 ≤ z ∧ z ≤ 255 := by
  intro z hz
  rcases List.mem_append.1 hz with e | e
  · exact h z e
  · exact Pl.put_bytes 9 v (Pl.fits_start v h0 h1) z e
theorem rnum14_any (a : Option Addr) (cap len : Nat) (zs : List Int) (v : Int) (w : World) (hr : Row w a zs) (hl : zs.length = len) (hm : len ≤ 1000000) (hn : a = none → len = 0 ∧ cap = 0) (h0 : 0 ≤ v) (h1 : v ≤ 18446744073709551615) :
    Calls Try.prog 49 #[.slice a len cap, .int .u64 v] w fun e w' => ∃ a' n c', e = .returned (.slice a' n c') ∧ n = (zs ++ Pl.putI v).length ∧ w'.ownsRow w.heap.size 5 1 (.slice a' n c') n (bs (zs ++ Pl.putI v)) ∧ Below w.heap.size w w' := by
  have HR : Hid (Row w a zs) := hr
  have HN : Hid (a = none → len = 0 ∧ cap = 0) := hn
  have HL : Hid (zs.length = len) := hl
  have HP : Hid (∀ w, Calls Try.prog 81 #[.int .u64 v] w fun e w' => ∃ a cap, e = .returned (.slice a (Pl.putI v).length cap) ∧ Row w' a (Pl.putI v) ∧ Below w.heap.size w w') := fun w => rput_any 9 v w (Nat.le_refl _) (Pl.fits_start v h0 h1) h0 h1
  obtain ⟨pl, hpl⟩ : ∃ pl, (Pl.putI v).length = pl := ⟨_, rfl⟩
  have p1 : 1 ≤ pl := hpl ▸ Pl.put_length_pos 9 v
  have p2 : pl ≤ 10 := hpl ▸ Pl.put_length_le 9 v
  have HPL : Hid ((Pl.putI v).length = pl) := hpl
  rw [hpl] at HP
  clear hr hn hl hpl
  go_enter Try.func49, Try.ntmps49
  go_wp2_with (first | (have hgo := HW.out; clear hgo; at_builtin; refine wpList_append_on rfl (.tmp 7) (.tmp 9) rfl w.heap.size w HW.out.2.1 HW.out.2.1.size _ len zs (Pl.putI v) rfl HW.out.1 _ _ _ rfl HW.out.2.2 HPL.out (row_some HW.out.2.2 (by rw [HPL.out]; exact p1)) HR.out.bytes (by omega) ?_; intro a6 c6 w6 o6 b6; have H6 : Hid (w6.ownsRow w.heap.size 5 1 (.slice a6 (len + pl) c6) (len + pl) (bs (zs ++ Pl.putI v)) ∧ Below w.heap.size w w6) := ⟨o6, b6⟩; clear o6 b6) | (have hgo := HO.out; clear hgo; go_at_call 81; refine (HP.out _).mono ?_; rintro e w5 ⟨a5, c5, rfl, r5, b5⟩; have HW : Hid (w5.ownsRow w.heap.size 5 1 (.slice a4 len c4) len (bs zs) ∧ Below w.heap.size w w5 ∧ Row w5 a5 (Pl.putI v)) := ⟨own_below HO.out.1 b5 (Nat.le_refl _), HO.out.2.trans (b5.mono HO.out.2.size), r5⟩; clear r5 b5 HO) | (at_builtin; refine wpList_append_new rfl (.tmp 5) (.tmp 6) rfl rfl zs _ _ _ rfl HR.out HL.out HN.out (by omega) ?_; intro a4 c4 w4 o4 b4; have HO : Hid (w4.ownsRow w.heap.size 5 1 (.slice a4 len c4) len (bs zs) ∧ Below w.heap.size w w4) := ⟨o4, b4⟩; clear o4 b4))
  go_returns
  exact ⟨a6, len + pl, c6, rfl, by rw [List.length_append, HL.out, HPL.out], H6.out.1, H6.out.2⟩
theorem rflag14_any (g : Bool) (w : World) : Calls Try.prog 52 #[.bool g] w fun e w' => e = .returned (.int .u8 (flagB g)) ∧ w' = w := by
  cases g with
  | true =>
    go_enter Try.func52, Try.ntmps52
    go_wp2
    go_returns
    exact ⟨rfl, rfl⟩
  | false =>
    go_enter Try.func52, Try.ntmps52
    go_wp2
    go_returns
    exact ⟨rfl, rfl⟩
theorem rstp14_any (a : Option Addr) (cap len : Nat) (zs : List Int) (t n : Int) (w : World) (hr : Row w a zs) (hl : zs.length = len) (hm : len ≤ 1000000) (hn : a = none → len = 0 ∧ cap = 0) (hn0 : 0 ≤ n ∧ n ≤ 255) :
    Calls Try.prog 51 #[.slice a len cap, .agg #[.int .i64 t, .int .u8 n]] w fun e w' => ∃ a' m c', e = .returned (.slice a' m c') ∧ m = (zs ++ stpB t n).length ∧ w'.ownsRow w.heap.size 5 1 (.slice a' m c') m (bs (zs ++ stpB t n)) ∧ Below w.heap.size w w' := by
  obtain ⟨V, hV⟩ : ∃ V, (if okS t then t * 256 + n else 0) = V := ⟨_, rfl⟩
  have hv : 0 ≤ V ∧ V ≤ 18446744073709551615 := by rw [← hV]; split <;> omega
  have CP : Hid (∀ w, Calls Try.prog 82 #[.agg #[.int .i64 t, .int .u8 n]] w fun e w' => e = .returned (.tuple #[.int .u64 V, .bool (decide (okS t))]) ∧ Below w.heap.size w w') := fun w => hV ▸ rpack6_any t n w hn0
  have CN : Hid (∀ w', Below w.heap.size w w' → Calls Try.prog 49 #[.slice a len cap, .int .u64 V] w' fun e w'' => ∃ a' m c', e = .returned (.slice a' m c') ∧ m = (zs ++ stpB t n).length ∧ w''.ownsRow w.heap.size 5 1 (.slice a' m c') m (bs (zs ++ stpB t n)) ∧ Below w.heap.size w w'') := fun w' hb => by
    refine (rnum14_any a cap len zs V w' (hr.below hb (Nat.le_refl _)) hl hm hn hv.1 hv.2).mono ?_
    rintro e w'' ⟨a', m, c', h1, h2, h3, h4⟩
    have e2 : zs ++ Pl.putI V = zs ++ stpB t n := by unfold stpB; rw [hV]
    rw [e2] at h2 h3
    exact ⟨a', m, c', h1, h2, ⟨h3.1, h3.2.imp id (fun ⟨g, c, cur, x1, x2, x3⟩ => ⟨g, c, cur, x1, Nat.le_trans hb.size x2, x3⟩)⟩, hb.trans (h4.mono hb.size)⟩
  have HB : Hid (∀ o w2, Below (w.alloc o).heap.size (w.alloc o) w2 → Below w.heap.size w w2) := fun o w2 h => ((Below.refl _ _).alloc (Nat.le_refl _) o).trans (h.mono (by simp))
  obtain ⟨ok, hok⟩ : ∃ ok, decide (okS t) = ok := ⟨_, rfl⟩
  rw [hok] at CP
  clear hr hl hm hn hV hv hok
  go_enter Try.func51, Try.ntmps51
  go_wp2_with (first | (have hgo := HQ.out; clear hgo; go_at_call 49; refine (CN.out _ HQ.out).mono ?_; rintro e w3 ⟨a', m, c', rfl, h2, h3, h4⟩; have H3 : Hid (m = (zs ++ stpB t n).length ∧ w3.ownsRow w.heap.size 5 1 (.slice a' m c') m (bs (zs ++ stpB t n)) ∧ Below w.heap.size w w3) := ⟨h2, h3, h4⟩; clear h2 h3 h4) | (go_at_call 82; refine (CP.out _).mono ?_; rintro e w2 ⟨rfl, b2⟩; have HQ : Hid (Below w.heap.size w w2) := HB.out _ _ b2; clear b2))
  go_returns
  exact ⟨a', m, c', rfl, H3.out.1, H3.out.2.1, H3.out.2.2⟩
end Go.Proofs.Ytmiafadmcpmjgaa

namespace Go.Proofs.Ytmiafadmcpmjgaa
open Go.RowKit
set_option linter.unusedVariables false

theorem strs_cells {l : List Int} (h : ∀ z ∈ l, 0 ≤ z ∧ z ≤ 255) : Lib.strCells (strOfNums l) = bs l := str_cells h
set_option maxRecDepth 8000 in
theorem rtxt14_any (a : Option Addr) (cap len : Nat) (zs l : List Int) (w : World) (hr : Row w a zs) (hl : zs.length = len) (hm : len ≤ 1000000) (hn : a = none → len = 0 ∧ cap = 0) (hb : ∀ z ∈ l, 0 ≤ z ∧ z ≤ 255) (hlm : l.length ≤ 1000000) :
    Calls Try.prog 58 #[.slice a len cap, .string (strOfNums l)] w fun e w' => ∃ a' m c', e = .returned (.slice a' m c') ∧ m = (zs ++ txtB l).length ∧ w'.ownsRow w.heap.size 5 1 (.slice a' m c') m (bs (zs ++ txtB l)) ∧ Below w.heap.size w w' := by
  have HZ : Hid ((strOfNums l).size = l.length) := strOfNums_size l
  obtain ⟨s, hs⟩ : ∃ s, s = strOfNums l := ⟨_, rfl⟩
  have HS : Hid (Lib.strCells s = bs l) := hs ▸ strs_cells hb
  rw [← hs] at HZ ⊢
  have hsz : s.size ≤ 1000000 := by rw [HZ.out]; exact hlm
  have CN : Hid (Calls Try.prog 49 #[.slice a len cap, .int .u64 (s.size : Nat)] w fun e w'' => ∃ a' m c', e = .returned (.slice a' m c') ∧ m = (zs ++ Pl.putI s.size).length ∧ w''.ownsRow w.heap.size 5 1 (.slice a' m c') m (bs (zs ++ Pl.putI s.size)) ∧ Below w.heap.size w w'') := rnum14_any a cap len zs s.size w hr hl hm hn (by omega) (by omega)
  have hmx : (zs ++ Pl.putI s.size).length ≤ 1000010 := by have := Pl.put_length_le 9 (s.size : Int); rw [List.length_append]; unfold Pl.putI; omega
  have HE : Hid (zs ++ Pl.putI s.size ++ l = zs ++ txtB l ∧ (zs ++ txtB l).length = (zs ++ Pl.putI s.size).length + s.size) := by
    have e : zs ++ txtB l = zs ++ Pl.putI s.size ++ l := by unfold txtB; rw [HZ.out, List.append_assoc]
    exact ⟨e.symm, by rw [e]; simp only [List.length_append, HZ.out]⟩
  obtain ⟨M, hM⟩ : ∃ M, M = (zs ++ Pl.putI s.size).length := ⟨_, rfl⟩
  rw [← hM] at CN hmx HE
  obtain ⟨i0, hi, hz0, hz1, hz2⟩ := info_parts info5
  have HI : Hid (Try.prog.info? 5 = some i0) := hi
  clear hr hl hm hn hs hM hi hb hlm
  go_enter Try.func58, Try.ntmps58
  go_wp2_with (first | (have hgo := HQ.out; clear hgo; at_builtin; refine Lib.wpList_append_own_string _ rfl (.tmp 9) (.tmp 10) 32 9 rfl w.heap.size 5 i0 Try.underlying32 Try.underlying9 HI.out hz0 hz1 hz2 _ M (bs (zs ++ Pl.putI s.size)) rfl HQ.out.1 s rfl (by unfold maxLen; omega) (by omega) HQ.out.2.size ?_; intro v6 w6 o6 g6 _; obtain ⟨a6, c6, rfl⟩ := own_form o6; have H6 : Hid (w6.ownsRow w.heap.size 5 1 (.slice a6 (M + s.size) c6) (M + s.size) (bs (zs ++ txtB l)) ∧ Below w.heap.size w w6) := ⟨by rw [HS.out, ← bs_app, HE.out.1] at o6; exact o6, HQ.out.2.grown g6 HQ.out.2.size (fun k hk => (HQ.out.1.lt k hk).1)⟩; clear o6 g6) | (go_at_call 49; refine CN.out.mono ?_; rintro e w3 ⟨a', m, c', rfl, h2, h3, h4⟩; obtain rfl := h2.symm; have HQ : Hid (w3.ownsRow w.heap.size 5 1 (.slice a' M c') M (bs (zs ++ Pl.putI s.size)) ∧ Below w.heap.size w w3) := ⟨h3, h4⟩; clear h3 h4))
  go_returns
  exact ⟨a6, M + s.size, c6, rfl, HE.out.2.symm, H6.out.1, H6.out.2⟩
end Go.Proofs.Ytmiafadmcpmjgaa

