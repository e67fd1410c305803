/-
  What Put and Scan of package frame answer, and what they lean on: putWord, getWord, sum, first.
-/
import Derived.Test.YtlfmhdljldbjmaaRefScan
import Derived.Lib.SlBytesConst
namespace Go.Proofs.Ytlfmhdljldbjmaa
open Go.RowKit
set_option linter.unusedVariables false

theorem put_word (ax : Option Addr) (cx : Nat) (zs : List Int) (v n m base : Nat) (w : World) (hown : w.ownsRow base 5 1 (.slice ax n cx) n (bs zs)) (hby : By zs) (hbase : base ≤ w.heap.size) (hm : n + 4 = m) (hmax : n ≤ 140737488351232) (hv : v < 4294967296) :
    Calls Try.prog 68 #[.slice ax n cx, .int .u32 v] w fun e w' => ∃ ay cy, e = .returned (.slice ay m cy) ∧ w'.ownsRow base 5 1 (.slice ay m cy) m (bs (zs ++ le32 v)) ∧ Below base w w' := by
  subst hm
  have HOWN : Hid (w.ownsRow base 5 1 (.slice ax n cx) n (bs zs)) := hown
  have HBY : Hid (By zs) := hby
  clear hown hby
  go_enter Try.func68, Try.ntmps68
  go_wp2_with (at_builtin; refine wpList_append_on rfl (.tmp 5) (.tmp 17) rfl base w ((Below.refl _ _).alloc hbase _) (by simp; omega) _ _ zs (le32 v) rfl (HOWN.out.alloc _) _ _ _ rfl (row_four w _ (le32 v) (by rw [le32_int v hv]; rfl) (le32_by v)) rfl (fun h => by cases h) HBY.out (by omega) ?_; intro b4 c4 w4 hown4 hb4; have HOWN4 : Hid _ := hown4; have HB4 : Hid _ := hb4; clear hown4 hb4)
  go_ret
  exact ⟨b4, c4, rfl, HOWN4.out, HB4.out⟩

theorem get_word (b off cap : Nat) (zs : List Int) (n : Nat) (w : World) (hn : zs.length = n) (hrow : Row w (some ⟨b, off, none⟩) zs) (h4 : 4 ≤ n) (hmax : n ≤ 140737488351232) :
    Calls Try.prog 66 #[.slice (some ⟨b, off, none⟩) n cap] w fun e w' => e = .returned (.int .u32 (rd32 zs : Nat)) ∧ ∃ m, w' = w.drewN m := by
  obtain ⟨b', off', he, hc⟩ : ∃ b' off', some (⟨b, off, none⟩ : Addr) = some ⟨b', off', none⟩ ∧ ∀ j, j < zs.length → w.cell? ⟨b', off' + j, none⟩ = some (.int .u8 (zs.getD j 0)) := by
    rcases hrow.cells with h | h
    · rw [h] at hn; simp at hn; omega
    · exact h
  cases he
  have c0 : w.cell? ⟨b, off, none⟩ = some (.int .u8 (zs.getD 0 0)) := hc 0 (by omega)
  have c1 : w.cell? ⟨b, off + 1, none⟩ = some (.int .u8 (zs.getD 1 0)) := hc 1 (by omega)
  have c2 : w.cell? ⟨b, off + 2, none⟩ = some (.int .u8 (zs.getD 2 0)) := hc 2 (by omega)
  have c3 : w.cell? ⟨b, off + 3, none⟩ = some (.int .u8 (zs.getD 3 0)) := hc 3 (by omega)
  have b0 := at_byte hrow.bytes 0
  have b1 := at_byte hrow.bytes 1
  have b2 := at_byte hrow.bytes 2
  have b3 := at_byte hrow.bytes 3
  clear hc
  have k1 : (1 : Int) < (n : Int) := by omega
  have k0 : (0 : Int) < (n : Int) := by omega
  have k2 : (2 : Int) < (n : Int) := by omega
  have k3 : (3 : Int) < (n : Int) := by omega
  go_enter Try.func66, Try.ntmps66
  go_wp2
  go_quiet (fail)
  go_wp2
  go_ret
  exact ⟨ret_int (join32 _ _ _ _ b0 b1 b2 b3), nq, rfl⟩

theorem add_of (cs rs : List Int) (hc : By cs) : addN (ofN cs) rs = ofN (cs ++ rs) := by
  unfold ofN addN
  rw [notN_notN _ (Crc.run_lt cs (notN 0) (notN_lt 0) hc), Crc.run_app]
theorem sum_any (a : Option Addr) (cap : Nat) (cs : List Int) (n : Nat) (a' : Option Addr) (cap' : Nat) (rs : List Int) (m : Nat) (w : World) (hn : cs.length = n) (hm : rs.length = m) (hc : Row w a cs) (hr : Row w a' rs) (h1 : n ≤ 140737488351232) (h2 : m ≤ 140737488351232) :
    Calls Try.prog 67 #[.slice a n cap, .slice a' m cap'] w fun e w' => e = .returned (.int .u32 (ofN (cs ++ rs) : Nat)) ∧ w' = w := by
  have A1 : Hid (Calls Try.prog 70 #[.slice a n cap] w fun e w' => e = .returned (.int .u32 (ofN cs : Nat)) ∧ w' = w) := by subst hn; exact of_any a cap cs w hc h1
  have A2 : Hid (Calls Try.prog 69 #[.int .u32 (ofN cs : Nat), .slice a' m cap'] w fun e w' => e = .returned (.int .u32 (ofN (cs ++ rs) : Nat)) ∧ w' = w) := by
    subst hm; rw [← add_of cs rs hc.bytes]; exact add_any (ofN cs) a' cap' rs w (of_lt _) hr h2
  clear hn hm hc hr
  go_enter Try.func67, Try.ntmps67
  go_wp2_with (first | (go_at_call 70; refine A1.out.mono ?_; rintro e w1 ⟨rfl, hw⟩; obtain rfl := hw.symm; clear hw) | (go_at_call 69; refine A2.out.mono ?_; rintro e w1 ⟨rfl, hw⟩; obtain rfl := hw.symm; clear hw))
  go_ret
  exact ⟨rfl, rfl⟩

/-- With a header that fits: the frame is there exactly where the sum is. -/
theorem frame_sum {D R : List Int} {N : Nat} (hb : By D) (hN : N = rd32 D) (hM : rd32 (D.drop 4) = notN N) (h12 : 12 + N ≤ D.length) (hR : R = (D.drop 12).take N) : frameN R = D.take (12 + N) ↔ rd32 (D.drop 8) = ofN (D.take 8 ++ R) := by
  have hl : R.length = N := by rw [hR]; simp; omega
  have e1 : D.take 8 = hd N := by
    have h := List.take_add (l := D) (i := 4) (j := 4)
    have a1 := le_rd D hb (by omega)
    have a2 := le_rd (D.drop 4) (hb.drop 4) (by simp; omega)
    rw [h, ← a1, ← a2, hM, ← hN]; rfl
  have e2 : D.take (12 + N) = hd N ++ (le32 (rd32 (D.drop 8)) ++ R) := by
    have h : D.take (8 + (4 + N)) = D.take 8 ++ (D.drop 8).take (4 + N) := List.take_add
    have h' : (D.drop 8).take (4 + N) = (D.drop 8).take 4 ++ ((D.drop 8).drop 4).take N := List.take_add
    have a1 := le_rd (D.drop 8) (hb.drop 8) (by simp; omega)
    have e : 12 + N = 8 + (4 + N) := by omega
    rw [e, h, h', ← a1, e1, List.drop_drop, hR]
  rw [e2, e1]
  unfold frameN
  rw [hl]
  constructor
  · intro h
    have := List.append_cancel_left h
    exact (le_inj (of_lt _) (rd_lt _ (hb.drop 8)) (List.append_cancel_right this)).symm
  · intro h
    rw [h]
end Go.Proofs.Ytlfmhdljldbjmaa
