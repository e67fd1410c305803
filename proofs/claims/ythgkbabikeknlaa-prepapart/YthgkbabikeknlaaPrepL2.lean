/-
  A landed table of the call's own, as layer 13's statements use it; what their own helpers of and awake answer.
-/
import Derived.Test.YthgkbabikeknlaaPt
import Derived.Test.YthgkbabikeknlaaPrepL1
import Derived.Test.YthgkbabikeknlaaWrtBuild
namespace Go.Proofs.Ythgkbabikeknlaa
open Go.RowKit
set_option linter.unusedVariables false

/-- A table that has come since w. -/
def PX (w u : World) (p : Nat) (M : List EntM) : Prop := ∃ X, PTab u p M X ∧ Below w.heap.size w u ∧ ∀ k, X k → w.heap.size ≤ k
theorem PX.below {w u : World} {p : Nat} {M : List EntM} (h : PX w u p M) : Below w.heap.size w u := by obtain ⟨X, _, h, _⟩ := h; exact h
theorem PX.tab {w u : World} {p : Nat} {M : List EntM} (h : PX w u p M) : TabK (ents M) := by obtain ⟨X, h, _⟩ := h; exact h.tab
theorem PX.past {w u u' : World} {p : Nat} {M : List EntM} (h : PX w u p M) (hb : Below u.heap.size u u') : PX w u' p M := by
  obtain ⟨X, h1, h2, h3⟩ := h
  exact ⟨X, h1.past hb, h2.trans (hb.mono h2.size), h3⟩
theorem xpnew (w : World) : Calls Try.prog 7 #[] w fun e w' => ∃ p, e = .returned (.pointer (some ⟨p, 0, none⟩)) ∧ PX w w' p [] := by
  refine (pnew_any w).mono ?_
  rintro e w' ⟨p, X, rfl, h1, h2, h3⟩
  exact ⟨p, rfl, X, h1, h2, h3⟩
theorem padd_ev (p : Nat) (M : List EntM) (X : Foot) (Y : EntM) (w : World) (h : PTab w p M X) (he : EntW w Y) :
    Calls Try.prog 8 #[.pointer (some ⟨p, 0, none⟩), ev Y] w fun e w' => e = .returned (.int .i64 (addT (ents M) Y.e).1) ∧ ∃ M' X', ents M' = (addT (ents M) Y.e).2 ∧ PTab w' p M' X' ∧ Did w w' X X' ∧ NewW w M M' :=
  padd_any p M X Y.e.id Y.e.s Y.e.m Y.e.t Y.e.n Y.a Y.e.l.length Y.c Y.e.l w h rfl he
theorem xpadd {w u : World} {p : Nat} {M : List EntM} (h : PX w u p M) (Y : EntM) (he : EntW u Y) :
    Calls Try.prog 8 #[.pointer (some ⟨p, 0, none⟩), ev Y] u fun e w' => e = .returned (.int .i64 (addT (ents M) Y.e).1) ∧ ∃ M', ents M' = (addT (ents M) Y.e).2 ∧ PX w w' p M' := by
  obtain ⟨X, h1, h2, h3⟩ := h
  refine (padd_ev p M X Y u h1 he).mono ?_
  rintro e w' ⟨rfl, M', X', j1, j2, j3, _⟩
  exact ⟨rfl, M', j1, X', j2, h2.trans (j3.chg.below h2.size h3), fun k hk => (j3.new k hk).1.elim (h3 k) (fun e => Nat.le_trans h2.size e)⟩
theorem xpdrop {w u : World} {p : Nat} {M : List EntM} (h : PX w u p M) (id : Int) :
    Calls Try.prog 15 #[.pointer (some ⟨p, 0, none⟩), .int .i64 id] u fun e w' => e = .returned (.tuple #[ev (orE (hasM M id)), .bool (hasM M id).isSome]) ∧ PX w w' p (dropM M id) := by
  obtain ⟨X, h1, h2, h3⟩ := h
  refine (pdrop_any p M X id u h1).mono ?_
  rintro e w' ⟨rfl, j1, j2, _⟩
  exact ⟨rfl, X, j1, h2.trans (j2.chg.below h2.size h3), h3⟩
theorem xpholder {w u : World} {p : Nat} {M : List EntM} (h : PX w u p M) (k : List Int) (hk : Ky k) :
    Calls Try.prog 12 #[.pointer (some ⟨p, 0, none⟩), kv k] u fun e w' => e = .returned (.tuple #[.int .i64 (orE (holdM M k)).e.id, .bool (holdM M k).isSome]) ∧ PX w w' p M := by
  obtain ⟨X, h1, _⟩ := id h
  refine (pholder_any p M X k hk u h1).mono ?_
  rintro e w' ⟨rfl, hb⟩
  exact ⟨rfl, h.past hb⟩
theorem xpblocks {w u : World} {p : Nat} {M : List EntM} (h : PX w u p M) (k : List Int) (hk : Ky k) (t n : Int) :
    Calls Try.prog 25 #[.pointer (some ⟨p, 0, none⟩), kv k, .agg #[.int .i64 t, .int .u8 n]] u fun e w' => e = .returned (.tuple #[.int .i64 ((blocksT (ents M) k t n).getD 0), .bool (blocksT (ents M) k t n).isSome]) ∧ PX w w' p M := by
  obtain ⟨X, h1, _⟩ := id h
  refine (pblocks_any p M X k hk t n u h1).mono ?_
  rintro e w' ⟨rfl, hb⟩
  exact ⟨rfl, h.past hb⟩
theorem xpleast {w u : World} {p : Nat} {M : List EntM} (h : PX w u p M) :
    Calls Try.prog 11 #[.pointer (some ⟨p, 0, none⟩)] u fun e w' => e = .returned (.tuple #[.agg #[.int .i64 (lsT (leastT (ents M))), .int .u8 (lsN (leastT (ents M)))], .bool (leastT (ents M)).isSome]) ∧ PX w w' p M := by
  obtain ⟨X, h1, _⟩ := id h
  refine (pleast_any p M X u h1).mono ?_
  rintro e w' ⟨rfl, hb⟩
  exact ⟨rfl, h.past hb⟩
theorem xphas {w u : World} {p : Nat} {M : List EntM} (h : PX w u p M) (i : Int) :
    Calls Try.prog 16 #[.pointer (some ⟨p, 0, none⟩), .int .i64 i] u fun e w' => (∃ Y, e = .returned (.tuple #[ev Y, .bool (hasM M i).isSome]) ∧ EntOf w' u.heap.size Y (orE (hasM M i)).e) ∧ PX w w' p M := by
  obtain ⟨X, h1, _⟩ := id h
  refine (phas_any p M X i u h1).mono ?_
  rintro e w' ⟨h2, hb⟩
  exact ⟨h2, h.past hb⟩
theorem xpall {w u : World} {p : Nat} {M : List EntM} (h : PX w u p M) :
    Calls Try.prog 14 #[.pointer (some ⟨p, 0, none⟩)] u fun e w' => (∃ a c L, e = .returned (.slice a M.length c) ∧ AllOf w' u.heap.size (.slice a M.length c) L (ents M)) ∧ PX w w' p M := by
  obtain ⟨X, h1, _⟩ := id h
  refine (pall_any p M X u h1).mono ?_
  rintro e w' ⟨h2, hb⟩
  exact ⟨h2, h.past hb⟩
set_option maxHeartbeats 4000000 in
set_option maxRecDepth 4000 in
theorem lof_any (id t : Int) (hid : -9223372036854775808 ≤ id ∧ id ≤ 9223372036854775807) (htt : -9223372036854775808 ≤ t ∧ t ≤ 9223372036854775807) (s : List Int) (hs : ∀ z ∈ s, 0 ≤ z ∧ z ≤ 255) (hm : s.length ≤ 140737488351232) (S : ByteArray) (hS : S = strOfNums s) (K : List Int) (hK : K = ofK s) (w : World) :
    Calls Try.prog 9 #[.int .i64 id, .string S, .int .i64 t] w fun e w' => (∃ Y, e = .returned (ev Y) ∧ Y.e = ⟨id, 0, 0, t, 0, [⟨K, [118], false⟩]⟩ ∧ EntW w' Y) ∧ Below w.heap.size w w' := by
  have KY : Hid (Ky K) := by rw [hK]; exact ofK_ky hs
  have CA : Hid (∀ u, Calls Try.prog 10 #[.int .i64 t] u fun e w' => e = .returned (.agg #[.int .i64 t, .int .u8 0]) ∧ Below u.heap.size u w') := fun u => latt_any t u
  have CK : Hid (∀ u, Calls Try.prog 13 #[.string S] u fun e w' => e = .returned (kv K) ∧ Below u.heap.size u w') := fun u => lk_any s hs hm S hS K hK u
  have hbw : Below w.heap.size w (w.alloc (.cells (encE zeroE).toArray 31)) := (Below.refl _ _).alloc (Nat.le_refl _) _
  have hmi := EntMine.made w 31 zeroE
  rw [zeroE_cells] at hmi hbw
  have HM0 : Hid _ := hmi
  have HBW : Hid _ := hbw
  have HS : Hid ((Value.string ⟨#[118]⟩) = .string (strOfNums [118])) := rfl
  have HEO : Hid (EntOk ⟨id, 0, 0, t, 0, [⟨K, [118], false⟩]⟩) := ⟨hid, (by show (-9223372036854775808 : Int) ≤ 0 ∧ (0 : Int) ≤ 9223372036854775807; omega), (by show (0 : Int) ≤ 0 ∧ (0 : Int) ≤ 255; omega), htt, (by show (0 : Int) ≤ 0 ∧ (0 : Int) ≤ 255; omega)⟩
  have HWO : Hid (WrtOk ⟨K, [118], false⟩) := ⟨KY.out, (by intro z hz; simp at hz; omega), (by show 1 ≤ maxLen; unfold maxLen; omega)⟩
  clear hmi hbw hS hK hs hm
  go_enter Try.func9, Try.ntmps9
  go_wp2_with (first | (go_at_call 10; refine (CA.out _).mono ?_; rintro e w1 ⟨rfl, hb1⟩; have HM1 : Hid (EntMine w1 w.heap.size zeroE) := HM0.out.past hb1; have B1 : Hid (Below w.heap.size w w1) := HBW.out.trans (hb1.mono HBW.out.size); clear hb1 HM0) | (have hgo := HM1.out; clear hgo; go_at_call 13; refine (CK.out _).mono ?_; rintro e w2 ⟨rfl, hb2⟩; have HM2 : Hid (EntMine w2 w.heap.size zeroE) := HM1.out.past hb2; have B2 : Hid (Below w.heap.size w w2) := B1.out.trans (hb2.mono B1.out.size); clear hb2 HM1) | ((with_reducible show wpList _ _ _ (Oper.mk (some 12) _ _ _ _ _ :: _) _ _); refine wpList_build_w2 12 (by rfl) (by rfl) (.tmp 11) (.const (.string ⟨#[118]⟩)) (by rfl) K [118] KY.out (by rfl) HS.out ?_) | ((with_reducible show wpList _ _ _ (Oper.mk (some 13) _ _ _ _ _ :: _) _ _); refine wpList_build_ws1 13 (by rfl) (by rfl) (.tmp 12) (by rfl) ⟨K, [118], false⟩ KY.out (by rfl) ?_) | (have hgo := HM2.out; clear hgo; (with_reducible show wpList _ _ _ (Oper.mk none _ _ _ _ _ :: _) _ _); refine wpList_store_pent (.tmp 6) (by rfl) _ (by rfl) w.heap.size zeroE ⟨⟨id, 0, 0, t, 0, [⟨K, [118], false⟩]⟩, some ⟨w2.heap.size, 0, none⟩, 1⟩ (by rfl) (by rfl) (HM2.out.past ((Below.refl _ _).alloc (Nat.le_refl _) _)) ?_; intro u3 hu; have HM3 : Hid (EntMine u3 w.heap.size ⟨⟨id, 0, 0, t, 0, [⟨K, [118], false⟩]⟩, some ⟨w2.heap.size, 0, none⟩, 1⟩) := hu ▸ (HM2.out.past ((Below.refl _ _).alloc (Nat.le_refl _) _)).store; have HU3 : Hid (u3 = (w2.alloc (.cells (encW ⟨K, [118], false⟩).toArray 46)).setCells w.heap.size 0 (encE ⟨⟨id, 0, 0, t, 0, [⟨K, [118], false⟩]⟩, some ⟨w2.heap.size, 0, none⟩, 1⟩)) := hu; clear hu))
  refine bodyPost_ret (results_pent1 rfl _ _ w.heap.size ⟨⟨id, 0, 0, t, 0, [⟨K, [118], false⟩]⟩, some ⟨w2.heap.size, 0, none⟩, 1⟩ rfl HM3.out.at_) rfl ?_
  have hlt : w.heap.size < w2.heap.size := HM2.out.at_.lt
  refine ⟨⟨_, rfl, rfl, ⟨?_, Nat.le_refl _, by show 1 ≤ 1000000; omega, HEO.out⟩⟩, by rw [HU3.out]; exact below_cells (Nat.le_refl _) (B2.out.alloc B2.out.size _)⟩
  have hat : WrtsAt (w2.alloc (.cells (encW ⟨K, [118], false⟩).toArray 46)) (some ⟨w2.heap.size, 0, none⟩) [⟨K, [118], false⟩] := by
    have := wrts_made w2 [⟨K, [118], false⟩] (fun V hV => by simp at hV; rw [hV]; exact HWO.out)
    simpa using this
  refine hat.kept (fun _ b o e => ?_)
  injection e with e
  injection e with e
  rw [HU3.out, ← e]
  exact cells_else (w := w) (by omega) _ _ _
/-- What awake asks, reckoned. -/
def keyPA : List Int := ofK [97]
theorem keyPA_ky : Ky keyPA := ofK_ky (by decide)
def entPA : Ent := ⟨7, 0, 0, 5, 0, [⟨keyPA, [118], false⟩]⟩
theorem awakeP_add : addT [] entPA = (0, [entPA]) := by kernel_rfl
theorem awakeP_b1 : blocksT [entPA] keyPA 4 9 = none := by decide +kernel
theorem awakeP_b2 : blocksT [entPA] keyPA 5 0 = some 7 := by decide +kernel
set_option maxHeartbeats 4000000 in
set_option maxRecDepth 4000 in
theorem lawakeP_any (w : World) :
    Calls Try.prog 6 #[] w fun e w' => e = .returned (.bool true) ∧ Below w.heap.size w w' := by
  have CN : Hid (Calls Try.prog 7 #[] w fun e w' => ∃ p, e = .returned (.pointer (some ⟨p, 0, none⟩)) ∧ PX w w' p []) := xpnew w
  have CA : Hid (∀ u t, Calls Try.prog 10 #[.int .i64 t] u fun e w' => e = .returned (.agg #[.int .i64 t, .int .u8 0]) ∧ Below u.heap.size u w') := fun u t => latt_any t u
  obtain ⟨K, hK⟩ : ∃ K, K = keyPA := ⟨_, rfl⟩
  have KY : Hid (Ky K) := by rw [hK]; exact keyPA_ky
  have CK : Hid (∀ u, Calls Try.prog 13 #[.string ⟨#[97]⟩] u fun e w' => e = .returned (kv K) ∧ Below u.heap.size u w') := fun u => lk_any [97] (by decide) (by decide) _ rfl K (by rw [hK]; rfl) u
  have CO : Hid (∀ u p, PX w u p [] → Calls Try.prog 9 #[.int .i64 7, .string ⟨#[97]⟩, .int .i64 5] u fun e w' => ∃ Y, e = .returned (ev Y) ∧ Hid (Calls Try.prog 8 #[.pointer (some ⟨p, 0, none⟩), ev Y] w' fun e w'' => e = .returned (.int .i64 0) ∧ ∃ M, Hid (ents M = [entPA]) ∧ Hid (PX w w'' p M))) := fun u p h => by
    refine (lof_any 7 5 (by omega) (by omega) [97] (by decide) (by decide) _ rfl keyPA rfl u).mono ?_
    rintro e w' ⟨⟨Y, rfl, hY, hE⟩, hb⟩
    refine ⟨Y, rfl, ?_⟩
    refine (xpadd (h.past hb) Y hE).mono ?_
    rintro e w'' ⟨rfl, M', j1, j2⟩
    have hYE : Y.e = entPA := hY
    rw [hYE, show ents [] = [] from rfl, awakeP_add] at j1 ⊢
    exact ⟨rfl, M', j1, j2⟩
  have CB1 : Hid (∀ u p M, Hid (ents M = [entPA]) → Hid (PX w u p M) → Calls Try.prog 25 #[.pointer (some ⟨p, 0, none⟩), kv K, .agg #[.int .i64 4, .int .u8 9]] u fun e w' => e = .returned (.tuple #[.int .i64 0, .bool false]) ∧ Hid (PX w w' p M)) := fun u p M hM h => by
    have := xpblocks h.out K KY.out 4 9
    rw [hM.out, show blocksT [entPA] K 4 9 = none by rw [hK]; exact awakeP_b1] at this
    exact this
  have CB2 : Hid (∀ u p M, Hid (ents M = [entPA]) → Hid (PX w u p M) → Calls Try.prog 25 #[.pointer (some ⟨p, 0, none⟩), kv K, .agg #[.int .i64 5, .int .u8 0]] u fun e w' => e = .returned (.tuple #[.int .i64 7, .bool true]) ∧ Hid (PX w w' p M)) := fun u p M hM h => by
    have := xpblocks h.out K KY.out 5 0
    rw [hM.out, show blocksT [entPA] K 5 0 = some 7 by rw [hK]; exact awakeP_b2] at this
    exact this
  have CAL : Hid (∀ u p M, Hid (ents M = [entPA]) → Hid (PX w u p M) → Calls Try.prog 14 #[.pointer (some ⟨p, 0, none⟩)] u fun e w' => (∃ a c, e = .returned (.slice a 1 c)) ∧ Hid (Below w.heap.size w w')) := fun u p M hM h => by
    refine (xpall h.out).mono ?_
    rintro e w' ⟨⟨a, c, L, rfl, _⟩, h2⟩
    have : M.length = 1 := by have := congrArg List.length hM.out; rwa [List.length_map] at this
    exact ⟨⟨a, c, by rw [this]⟩, h2.below⟩
  clear hK
  go_enter Try.func6, Try.ntmps6
  go_wp2_with (first | (go_at_call 7; refine CN.out.mono ?_; rintro e w1 ⟨p, rfl, h1⟩; have H1 : Hid (PX w w1 p []) := h1; clear h1 CN) | (have hgo := H1.out; clear hgo; go_at_call 9; refine (CO.out _ _ H1.out).mono ?_; rintro e w2 ⟨Y, rfl, H2⟩; clear H1) | (have hgo := H2.out; clear hgo; go_at_call 8; refine H2.out.mono ?_; rintro e w3 ⟨rfl, M, HM, H3⟩; clear H2) | (have hgo := H3.out; clear hgo; go_at_call 13; refine (CK.out _).mono ?_; rintro e w4 ⟨rfl, hb4⟩; have H4 : Hid (PX w w4 p M) := H3.out.past hb4; clear hb4 H3) | (have hgo := H4.out; clear hgo; go_at_call 25; refine (CB1.out _ _ _ HM H4).mono ?_; rintro e w5 ⟨rfl, H5⟩; clear H4) | (have hgo := H5.out; clear hgo; go_at_call 13; refine (CK.out _).mono ?_; rintro e w6 ⟨rfl, hb6⟩; have H6 : Hid (PX w w6 p M) := H5.out.past hb6; clear hb6 H5) | (have hgo := H6.out; clear hgo; go_at_call 10; refine (CA.out _ _).mono ?_; rintro e w7 ⟨rfl, hb7⟩; have H7 : Hid (PX w w7 p M) := H6.out.past hb7; clear hb7 H6) | (have hgo := H7.out; clear hgo; go_at_call 25; refine (CB2.out _ _ _ HM H7).mono ?_; rintro e w8 ⟨rfl, H8⟩; clear H7) | (have hgo := H8.out; clear hgo; go_at_call 14; refine (CAL.out _ _ _ HM H8).mono ?_; rintro e w9 ⟨⟨a9, c9, rfl⟩, H9⟩; clear H8))
  go_ret
  exact ⟨rfl, H9.out⟩
end Go.Proofs.Ythgkbabikeknlaa
