/-
  What the document's own stores answer: Keys (hourglassref10: Store.Keys).
  What the document's own stores answer: Get, Scan (hourglassref10: Store.Get, Store.Scan).
  What the document says of writes (hourglassref10: MayWrites).
-/
import Derived.Test.YtfaojmognbgnfaaGreatPm
import Derived.Test.YtfaojmognbgnfaaGreatVerMem
import Derived.Test.YtfaojmognbgnfaaGreatKeyList
import Derived.Test.YtfaojmognbgnfaaGreatStB
import Derived.Test.YtfaojmognbgnfaaGreatRf
import Derived.Test.YtfaojmognbgnfaaGreatRefKey
import Derived.Test.YtfaojmognbgnfaaGreatWrtMem
namespace Go.Proofs.YtfaojmognbgnfaaGreat
open Go.RowKit
set_option linter.unusedVariables false

theorem run_build_key1 (w : World) (k : List Int) (hk : Ky k) :
    (Instr.buildSlice 50 1 #[(0, kv k)]).run Tryz.prog w = .ok (.slice (some ⟨w.heap.size, 0, none⟩) 1 1) (w.alloc (.cells (kc k).toArray 24)) := by
  have hl := kc_len hk
  have hf : Instr.fill (fun i => some (i * 16, 16)) (List.replicate 16 (Value.int .u8 0)).toArray [(0, kv k)] = some (kc k).toArray := by
    show Instr.fill _ _ [(0, .agg (kc k).toArray)] = _
    rw [fill_step _ (List.replicate 16 (Value.int .u8 0)) 0 0 16 (kc k) rfl hl (by rw [List.length_replicate]; omega)]
    show some _ = some _
    congr 2
    rw [List.drop_eq_nil_of_le (by rw [List.length_replicate]; omega)]
    simp
  simp [Instr.buildSlice, run_underlying Tryz.underlying50]
  generalize hz : Array.map _ (Array.range 16) = Z
  have hz2 : Z = (List.replicate 16 (Value.int .u8 0)).toArray := by rw [← hz]; kernel_rfl
  rw [hz2, hf]
  simp [newRow]
theorem wpList_build_key1 (d : Tmp) {ops : Array Oper} {rest : List Oper} {op : Oper} {a : Act} {w : World} {Q : Exit → Act → World → Prop} (hd : op.dst = some d) (hgd : op.guard = none) (x : Operand) (ho : op.op = .buildSlice 50 1 #[(0, x)])
    (k : List Int) (hk : Ky k) (hx : a.eval x = kv k)
    (h : wpList Tryz.prog ops Q rest (a.put op.dst (.slice (some ⟨w.heap.size, 0, none⟩) 1 1)) (w.alloc (.cells (kc k).toArray 24))) : wpList Tryz.prog ops Q (op :: rest) a w := by
  refine wpList_plain hgd fun K hK => ?_
  have hrun := run_build_key1 w k hk
  unfold Oper.wp
  simp [execOp, ho, hx, hrun, Result.andThen]
  exact hK _ _ h
theorem own_keys {w : World} {B n : Nat} {v : Value} {l : List (List Int)} (h : w.ownsRow B 24 16 v n (l.flatMap kc)) (hl : l.length = n) (hk : Kys l) : ∃ a c, v = .slice a n c ∧ n ≤ c ∧ KeysAt w a l := by
  rcases h.2 with ⟨rfl, h0⟩ | ⟨g, cap, cur, rfl, hg, hh, h1, h2, h3, h4⟩
  · subst h0
    have e := List.eq_nil_of_length_eq_zero hl
    subst e
    exact ⟨none, 0, rfl, Nat.le_refl _, lies_none _ _, hk, fun _ => rfl⟩
  · exact ⟨_, cap, rfl, h1, own_lies h, hk, fun e => by cases e⟩
theorem keys_kys {L : List Ver} (h : OkL L) (i : Nat) : Kys (keysV (L.take i)) := fun k hk => by
  obtain ⟨V, hV, rfl⟩ := (keys_mem _ k).1 hk
  exact (h V (List.mem_of_mem_take hV)).key
set_option maxHeartbeats 8000000 in
set_option maxRecDepth 8000 in
theorem rkeys10_any (B p : Nat) (L : List Ver) (w : World) (h : StoreR w B p L) :
    Calls Tryz.prog 21 #[.pointer (some ⟨p, 0, none⟩)] w fun e w' => (∃ a' c', e = .returned (.slice a' (keysV L).length c') ∧ KeysAt w' a' (keysV L) ∧ (keysV L).length ≤ c') ∧ Below w.heap.size w w' := by
  obtain ⟨N, hN⟩ : ∃ N, N = L.length := ⟨_, rfl⟩
  obtain ⟨a0, c0, hcap, hcell, hs⟩ := h.open
  have hfew := h.few
  rw [← hN] at hcap hcell hfew
  have HCE : Hid (∀ v, Below w.heap.size w v → v.cell? ⟨p, 0, none⟩ = some (.slice a0 N c0)) := hcell
  have HOK : Hid (OkL L) := h.oks
  have HN : Hid (L.length = N) := hN.symm
  have HS : Hid (L ≠ [] → ∃ g, a0 = some ⟨g, 0, none⟩ ∧ Hid (∀ v, Below w.heap.size w v → ∀ i V, L[i]? = some V → VerAt v g (i * 20) V)) := fun hne => by
    rcases hs with e | ⟨g, e1, _, _, e4⟩
    · exact absurd e hne
    · exact ⟨g, e1, e4⟩
  clear h hs hcell hN
  go_enter Tryz.func21, Tryz.ntmps21
  go_wp2
  go_loopw [3, 4] (fun rv iv wr => ∃ (i m : Nat) (ra : Option Addr) (rc : Nat), iv = .int .i64 i ∧ rv = .slice ra m rc ∧ i ≤ N ∧ m ≤ i ∧ Hid (OwnB 24 16 w wr (.slice ra m rc) m ((keysV (L.take i)).flatMap kc)) ∧ Hid ((keysV (L.take i)).length = m)) (fun _ iv _ => N - (intOf iv).toNat)
  case atStart => exact ⟨0, 0, none, 0, rfl, rfl, Nat.zero_le _, Nat.le_refl _, ⟨World.ownsRow_nil _ _ _ _, Below.refl _ _⟩, rfl⟩
  case round =>
    obtain ⟨i, m, ra, rc, rfl, rfl, hi, hmi, HO, HML⟩ := hrel
    have HBR : Hid (Below w.heap.size w wr) := HO.out.below
    have hi0 : (0 : Int) ≤ (i : Int) := by omega
    have q0 := HCE.out wr HBR.out
    by_cases hlt : i < N
    · have h1 : (i : Int) < (N : Int) := by omega
      obtain ⟨V1, hV1⟩ : ∃ V, L[i]? = some V := ⟨_, List.getElem?_eq_getElem (by rw [HN.out]; exact hlt)⟩
      obtain ⟨g, hag, HG⟩ := HS.out (by intro e; rw [e] at hV1; simp at hV1)
      rw [hag] at q0
      have HC0 : Hid (∀ u, Below wr.heap.size wr u → u.cell? ⟨p, 0, none⟩ = some (.slice (some ⟨g, 0, none⟩) N c0)) := fun u hb => by rw [← hag]; exact HCE.out u (HBR.out.trans (hb.mono HBR.out.size))
      obtain ⟨K1, hK1⟩ : ∃ K, K = V1.k := ⟨_, rfl⟩
      have HK1 : Hid (Ky K1) := by rw [hK1]; exact (HOK.out V1 (List.mem_of_getElem? hV1)).key
      have FK : Hid (∀ u, Below wr.heap.size wr u → KeyAt u g (i * 20) K1) := fun u hb => by rw [hK1]; exact (HG.out u (HBR.out.trans (hb.mono HBR.out.size)) _ _ hV1).key (HOK.out V1 (List.mem_of_getElem? hV1)).key
      have HNX : Hid (keysV (L.take (i + 1)) = if (keysV (L.take i)).getLast? = some K1 then keysV (L.take i) else keysV (L.take i) ++ [K1]) := by rw [hK1]; exact keys_take hV1
      have HPV : Hid (∀ j, i = j + 1 → ∃ K0, Ky K0 ∧ (∀ u, Below wr.heap.size wr u → KeyAt u g (j * 20) K0) ∧ (keysV (L.take i)).getLast? = some K0) := fun j hj => by
        subst hj
        have hjl : j < L.length := by rw [HN.out]; omega
        have hV0 := List.getElem?_eq_getElem hjl
        exact ⟨L[j].k, (HOK.out _ (List.getElem_mem hjl)).key, fun u hb => (HG.out u (HBR.out.trans (hb.mono HBR.out.size)) _ _ hV0).key (HOK.out _ (List.getElem_mem hjl)).key, keys_prev hV0⟩
      clear hV1 hK1 hag HS
      have hm1 : m + 1 ≤ 1000000 := by omega
      by_cases hi1 : i = 0
      · subst hi1
        have HX : Hid (keysV (L.take (0 + 1)) = keysV (L.take 0) ++ [K1]) := by show _ = _; rw [HNX.out, if_neg]; simp [keysV]
        have HFL : Hid ((keysV (L.take 0)).flatMap kc ++ kc K1 = (keysV (L.take (0 + 1))).flatMap kc) := by show _ = _; rw [HX.out, List.flatMap_append]; simp
        clear HPV HNX
        go_wp2
        refine wp_region_noPanic ?_
        refine wp_region_held_drew (S := fun u => Below wr.heap.size wr u) (by kernel_rfl) ?_ (fun hHeld => ?_)
        · exact (Below.refl _ _).drew
        refine wpAnyH_take (i := 0) (v := ?_) rfl (by kernel_rfl) (by kernel_rfl) (by kernel_rfl) (fun _ _ _ h => h) (Or.inl ⟨by rfl, ?_⟩) hHeld ?_
        rotate_left
        · intro u hSu
          (go_simp) <;> (with_reducible rfl)
        change wpAnyH _ _ _ _ _ _ _ (Act.put _ (some 14) _) _
        simp only [Act.put, List.setIfInBounds_toArray, List.set_cons_zero, List.set_cons_succ]
        refine wpAnyH_take (i := 1) (v := ?_) rfl (by kernel_rfl) (by kernel_rfl) (by kernel_rfl) (fun _ _ _ h => h) (Or.inl ⟨by rfl, ?_⟩) hHeld ?_
        rotate_left
        · intro u hSu
          (go_simp) <;> (with_reducible rfl)
        change wpAnyH _ _ _ _ _ _ _ (Act.put _ (some 15) _) _
        simp only [Act.put, List.setIfInBounds_toArray, List.set_cons_zero, List.set_cons_succ]
        refine wpAnyH_take (i := 2) (v := ?_) rfl (by kernel_rfl) (by kernel_rfl) (by kernel_rfl) (fun _ _ _ h => h) (Or.inl ⟨by rfl, ?_⟩) hHeld ?_
        rotate_left
        · intro u hSu
          (go_simp) <;> (with_reducible rfl)
        change wpAnyH _ _ _ _ _ _ _ (Act.put _ (some 16) _) _
        simp only [Act.put, List.setIfInBounds_toArray, List.set_cons_zero, List.set_cons_succ]
        refine wpAnyH_take (i := 3) (v := undef) rfl (by kernel_rfl) (by kernel_rfl) (by kernel_rfl) (fun _ _ _ h => h) (Or.inr ⟨by rfl, rfl⟩) hHeld ?_
        change wpAnyH _ _ _ _ _ _ _ (Act.put _ (some 17) _) _
        simp only [Act.put, List.setIfInBounds_toArray, List.set_cons_zero, List.set_cons_succ]
        refine wpAnyH_take (i := 4) (v := undef) rfl (by kernel_rfl) (by kernel_rfl) (by kernel_rfl) (fun _ _ _ h => h) (Or.inr ⟨by rfl, rfl⟩) hHeld ?_
        change wpAnyH _ _ _ _ _ _ _ (Act.put _ (some 18) _) _
        simp only [Act.put, List.setIfInBounds_toArray, List.set_cons_zero, List.set_cons_succ]
        refine wpAnyH_take (i := 5) (v := undef) rfl (by kernel_rfl) (by kernel_rfl) (by kernel_rfl) (fun _ _ _ h => h) (Or.inr ⟨by rfl, rfl⟩) hHeld ?_
        change wpAnyH _ _ _ _ _ _ _ (Act.put _ (some 19) _) _
        simp only [Act.put, List.setIfInBounds_toArray, List.set_cons_zero, List.set_cons_succ]
        refine wpAnyH_take (i := 6) (v := undef) rfl (by kernel_rfl) (by kernel_rfl) (by kernel_rfl) (fun _ _ _ h => h) (Or.inr ⟨by rfl, rfl⟩) hHeld ?_
        change wpAnyH _ _ _ _ _ _ _ (Act.put _ (some 20) _) _
        simp only [Act.put, List.setIfInBounds_toArray, List.set_cons_zero, List.set_cons_succ]
        refine wpAnyH_take (i := 7) (v := undef) rfl (by kernel_rfl) (by kernel_rfl) (by kernel_rfl) (fun _ _ _ h => h) (Or.inr ⟨by rfl, rfl⟩) hHeld ?_
        change wpAnyH _ _ _ _ _ _ _ (Act.put _ (some 21) _) _
        simp only [Act.put, List.setIfInBounds_toArray, List.set_cons_zero, List.set_cons_succ]
        refine wpAnyH_take (i := 8) (v := undef) rfl (by kernel_rfl) (by kernel_rfl) (by kernel_rfl) (fun _ _ _ h => h) (Or.inr ⟨by rfl, rfl⟩) hHeld ?_
        change wpAnyH _ _ _ _ _ _ _ (Act.put _ (some 22) _) _
        simp only [Act.put, List.setIfInBounds_toArray, List.set_cons_zero, List.set_cons_succ]
        refine wpAnyH_take (i := 9) (v := undef) rfl (by kernel_rfl) (by kernel_rfl) (by kernel_rfl) (fun _ _ _ h => h) (Or.inr ⟨by rfl, rfl⟩) hHeld ?_
        change wpAnyH _ _ _ _ _ _ _ (Act.put _ (some 23) _) _
        simp only [Act.put, List.setIfInBounds_toArray, List.set_cons_zero, List.set_cons_succ]
        refine wpAnyH_take (i := 10) (v := undef) rfl (by kernel_rfl) (by kernel_rfl) (by kernel_rfl) (fun _ _ _ h => h) (Or.inr ⟨by rfl, rfl⟩) hHeld ?_
        change wpAnyH _ _ _ _ _ _ _ (Act.put _ (some 24) _) _
        simp only [Act.put, List.setIfInBounds_toArray, List.set_cons_zero, List.set_cons_succ]
        refine wpAnyH_take (i := 11) (v := undef) rfl (by kernel_rfl) (by kernel_rfl) (by kernel_rfl) (fun _ _ _ h => h) (Or.inr ⟨by rfl, rfl⟩) hHeld ?_
        change wpAnyH _ _ _ _ _ _ _ (Act.put _ (some 25) _) _
        simp only [Act.put, List.setIfInBounds_toArray, List.set_cons_zero, List.set_cons_succ]
        refine wpAnyH_take (i := 12) (v := undef) rfl (by kernel_rfl) (by kernel_rfl) (by kernel_rfl) (fun _ _ _ h => h) (Or.inr ⟨by rfl, rfl⟩) hHeld ?_
        change wpAnyH _ _ _ _ _ _ _ (Act.put _ (some 26) _) _
        simp only [Act.put, List.setIfInBounds_toArray, List.set_cons_zero, List.set_cons_succ]
        refine wpAnyH_take (i := 13) (v := undef) rfl (by kernel_rfl) (by kernel_rfl) (by kernel_rfl) (fun _ _ _ h => h) (Or.inr ⟨by rfl, rfl⟩) hHeld ?_
        change wpAnyH _ _ _ _ _ _ _ (Act.put _ (some 27) _) _
        simp only [Act.put, List.setIfInBounds_toArray, List.set_cons_zero, List.set_cons_succ]
        refine wpAnyH_take (i := 14) (v := undef) rfl (by kernel_rfl) (by kernel_rfl) (by kernel_rfl) (fun _ _ _ h => h) (Or.inr ⟨by rfl, rfl⟩) hHeld ?_
        change wpAnyH _ _ _ _ _ _ _ (Act.put _ (some 28) _) _
        simp only [Act.put, List.setIfInBounds_toArray, List.set_cons_zero, List.set_cons_succ]
        refine wpAnyH_take (i := 15) (v := undef) rfl (by kernel_rfl) (by kernel_rfl) (by kernel_rfl) (fun _ _ _ h => h) (Or.inr ⟨by rfl, rfl⟩) hHeld ?_
        change wpAnyH _ _ _ _ _ _ _ (Act.put _ (some 29) _) _
        simp only [Act.put, List.setIfInBounds_toArray, List.set_cons_zero, List.set_cons_succ]
        refine wpAnyH_take (i := 16) (v := undef) rfl (by kernel_rfl) (by kernel_rfl) (by kernel_rfl) (fun _ _ _ h => h) (Or.inr ⟨by rfl, rfl⟩) hHeld ?_
        change wpAnyH _ _ _ _ _ _ _ (Act.put _ (some 30) _) _
        simp only [Act.put, List.setIfInBounds_toArray, List.set_cons_zero, List.set_cons_succ]
        refine wpAnyH_take (i := 17) (v := undef) rfl (by kernel_rfl) (by kernel_rfl) (by kernel_rfl) (fun _ _ _ h => h) (Or.inr ⟨by rfl, rfl⟩) hHeld ?_
        change wpAnyH _ _ _ _ _ _ _ (Act.put _ (some 31) _) _
        simp only [Act.put, List.setIfInBounds_toArray, List.set_cons_zero, List.set_cons_succ]
        refine wpAnyH_take (i := 18) (v := undef) rfl (by kernel_rfl) (by kernel_rfl) (by kernel_rfl) (fun _ _ _ h => h) (Or.inr ⟨by rfl, rfl⟩) hHeld ?_
        change wpAnyH _ _ _ _ _ _ _ (Act.put _ (some 32) _) _
        simp only [Act.put, List.setIfInBounds_toArray, List.set_cons_zero, List.set_cons_succ]
        refine wpAnyH_take (i := 19) (v := undef) rfl (by kernel_rfl) (by kernel_rfl) (by kernel_rfl) (fun _ _ _ h => h) (Or.inr ⟨by rfl, rfl⟩) hHeld ?_
        change wpAnyH _ _ _ _ _ _ _ (Act.put _ (some 33) _) _
        simp only [Act.put, List.setIfInBounds_toArray, List.set_cons_zero, List.set_cons_succ]
        refine wpAnyH_take (i := 20) (v := undef) rfl (by kernel_rfl) (by kernel_rfl) (by kernel_rfl) (fun _ _ _ h => h) (Or.inr ⟨by rfl, rfl⟩) hHeld ?_
        change wpAnyH _ _ _ _ _ _ _ (Act.put _ (some 34) _) _
        simp only [Act.put, List.setIfInBounds_toArray, List.set_cons_zero, List.set_cons_succ]
        refine wpAnyH_take (i := 21) (v := ?_) rfl (by kernel_rfl) (by kernel_rfl) (by kernel_rfl) (fun _ _ _ h => h) (Or.inl ⟨by rfl, ?_⟩) hHeld ?_
        rotate_left
        · intro u hSu
          (go_simp) <;> (with_reducible rfl)
        change wpAnyH _ _ _ _ _ _ _ (Act.put _ (some 35) _) _
        simp only [Act.put, List.setIfInBounds_toArray, List.set_cons_zero, List.set_cons_succ]
        refine wpAnyH_done (by kernel_rfl) ?_ _
        refine NoPanic.normal ?_
        have q1 := HC0.out wr.drew (Below.refl _ _).drew
        go_wp2_with (first | ((with_reducible show wpList _ _ _ (Oper.mk (some 44) _ _ _ _ _ :: _) _ _); refine wpList_load_keyD 44 (by rfl) (by rfl) _ (by rfl) g (0 * 20) (by rfl) K1 HK1.out (FK.out _ (Below.refl _ _).drew) ?_) | ((with_reducible show wpList _ _ _ (Oper.mk (some 45) _ _ _ _ _ :: _) _ _); refine wpList_build_key1 45 (by rfl) (by rfl) _ (by rfl) K1 HK1.out (by rfl) ?_) | (at_builtin; refine wpList_own keyEl (w0 := w) rfl (.tmp 36) (.tmp 45) rfl _ m _ (kc K1) rfl ((HO.out.past (Below.refl _ _).drew).alloc _) _ _ _ rfl (by rw [kc_len HK1.out]) (lies_made _ _ _) (ints_oneCell _ _) (fun h => by cases h) (m + 1) rfl hm1 _ HFL.out ?_; intro a6 c6 w6 h1 h2; have O6 : Hid (OwnB 24 16 w w6 (.slice a6 (m + 1) c6) (m + 1) ((keysV (L.take (0 + 1))).flatMap kc)) := h1; clear h1 h2))
        go_roundw
        case rel => exact ⟨0 + 1, m + 1, a6, c6, by go_num, rfl, by omega, by omega, O6, by show _ = _; rw [HX.out, List.length_append, HML.out]; rfl⟩
        case measure => simp [intOf]; omega
      · obtain ⟨j, rfl⟩ : ∃ j, i = j + 1 := ⟨i - 1, by omega⟩
        obtain ⟨K0, hk0, hka0, hlast⟩ := HPV.out j rfl
        have HK0 : Hid (Ky K0) := hk0
        have P0 : Hid (∀ u, Below wr.heap.size wr u → KeyAt u g (j * 20) K0) := hka0
        have hj0 : (0 : Int) ≤ (j : Int) := by omega
        have hjN : (j : Int) < (N : Int) := by omega
        have hj1 : (0 : Int) ≤ (j : Int) + 1 := by omega
        have hj2 : (j : Int) + 1 < (N : Int) := by omega
        have hne : ((j : Int) + 1 == 0) = false := by simp; omega
        have hwj : IntKind.i64.wrap (j : Int) = (j : Int) := by rw [IntKind.wrap_i64]; omega
        by_cases hq : K1 = K0
        · have he : ∀ u, (Op.equalIn 10000 24 (kv K1) (kv K0)).run Tryz.prog u = .ok true u := fun u => by rw [eq_key u K1 K0 HK1.out HK0.out, decide_eq_true hq]
          have HX : Hid (keysV (L.take (j + 1 + 1)) = keysV (L.take (j + 1))) := by show _ = _; rw [HNX.out, hlast, if_pos (by rw [hq])]
          clear HPV HNX hk0 hka0 hlast hq
          go_wp2
          refine wp_region_noPanic ?_
          refine wp_region_held_drew (S := fun u => Below wr.heap.size wr u) (by kernel_rfl) ?_ (fun hHeld => ?_)
          · exact (Below.refl _ _).drew
          refine wpAnyH_take (i := 0) (v := ?_) rfl (by kernel_rfl) (by kernel_rfl) (by kernel_rfl) (fun _ _ _ h => h) (Or.inl ⟨by rfl, ?_⟩) hHeld ?_
          rotate_left
          · intro u hSu
            (go_simp) <;> (with_reducible rfl)
          change wpAnyH _ _ _ _ _ _ _ (Act.put _ (some 14) _) _
          simp only [Act.put, List.setIfInBounds_toArray, List.set_cons_zero, List.set_cons_succ]
          refine wpAnyH_take (i := 1) (v := ?_) rfl (by kernel_rfl) (by kernel_rfl) (by kernel_rfl) (fun _ _ _ h => h) (Or.inl ⟨by rfl, ?_⟩) hHeld ?_
          rotate_left
          · intro u hSu
            (go_simp) <;> (with_reducible rfl)
          change wpAnyH _ _ _ _ _ _ _ (Act.put _ (some 15) _) _
          simp only [Act.put, List.setIfInBounds_toArray, List.set_cons_zero, List.set_cons_succ]
          refine wpAnyH_take (i := 2) (v := ?_) rfl (by kernel_rfl) (by kernel_rfl) (by kernel_rfl) (fun _ _ _ h => h) (Or.inl ⟨by rfl, ?_⟩) hHeld ?_
          rotate_left
          · intro u hSu
            (go_simp) <;> (with_reducible rfl)
          change wpAnyH _ _ _ _ _ _ _ (Act.put _ (some 16) _) _
          simp only [Act.put, List.setIfInBounds_toArray, List.set_cons_zero, List.set_cons_succ]
          refine wpAnyH_take (i := 3) (v := ?_) rfl (by kernel_rfl) (by kernel_rfl) (by kernel_rfl) (fun _ _ _ h => h) (Or.inl ⟨by rfl, ?_⟩) hHeld ?_
          rotate_left
          · intro u hSu
            (go_simp) <;> (with_reducible rfl)
          change wpAnyH _ _ _ _ _ _ _ (Act.put _ (some 17) _) _
          simp only [Act.put, List.setIfInBounds_toArray, List.set_cons_zero, List.set_cons_succ]
          refine wpAnyH_take (i := 4) (v := ?_) rfl (by kernel_rfl) (by kernel_rfl) (by kernel_rfl) (fun _ _ _ h => h) (Or.inl ⟨by rfl, ?_⟩) hHeld ?_
          rotate_left
          · intro u hSu
            (go_simp) <;> (with_reducible rfl)
          change wpAnyH _ _ _ _ _ _ _ (Act.put _ (some 18) _) _
          simp only [Act.put, List.setIfInBounds_toArray, List.set_cons_zero, List.set_cons_succ]
          refine wpAnyH_take (i := 5) (v := ?_) rfl (by kernel_rfl) (by kernel_rfl) (by kernel_rfl) (fun _ _ _ h => h) (Or.inl ⟨by rfl, ?_⟩) hHeld ?_
          rotate_left
          · intro u hSu
            (go_simp) <;> (with_reducible rfl)
          change wpAnyH _ _ _ _ _ _ _ (Act.put _ (some 19) _) _
          simp only [Act.put, List.setIfInBounds_toArray, List.set_cons_zero, List.set_cons_succ]
          refine wpAnyH_take (i := 6) (v := ?_) rfl (by kernel_rfl) (by kernel_rfl) (by kernel_rfl) (fun _ _ _ h => h) (Or.inl ⟨by rfl, ?_⟩) hHeld ?_
          rotate_left
          · intro u hSu
            have r1 := HC0.out u hSu
            (go_simp) <;> (with_reducible rfl)
          change wpAnyH _ _ _ _ _ _ _ (Act.put _ (some 20) _) _
          simp only [Act.put, List.setIfInBounds_toArray, List.set_cons_zero, List.set_cons_succ]
          refine wpAnyH_take (i := 7) (v := ?_) rfl (by kernel_rfl) (by kernel_rfl) (by kernel_rfl) (fun _ _ _ h => h) (Or.inl ⟨by rfl, ?_⟩) hHeld ?_
          rotate_left
          · intro u hSu
            (go_simp) <;> (with_reducible rfl)
          change wpAnyH _ _ _ _ _ _ _ (Act.put _ (some 21) _) _
          simp only [Act.put, List.setIfInBounds_toArray, List.set_cons_zero, List.set_cons_succ]
          refine wpAnyH_take (i := 8) (v := ?_) rfl (by kernel_rfl) (by kernel_rfl) (by kernel_rfl) (fun _ _ _ h => h) (Or.inl ⟨by rfl, ?_⟩) hHeld ?_
          rotate_left
          · intro u hSu
            (go_simp) <;> (with_reducible rfl)
          change wpAnyH _ _ _ _ _ _ _ (Act.put _ (some 22) _) _
          simp only [Act.put, List.setIfInBounds_toArray, List.set_cons_zero, List.set_cons_succ]
          refine wpAnyH_take (i := 9) (v := ?_) rfl (by kernel_rfl) (by kernel_rfl) (by kernel_rfl) (fun _ _ _ h => h) (Or.inl ⟨by rfl, ?_⟩) hHeld ?_
          rotate_left
          · intro u hSu
            (go_simp) <;> (with_reducible rfl)
          change wpAnyH _ _ _ _ _ _ _ (Act.put _ (some 23) _) _
          simp only [Act.put, List.setIfInBounds_toArray, List.set_cons_zero, List.set_cons_succ]
          refine wpAnyH_take (i := 10) (v := kv K1) rfl (by kernel_rfl) (by kernel_rfl) (by kernel_rfl) (fun _ _ _ h => h) (yieldsIf_load_mid (by rfl) _ _ rfl _ _ rfl (K1.map (Value.int .u8)) _ (fun u hu => (FK.out u hu).range HK1.out) Tryz.underlying24 rfl (info_keyl K1 HK1.out)) hHeld ?_
          change wpAnyH _ _ _ _ _ _ _ (Act.put _ (some 24) _) _
          simp only [Act.put, List.setIfInBounds_toArray, List.set_cons_zero, List.set_cons_succ]
          refine wpAnyH_take (i := 11) (v := ?_) rfl (by kernel_rfl) (by kernel_rfl) (by kernel_rfl) (fun _ _ _ h => h) (Or.inl ⟨by rfl, ?_⟩) hHeld ?_
          rotate_left
          · intro u hSu
            (go_simp) <;> (with_reducible rfl)
          change wpAnyH _ _ _ _ _ _ _ (Act.put _ (some 25) _) _
          simp only [Act.put, List.setIfInBounds_toArray, List.set_cons_zero, List.set_cons_succ]
          refine wpAnyH_take (i := 12) (v := ?_) rfl (by kernel_rfl) (by kernel_rfl) (by kernel_rfl) (fun _ _ _ h => h) (Or.inl ⟨by rfl, ?_⟩) hHeld ?_
          rotate_left
          · intro u hSu
            (go_simp) <;> (with_reducible rfl)
          change wpAnyH _ _ _ _ _ _ _ (Act.put _ (some 26) _) _
          simp only [Act.put, List.setIfInBounds_toArray, List.set_cons_zero, List.set_cons_succ]
          refine wpAnyH_take (i := 13) (v := ?_) rfl (by kernel_rfl) (by kernel_rfl) (by kernel_rfl) (fun _ _ _ h => h) (Or.inl ⟨by rfl, ?_⟩) hHeld ?_
          rotate_left
          · intro u hSu
            (go_simp) <;> (with_reducible rfl)
          change wpAnyH _ _ _ _ _ _ _ (Act.put _ (some 27) _) _
          simp only [Act.put, List.setIfInBounds_toArray, List.set_cons_zero, List.set_cons_succ]
          refine wpAnyH_take (i := 14) (v := ?_) rfl (by kernel_rfl) (by kernel_rfl) (by kernel_rfl) (fun _ _ _ h => h) (Or.inl ⟨by rfl, ?_⟩) hHeld ?_
          rotate_left
          · intro u hSu
            have r1 := HC0.out u hSu
            (go_simp) <;> (with_reducible rfl)
          change wpAnyH _ _ _ _ _ _ _ (Act.put _ (some 28) _) _
          simp only [Act.put, List.setIfInBounds_toArray, List.set_cons_zero, List.set_cons_succ]
          refine wpAnyH_take (i := 15) (v := ?_) rfl (by kernel_rfl) (by kernel_rfl) (by kernel_rfl) (fun _ _ _ h => h) (Or.inl ⟨by rfl, ?_⟩) hHeld ?_
          rotate_left
          · intro u hSu
            (go_simp) <;> (with_reducible rfl)
          change wpAnyH _ _ _ _ _ _ _ (Act.put _ (some 29) _) _
          simp only [Act.put, List.setIfInBounds_toArray, List.set_cons_zero, List.set_cons_succ]
          refine wpAnyH_take (i := 16) (v := ?_) rfl (by kernel_rfl) (by kernel_rfl) (by kernel_rfl) (fun _ _ _ h => h) (Or.inl ⟨by rfl, ?_⟩) hHeld ?_
          rotate_left
          · intro u hSu
            (go_simp) <;> (with_reducible rfl)
          change wpAnyH _ _ _ _ _ _ _ (Act.put _ (some 30) _) _
          simp only [Act.put, List.setIfInBounds_toArray, List.set_cons_zero, List.set_cons_succ]
          refine wpAnyH_take (i := 17) (v := ?_) rfl (by kernel_rfl) (by kernel_rfl) (by kernel_rfl) (fun _ _ _ h => h) (Or.inl ⟨by rfl, ?_⟩) hHeld ?_
          rotate_left
          · intro u hSu
            (go_simp) <;> (with_reducible rfl)
          change wpAnyH _ _ _ _ _ _ _ (Act.put _ (some 31) _) _
          simp only [Act.put, List.setIfInBounds_toArray, List.set_cons_zero, List.set_cons_succ]
          refine wpAnyH_take (i := 18) (v := ?_) rfl (by kernel_rfl) (by kernel_rfl) (by kernel_rfl) (fun _ _ _ h => h) (Or.inl ⟨by rfl, ?_⟩) hHeld ?_
          rotate_left
          · intro u hSu
            (go_simp) <;> (with_reducible rfl)
          change wpAnyH _ _ _ _ _ _ _ (Act.put _ (some 32) _) _
          simp only [Act.put, List.setIfInBounds_toArray, List.set_cons_zero, List.set_cons_succ]
          refine wpAnyH_take (i := 19) (v := kv K0) rfl (by kernel_rfl) (by kernel_rfl) (by kernel_rfl) (fun _ _ _ h => h) (yieldsIf_load_mid (by rfl) _ _ rfl _ _ rfl (K0.map (Value.int .u8)) _ (fun u hu => (P0.out u hu).range HK0.out) Tryz.underlying24 rfl (info_keyl K0 HK0.out)) hHeld ?_
          change wpAnyH _ _ _ _ _ _ _ (Act.put _ (some 33) _) _
          simp only [Act.put, List.setIfInBounds_toArray, List.set_cons_zero, List.set_cons_succ]
          refine wpAnyH_take (i := 20) (v := ?_) rfl (by kernel_rfl) (by kernel_rfl) (by kernel_rfl) (fun _ _ _ h => h) (Or.inl ⟨by rfl, ?_⟩) hHeld ?_
          rotate_left
          · intro u hSu
            (go_simp) <;> (with_reducible rfl)
          change wpAnyH _ _ _ _ _ _ _ (Act.put _ (some 34) _) _
          simp only [Act.put, List.setIfInBounds_toArray, List.set_cons_zero, List.set_cons_succ]
          refine wpAnyH_take (i := 21) (v := ?_) rfl (by kernel_rfl) (by kernel_rfl) (by kernel_rfl) (fun _ _ _ h => h) (Or.inl ⟨by rfl, ?_⟩) hHeld ?_
          rotate_left
          · intro u hSu
            (go_simp) <;> (with_reducible rfl)
          change wpAnyH _ _ _ _ _ _ _ (Act.put _ (some 35) _) _
          simp only [Act.put, List.setIfInBounds_toArray, List.set_cons_zero, List.set_cons_succ]
          refine wpAnyH_done (by kernel_rfl) ?_ _
          refine NoPanic.normal ?_
          go_wp2
          go_roundw
          case rel => exact ⟨j + 1 + 1, m, ra, rc, by go_num, rfl, by omega, by omega, by rw [HX.out]; exact HO.out.past (Below.refl _ _).drew, by rw [HX.out]; exact HML⟩
          case measure => simp [intOf]; omega
        · have he : ∀ u, (Op.equalIn 10000 24 (kv K1) (kv K0)).run Tryz.prog u = .ok false u := fun u => by rw [eq_key u K1 K0 HK1.out HK0.out, decide_eq_false hq]
          have HX : Hid (keysV (L.take (j + 1 + 1)) = keysV (L.take (j + 1)) ++ [K1]) := by show _ = _; rw [HNX.out, hlast, if_neg (fun e => hq (Option.some.inj e).symm)]
          have HFL : Hid ((keysV (L.take (j + 1))).flatMap kc ++ kc K1 = (keysV (L.take (j + 1 + 1))).flatMap kc) := by show _ = _; rw [HX.out, List.flatMap_append]; simp
          clear HPV HNX hk0 hka0 hlast hq
          go_wp2
          refine wp_region_noPanic ?_
          refine wp_region_held_drew (S := fun u => Below wr.heap.size wr u) (by kernel_rfl) ?_ (fun hHeld => ?_)
          · exact (Below.refl _ _).drew
          refine wpAnyH_take (i := 0) (v := ?_) rfl (by kernel_rfl) (by kernel_rfl) (by kernel_rfl) (fun _ _ _ h => h) (Or.inl ⟨by rfl, ?_⟩) hHeld ?_
          rotate_left
          · intro u hSu
            (go_simp) <;> (with_reducible rfl)
          change wpAnyH _ _ _ _ _ _ _ (Act.put _ (some 14) _) _
          simp only [Act.put, List.setIfInBounds_toArray, List.set_cons_zero, List.set_cons_succ]
          refine wpAnyH_take (i := 1) (v := ?_) rfl (by kernel_rfl) (by kernel_rfl) (by kernel_rfl) (fun _ _ _ h => h) (Or.inl ⟨by rfl, ?_⟩) hHeld ?_
          rotate_left
          · intro u hSu
            (go_simp) <;> (with_reducible rfl)
          change wpAnyH _ _ _ _ _ _ _ (Act.put _ (some 15) _) _
          simp only [Act.put, List.setIfInBounds_toArray, List.set_cons_zero, List.set_cons_succ]
          refine wpAnyH_take (i := 2) (v := ?_) rfl (by kernel_rfl) (by kernel_rfl) (by kernel_rfl) (fun _ _ _ h => h) (Or.inl ⟨by rfl, ?_⟩) hHeld ?_
          rotate_left
          · intro u hSu
            (go_simp) <;> (with_reducible rfl)
          change wpAnyH _ _ _ _ _ _ _ (Act.put _ (some 16) _) _
          simp only [Act.put, List.setIfInBounds_toArray, List.set_cons_zero, List.set_cons_succ]
          refine wpAnyH_take (i := 3) (v := ?_) rfl (by kernel_rfl) (by kernel_rfl) (by kernel_rfl) (fun _ _ _ h => h) (Or.inl ⟨by rfl, ?_⟩) hHeld ?_
          rotate_left
          · intro u hSu
            (go_simp) <;> (with_reducible rfl)
          change wpAnyH _ _ _ _ _ _ _ (Act.put _ (some 17) _) _
          simp only [Act.put, List.setIfInBounds_toArray, List.set_cons_zero, List.set_cons_succ]
          refine wpAnyH_take (i := 4) (v := ?_) rfl (by kernel_rfl) (by kernel_rfl) (by kernel_rfl) (fun _ _ _ h => h) (Or.inl ⟨by rfl, ?_⟩) hHeld ?_
          rotate_left
          · intro u hSu
            (go_simp) <;> (with_reducible rfl)
          change wpAnyH _ _ _ _ _ _ _ (Act.put _ (some 18) _) _
          simp only [Act.put, List.setIfInBounds_toArray, List.set_cons_zero, List.set_cons_succ]
          refine wpAnyH_take (i := 5) (v := ?_) rfl (by kernel_rfl) (by kernel_rfl) (by kernel_rfl) (fun _ _ _ h => h) (Or.inl ⟨by rfl, ?_⟩) hHeld ?_
          rotate_left
          · intro u hSu
            (go_simp) <;> (with_reducible rfl)
          change wpAnyH _ _ _ _ _ _ _ (Act.put _ (some 19) _) _
          simp only [Act.put, List.setIfInBounds_toArray, List.set_cons_zero, List.set_cons_succ]
          refine wpAnyH_take (i := 6) (v := ?_) rfl (by kernel_rfl) (by kernel_rfl) (by kernel_rfl) (fun _ _ _ h => h) (Or.inl ⟨by rfl, ?_⟩) hHeld ?_
          rotate_left
          · intro u hSu
            have r1 := HC0.out u hSu
            (go_simp) <;> (with_reducible rfl)
          change wpAnyH _ _ _ _ _ _ _ (Act.put _ (some 20) _) _
          simp only [Act.put, List.setIfInBounds_toArray, List.set_cons_zero, List.set_cons_succ]
          refine wpAnyH_take (i := 7) (v := ?_) rfl (by kernel_rfl) (by kernel_rfl) (by kernel_rfl) (fun _ _ _ h => h) (Or.inl ⟨by rfl, ?_⟩) hHeld ?_
          rotate_left
          · intro u hSu
            (go_simp) <;> (with_reducible rfl)
          change wpAnyH _ _ _ _ _ _ _ (Act.put _ (some 21) _) _
          simp only [Act.put, List.setIfInBounds_toArray, List.set_cons_zero, List.set_cons_succ]
          refine wpAnyH_take (i := 8) (v := ?_) rfl (by kernel_rfl) (by kernel_rfl) (by kernel_rfl) (fun _ _ _ h => h) (Or.inl ⟨by rfl, ?_⟩) hHeld ?_
          rotate_left
          · intro u hSu
            (go_simp) <;> (with_reducible rfl)
          change wpAnyH _ _ _ _ _ _ _ (Act.put _ (some 22) _) _
          simp only [Act.put, List.setIfInBounds_toArray, List.set_cons_zero, List.set_cons_succ]
          refine wpAnyH_take (i := 9) (v := ?_) rfl (by kernel_rfl) (by kernel_rfl) (by kernel_rfl) (fun _ _ _ h => h) (Or.inl ⟨by rfl, ?_⟩) hHeld ?_
          rotate_left
          · intro u hSu
            (go_simp) <;> (with_reducible rfl)
          change wpAnyH _ _ _ _ _ _ _ (Act.put _ (some 23) _) _
          simp only [Act.put, List.setIfInBounds_toArray, List.set_cons_zero, List.set_cons_succ]
          refine wpAnyH_take (i := 10) (v := kv K1) rfl (by kernel_rfl) (by kernel_rfl) (by kernel_rfl) (fun _ _ _ h => h) (yieldsIf_load_mid (by rfl) _ _ rfl _ _ rfl (K1.map (Value.int .u8)) _ (fun u hu => (FK.out u hu).range HK1.out) Tryz.underlying24 rfl (info_keyl K1 HK1.out)) hHeld ?_
          change wpAnyH _ _ _ _ _ _ _ (Act.put _ (some 24) _) _
          simp only [Act.put, List.setIfInBounds_toArray, List.set_cons_zero, List.set_cons_succ]
          refine wpAnyH_take (i := 11) (v := ?_) rfl (by kernel_rfl) (by kernel_rfl) (by kernel_rfl) (fun _ _ _ h => h) (Or.inl ⟨by rfl, ?_⟩) hHeld ?_
          rotate_left
          · intro u hSu
            (go_simp) <;> (with_reducible rfl)
          change wpAnyH _ _ _ _ _ _ _ (Act.put _ (some 25) _) _
          simp only [Act.put, List.setIfInBounds_toArray, List.set_cons_zero, List.set_cons_succ]
          refine wpAnyH_take (i := 12) (v := ?_) rfl (by kernel_rfl) (by kernel_rfl) (by kernel_rfl) (fun _ _ _ h => h) (Or.inl ⟨by rfl, ?_⟩) hHeld ?_
          rotate_left
          · intro u hSu
            (go_simp) <;> (with_reducible rfl)
          change wpAnyH _ _ _ _ _ _ _ (Act.put _ (some 26) _) _
          simp only [Act.put, List.setIfInBounds_toArray, List.set_cons_zero, List.set_cons_succ]
          refine wpAnyH_take (i := 13) (v := ?_) rfl (by kernel_rfl) (by kernel_rfl) (by kernel_rfl) (fun _ _ _ h => h) (Or.inl ⟨by rfl, ?_⟩) hHeld ?_
          rotate_left
          · intro u hSu
            (go_simp) <;> (with_reducible rfl)
          change wpAnyH _ _ _ _ _ _ _ (Act.put _ (some 27) _) _
          simp only [Act.put, List.setIfInBounds_toArray, List.set_cons_zero, List.set_cons_succ]
          refine wpAnyH_take (i := 14) (v := ?_) rfl (by kernel_rfl) (by kernel_rfl) (by kernel_rfl) (fun _ _ _ h => h) (Or.inl ⟨by rfl, ?_⟩) hHeld ?_
          rotate_left
          · intro u hSu
            have r1 := HC0.out u hSu
            (go_simp) <;> (with_reducible rfl)
          change wpAnyH _ _ _ _ _ _ _ (Act.put _ (some 28) _) _
          simp only [Act.put, List.setIfInBounds_toArray, List.set_cons_zero, List.set_cons_succ]
          refine wpAnyH_take (i := 15) (v := ?_) rfl (by kernel_rfl) (by kernel_rfl) (by kernel_rfl) (fun _ _ _ h => h) (Or.inl ⟨by rfl, ?_⟩) hHeld ?_
          rotate_left
          · intro u hSu
            (go_simp) <;> (with_reducible rfl)
          change wpAnyH _ _ _ _ _ _ _ (Act.put _ (some 29) _) _
          simp only [Act.put, List.setIfInBounds_toArray, List.set_cons_zero, List.set_cons_succ]
          refine wpAnyH_take (i := 16) (v := ?_) rfl (by kernel_rfl) (by kernel_rfl) (by kernel_rfl) (fun _ _ _ h => h) (Or.inl ⟨by rfl, ?_⟩) hHeld ?_
          rotate_left
          · intro u hSu
            (go_simp) <;> (with_reducible rfl)
          change wpAnyH _ _ _ _ _ _ _ (Act.put _ (some 30) _) _
          simp only [Act.put, List.setIfInBounds_toArray, List.set_cons_zero, List.set_cons_succ]
          refine wpAnyH_take (i := 17) (v := ?_) rfl (by kernel_rfl) (by kernel_rfl) (by kernel_rfl) (fun _ _ _ h => h) (Or.inl ⟨by rfl, ?_⟩) hHeld ?_
          rotate_left
          · intro u hSu
            (go_simp) <;> (with_reducible rfl)
          change wpAnyH _ _ _ _ _ _ _ (Act.put _ (some 31) _) _
          simp only [Act.put, List.setIfInBounds_toArray, List.set_cons_zero, List.set_cons_succ]
          refine wpAnyH_take (i := 18) (v := ?_) rfl (by kernel_rfl) (by kernel_rfl) (by kernel_rfl) (fun _ _ _ h => h) (Or.inl ⟨by rfl, ?_⟩) hHeld ?_
          rotate_left
          · intro u hSu
            (go_simp) <;> (with_reducible rfl)
          change wpAnyH _ _ _ _ _ _ _ (Act.put _ (some 32) _) _
          simp only [Act.put, List.setIfInBounds_toArray, List.set_cons_zero, List.set_cons_succ]
          refine wpAnyH_take (i := 19) (v := kv K0) rfl (by kernel_rfl) (by kernel_rfl) (by kernel_rfl) (fun _ _ _ h => h) (yieldsIf_load_mid (by rfl) _ _ rfl _ _ rfl (K0.map (Value.int .u8)) _ (fun u hu => (P0.out u hu).range HK0.out) Tryz.underlying24 rfl (info_keyl K0 HK0.out)) hHeld ?_
          change wpAnyH _ _ _ _ _ _ _ (Act.put _ (some 33) _) _
          simp only [Act.put, List.setIfInBounds_toArray, List.set_cons_zero, List.set_cons_succ]
          refine wpAnyH_take (i := 20) (v := ?_) rfl (by kernel_rfl) (by kernel_rfl) (by kernel_rfl) (fun _ _ _ h => h) (Or.inl ⟨by rfl, ?_⟩) hHeld ?_
          rotate_left
          · intro u hSu
            (go_simp) <;> (with_reducible rfl)
          change wpAnyH _ _ _ _ _ _ _ (Act.put _ (some 34) _) _
          simp only [Act.put, List.setIfInBounds_toArray, List.set_cons_zero, List.set_cons_succ]
          refine wpAnyH_take (i := 21) (v := ?_) rfl (by kernel_rfl) (by kernel_rfl) (by kernel_rfl) (fun _ _ _ h => h) (Or.inl ⟨by rfl, ?_⟩) hHeld ?_
          rotate_left
          · intro u hSu
            (go_simp) <;> (with_reducible rfl)
          change wpAnyH _ _ _ _ _ _ _ (Act.put _ (some 35) _) _
          simp only [Act.put, List.setIfInBounds_toArray, List.set_cons_zero, List.set_cons_succ]
          refine wpAnyH_done (by kernel_rfl) ?_ _
          refine NoPanic.normal ?_
          have q1 := HC0.out wr.drew (Below.refl _ _).drew
          go_wp2_with (first | ((with_reducible show wpList _ _ _ (Oper.mk (some 44) _ _ _ _ _ :: _) _ _); refine wpList_load_keyD 44 (by rfl) (by rfl) _ (by rfl) g ((j + 1) * 20) (by rfl) K1 HK1.out (FK.out _ (Below.refl _ _).drew) ?_) | ((with_reducible show wpList _ _ _ (Oper.mk (some 45) _ _ _ _ _ :: _) _ _); refine wpList_build_key1 45 (by rfl) (by rfl) _ (by rfl) K1 HK1.out (by rfl) ?_) | (at_builtin; refine wpList_own keyEl (w0 := w) rfl (.tmp 36) (.tmp 45) rfl _ m _ (kc K1) rfl ((HO.out.past (Below.refl _ _).drew).alloc _) _ _ _ rfl (by rw [kc_len HK1.out]) (lies_made _ _ _) (ints_oneCell _ _) (fun h => by cases h) (m + 1) rfl hm1 _ HFL.out ?_; intro a6 c6 w6 h1 h2; have O6 : Hid (OwnB 24 16 w w6 (.slice a6 (m + 1) c6) (m + 1) ((keysV (L.take (j + 1 + 1))).flatMap kc)) := h1; clear h1 h2))
          go_roundw
          case rel => exact ⟨j + 1 + 1, m + 1, a6, c6, by go_num, rfl, by omega, by omega, O6, by show _ = _; rw [HX.out, List.length_append, HML.out]; rfl⟩
          case measure => simp [intOf]; omega
    · obtain rfl : i = N := by omega
      have HT : Hid (L.take i = L) := List.take_of_length_le (by rw [HN.out]; exact Nat.le_refl _)
      have HKY : Hid (Kys (keysV L)) := by have := keys_kys HOK.out i; rw [HT.out] at this; exact this
      go_wp2
      go_ret
      obtain ⟨a', c', e1, e2, e3⟩ := own_keys HO.out.own HML.out (by rw [HT.out]; exact HKY.out)
      rw [HT.out] at e3
      refine ⟨⟨a', c', ?_, e3, ?_⟩, HO.out.below⟩
      · have := HML.out
        rw [HT.out] at this
        rw [this, e1]; rfl
      · have := HML.out
        rw [HT.out] at this
        rw [this]; exact e2
end Go.Proofs.YtfaojmognbgnfaaGreat

namespace Go.Proofs.YtfaojmognbgnfaaGreat
open Go.RowKit
set_option linter.unusedVariables false

theorem VerAt.cellsG {w : World} {b : Nat} {V : Ver} (h : VerAt w b 0 V) (hk : Ky V.k) : w.cell? ⟨b, 18, none⟩ = some (.string (strOfNums V.v)) ∧ w.cell? ⟨b, 19, none⟩ = some (.bool V.g) := by
  have := h.cells hk
  simp only [Nat.zero_add] at this
  exact this.2.2
theorem at_ky {L : List Ver} (h : OkL L) (k : List Int) (t n : Int) : Ky (orZero (atV L k t n)).k := by
  cases hR : atV L k t n with
  | none => exact zeroV_ky
  | some X =>
    have hX : X ∈ chainV L k := by
      unfold atV at hR
      exact List.mem_reverse.1 (List.mem_of_find?_eq_some hR)
    exact (h X (List.mem_of_mem_drop (List.mem_of_mem_take hX))).key
theorem get_at (L : List Ver) (k : List Int) (t n : Int) : getV L k t n = if (atV L k t n).isSome = true then (if (orZero (atV L k t n)).g = true then none else some (orZero (atV L k t n)).v) else none := by
  unfold getV
  cases atV L k t n <;> rfl
set_option maxHeartbeats 4000000 in
set_option maxRecDepth 8000 in
theorem rget10_any (B p : Nat) (L : List Ver) (k : List Int) (hk : Ky k) (t n : Int) (w : World) (h : StoreR w B p L) :
    Calls Tryz.prog 13 #[.pointer (some ⟨p, 0, none⟩), kv k, .agg #[.int .i64 t, .int .u8 n]] w fun e w' => e = .returned (.tuple #[.string (strOfNums ((getV L k t n).getD [])), .bool (getV L k t n).isSome]) ∧ Below w.heap.size w w' := by
  have KY : Hid (Ky k) := hk
  obtain ⟨w1, hw1⟩ : ∃ u, u = (w.alloc (.cells (kcs k) 24)).alloc (.cells #[.int .i64 t, .int .u8 n] 26) := ⟨_, rfl⟩
  have hK1 : KBox w w1 k := by rw [hw1]; exact (KBox.made w hk).alloc _
  have HB1 : Hid (Below w.heap.size w w1) := hK1.below
  have hs1 : w1.heap.size = w.heap.size + 2 := by rw [hw1]; simp
  have FT : Hid (w1.cell? ⟨w.heap.size + 1, 0, none⟩ = some (.int .i64 t) ∧ w1.cell? ⟨w.heap.size + 1, 1, none⟩ = some (.int .u8 n)) := by
    have e : ∀ o, w1.cell? ⟨w.heap.size + 1, o, none⟩ = (#[.int .i64 t, .int .u8 n] : Array Value)[o]? := fun o => by
      have := World.cell?_alloc_new (w.alloc (.cells (kcs k) 24)) #[.int .i64 t, .int .u8 n] 26 o
      rw [World.size_alloc] at this
      rw [hw1, this]
    exact ⟨e 0, e 1⟩
  have FK : Hid (KeyAt w1 w.heap.size 0 k) := hK1.key
  have HW1 : Hid ((w.alloc (.cells (kcs k) 24)).alloc (.cells #[.int .i64 t, .int .u8 n] 26) = w1) := hw1.symm
  have hget := get_at L k t n
  obtain ⟨R, hR⟩ : ∃ R, R = getV L k t n := ⟨_, rfl⟩
  rw [← hR] at hget ⊢
  obtain ⟨Z, hZ⟩ : ∃ Z, Z = orZero (atV L k t n) := ⟨_, rfl⟩
  obtain ⟨ok, hok⟩ : ∃ ok, ok = (atV L k t n).isSome := ⟨_, rfl⟩
  have HZK : Hid (Ky Z.k) := by rw [hZ]; exact at_ky h.oks k t n
  have CA : Hid (∀ u, Below w.heap.size w u → Calls Tryz.prog 37 #[.pointer (some ⟨p, 0, none⟩), kv k, .agg #[.int .i64 t, .int .u8 n]] u fun e w' => e = .returned (.tuple #[vv Z, .bool ok]) ∧ Below u.heap.size u w') := fun u hb => by rw [hZ, hok]; exact rat10_any B p L k t n hk u (h.past hb)
  rw [← hZ, ← hok] at hget
  obtain ⟨S, hS⟩ : ∃ S, S = strOfNums Z.v := ⟨_, rfl⟩
  obtain ⟨zg, hzg⟩ : ∃ g, g = Z.g := ⟨_, rfl⟩
  have HZC : Hid (∀ u b, VerMine u b 0 Z → u.cell? ⟨b, 18, none⟩ = some (.string S) ∧ u.cell? ⟨b, 19, none⟩ = some (.bool zg)) := fun u b hm => by rw [hS, hzg]; exact hm.at_.cellsG hm.key
  rw [← hzg] at hget
  have HS : Hid (S = strOfNums Z.v) := hS
  clear h hk hw1 hK1 hs1 hR hZ hok hS hzg
  cases ok with
  | false =>
    have HR : Hid (R = none) := hget
    clear hget HS
    go_enter Tryz.func13, Tryz.ntmps13
    go_wp2_with (first | ((with_reducible show wpList _ _ _ (Oper.mk (some 12) _ _ _ _ _ :: _) _ _); rw [HW1.out]; refine wpList_load_keyD 12 (by rfl) (by rfl) _ (by rfl) w.heap.size 0 (by rfl) k KY.out FK.out ?_; obtain ⟨y0, y1⟩ := FT.out) | (go_at_call 37; refine (CA.out _ HB1.out).mono ?_; rintro e w2 ⟨rfl, hb2⟩; have HB2 : Hid (Below w.heap.size w w2) := HB1.out.trans (hb2.mono HB1.out.size); have hmi := VerMine.made w2 71 zeroV zeroV_ky; rw [zeroV_cells] at hmi; have HMI : Hid _ := hmi; clear hmi hb2 y0 y1) | (have hgo := HMI.out; clear hgo; refine wpList_store_ver (.tmp 8) (by rfl) _ (by rfl) w2.heap.size 0 zeroV Z (by rfl) (by rfl) HZK.out HMI.out ?_; intro u3 hu; have HV3 : Hid (VerMine u3 w2.heap.size 0 Z) := hu ▸ HMI.out.store HZK.out; have HB3 : Hid (Below w.heap.size w u3) := hu ▸ below_cells HB2.out.size (HB2.out.alloc HB2.out.size _); clear hu HMI))
    go_ret2
    exact ⟨by rw [HR.out]; rfl, HB3.out⟩
  | true =>
    cases zg with
    | true =>
      have HR : Hid (R = none) := hget
      clear hget HS
      go_enter Tryz.func13, Tryz.ntmps13
      go_wp2_with (first | ((with_reducible show wpList _ _ _ (Oper.mk (some 12) _ _ _ _ _ :: _) _ _); rw [HW1.out]; refine wpList_load_keyD 12 (by rfl) (by rfl) _ (by rfl) w.heap.size 0 (by rfl) k KY.out FK.out ?_; obtain ⟨y0, y1⟩ := FT.out) | (go_at_call 37; refine (CA.out _ HB1.out).mono ?_; rintro e w2 ⟨rfl, hb2⟩; have HB2 : Hid (Below w.heap.size w w2) := HB1.out.trans (hb2.mono HB1.out.size); have hmi := VerMine.made w2 71 zeroV zeroV_ky; rw [zeroV_cells] at hmi; have HMI : Hid _ := hmi; clear hmi hb2 y0 y1) | (have hgo := HMI.out; clear hgo; refine wpList_store_ver (.tmp 8) (by rfl) _ (by rfl) w2.heap.size 0 zeroV Z (by rfl) (by rfl) HZK.out HMI.out ?_; intro u3 hu; have HV3 : Hid (VerMine u3 w2.heap.size 0 Z) := hu ▸ HMI.out.store HZK.out; have HB3 : Hid (Below w.heap.size w u3) := hu ▸ below_cells HB2.out.size (HB2.out.alloc HB2.out.size _); obtain ⟨z0, z1⟩ := HZC.out _ _ HV3.out; clear hu HMI))
      go_ret2
      exact ⟨by rw [HR.out]; rfl, HB3.out⟩
    | false =>
      have HR : Hid (R = some Z.v) := hget
      clear hget
      go_enter Tryz.func13, Tryz.ntmps13
      go_wp2_with (first | ((with_reducible show wpList _ _ _ (Oper.mk (some 12) _ _ _ _ _ :: _) _ _); rw [HW1.out]; refine wpList_load_keyD 12 (by rfl) (by rfl) _ (by rfl) w.heap.size 0 (by rfl) k KY.out FK.out ?_; obtain ⟨y0, y1⟩ := FT.out) | (go_at_call 37; refine (CA.out _ HB1.out).mono ?_; rintro e w2 ⟨rfl, hb2⟩; have HB2 : Hid (Below w.heap.size w w2) := HB1.out.trans (hb2.mono HB1.out.size); have hmi := VerMine.made w2 71 zeroV zeroV_ky; rw [zeroV_cells] at hmi; have HMI : Hid _ := hmi; clear hmi hb2 y0 y1) | (have hgo := HMI.out; clear hgo; refine wpList_store_ver (.tmp 8) (by rfl) _ (by rfl) w2.heap.size 0 zeroV Z (by rfl) (by rfl) HZK.out HMI.out ?_; intro u3 hu; have HV3 : Hid (VerMine u3 w2.heap.size 0 Z) := hu ▸ HMI.out.store HZK.out; have HB3 : Hid (Below w.heap.size w u3) := hu ▸ below_cells HB2.out.size (HB2.out.alloc HB2.out.size _); obtain ⟨z0, z1⟩ := HZC.out _ _ HV3.out; clear hu HMI))
      go_ret2
      exact ⟨by rw [HR.out, HS.out]; rfl, HB3.out⟩
set_option maxHeartbeats 8000000 in
set_option maxRecDepth 8000 in
theorem rscan10_any (B p : Nat) (L : List Ver) (a b : List Int) (ha : Ky a) (hb : Ky b) (t n most : Int) (hmo : -9223372036854775808 ≤ most ∧ most ≤ 9223372036854775807) (w : World) (h : StoreR w B p L) (hg : StoG L) :
    Calls Tryz.prog 18 #[.pointer (some ⟨p, 0, none⟩), kv a, kv b, .agg #[.int .i64 t, .int .u8 n], .int .i64 most] w fun e w' => (∃ a' c', e = .returned (.slice a' ((scanV L a b t n).take most.toNat).length c') ∧ ItmsAt w' a' ((scanV L a b t n).take most.toNat) ∧ ((scanV L a b t n).take most.toNat).length ≤ c') ∧ Below w.heap.size w w' := by
  have HG : Hid (StoG L) := hg
  have KA : Hid (Ky a) := ha
  have KB : Hid (Ky b) := hb
  obtain ⟨W0, hW0⟩ : ∃ u, u = ((w.alloc (.cells (kcs a) 24)).alloc (.cells (kcs b) 24)).alloc (.cells #[.int .i64 t, .int .u8 n] 26) := ⟨_, rfl⟩
  have HB0 : Hid (ScB w W0 a b t n) := by rw [hW0]; exact ScB.made w ha hb t n 24 26
  have HW0 : Hid (((w.alloc (.cells (kcs a) 24)).alloc (.cells (kcs b) 24)).alloc (.cells #[.int .i64 t, .int .u8 n] 26) = W0) := hW0.symm
  have HST : Hid (∀ u, Below w.heap.size w u → StoreR u B p L) := fun u hb => h.past hb
  obtain ⟨K, hK⟩ : ∃ K, K = keysV L := ⟨_, rfl⟩
  obtain ⟨N, hN⟩ : ∃ N, N = K.length := ⟨_, rfl⟩
  have hN200 : N ≤ 200 := by rw [hN, hK]; exact hg.few
  have CK : Hid (Calls Tryz.prog 21 #[.pointer (some ⟨p, 0, none⟩)] W0 fun e w' => (∃ a' cap', e = .returned (.slice a' N cap') ∧ KeysAt w' a' K ∧ N ≤ cap') ∧ Below W0.heap.size W0 w') := by
    rw [hN, hK]; exact rkeys10_any B p L W0 (h.past HB0.out.below)
  have HKN : Hid (K = keysV L ∧ K.length = N) := ⟨hK, hN.symm⟩
  obtain ⟨R, hR⟩ : ∃ R, R = (scanV L a b t n).take most.toNat := ⟨_, rfl⟩
  have HEND : Hid (∀ (U u : World) (v : Value) (i : Nat), ScR w U u a b t n v (scanN L a b t n i) → scanN L a b t n i = R → (∃ a' c', Ending.returned v = Ending.returned (.slice a' R.length c') ∧ ItmsAt u a' R ∧ R.length ≤ c') ∧ Below w.heap.size w u) := fun U u v i hr he => by
    obtain ⟨a', c', e1, e2, e3⟩ := own_itms hr.own.own rfl (scanN_ok hg)
    exact ⟨⟨a', c', by rw [e1, he], by rw [← he]; exact e3, by rw [← he]; exact e2⟩, hr.here.below⟩
  have HSTOP : Hid (∀ i, ((scanN L a b t n i).length : Int) ≤ max most 0 → most ≤ ((scanN L a b t n i).length : Int) → scanN L a b t n i = R) := fun i h1 h2 => by
    obtain ⟨r, hr⟩ := scan_pre L a b t n i
    rw [hR, hr]
    have : most.toNat = (scanN L a b t n i).length := by omega
    rw [this, List.take_left]
  have HALL : Hid (((scanN L a b t n N).length : Int) ≤ max most 0 → scanN L a b t n N = R) := fun h1 => by
    have e : scanN L a b t n N = scanV L a b t n := by
      unfold scanN scanV
      rw [List.take_of_length_le (by rw [hN, hK]; exact Nat.le_refl _)]
    rw [hR, ← e, List.take_of_length_le (by omega)]
  have HLEN : Hid (∀ i, (scanN L a b t n i).length ≤ 200) := fun i => Nat.le_trans (scanN_len L a b t n i) hg.few
  rw [← hR]
  clear hg ha hb hW0 h hK hN hR
  go_enter Tryz.func18, Tryz.ntmps18
  go_wp2_with (go_at_call 21; rw [HW0.out]; refine CK.out.mono ?_; rintro e w1 ⟨⟨ka, kcap, rfl, hka, hkc⟩, hb1⟩; have HKA : Hid (KeysAt w1 ka K) := hka; have HB1 : Hid (ScB w w1 a b t n) := HB0.out.past hb1; clear hka hb1)
  clear CK
  go_loopw [11, 13] (fun lv iv wr => ∃ (i m : Nat) (la : Option Addr) (lc : Nat), i ≤ N ∧ iv = .int .i64 i ∧ lv = .slice la m lc ∧ m ≤ 200 ∧ Hid (m = (scanN L a b t n i).length) ∧ Hid ((m : Int) ≤ max most 0) ∧ Hid (ScR w w1 wr a b t n (.slice la m lc) (scanN L a b t n i))) (fun _ iv _ => N - (intOf iv).toNat)
  case atStart => exact ⟨0, 0, none, 0, Nat.zero_le _, rfl, rfl, by omega, rfl, by show ((0 : Nat) : Int) ≤ max most 0; omega, ⟨HB1.out, ⟨World.ownsRow_nil _ _ _ _, Below.refl _ _⟩⟩⟩
  case round =>
    obtain ⟨i, m, la, lc, hi, rfl, rfl, hm200, HM, HMX, HS⟩ := hrel
    have hi0 : (0 : Int) ≤ (i : Int) := by omega
    by_cases hlt : i < N
    · have h1 : (i : Int) < (N : Int) := by omega
      by_cases hbr : most ≤ (m : Int)
      · have HX : Hid (scanN L a b t n i = R) := HSTOP.out i (by rw [← HM.out]; exact HMX.out) (by rw [← HM.out]; exact hbr)
        have h2 : ¬ (m : Int) < most := by omega
        go_wp2
        go_ret
        exact HEND.out _ _ _ _ HS.out HX.out
      · have h2 : (m : Int) < most := by omega
        obtain ⟨kb, ko, rfl, hkat, hky⟩ := (HKA.out.past (w' := wr) HS.out.own.below).key (i := i) (by rw [HKN.out.2]; exact hlt)
        obtain ⟨k, hk⟩ : ∃ k, k = K.getD i [] := ⟨_, rfl⟩
        rw [← hk] at hkat hky
        have HKI : Hid ((keysV L)[i]? = some k) := by
          show _ = _
          have : i < K.length := by rw [HKN.out.2]; exact hlt
          rw [← HKN.out.1, hk]
          simp [List.getD, this]
        have KW : Hid (∀ u, Below wr.heap.size wr u → KeyAt u kb (ko + i * 16) k) := fun u hb => hkat.past hb
        have KK : Hid (Ky k) := hky
        have FT : Hid (∀ u, Below wr.heap.size wr u → u.cell? ⟨w.heap.size + 2, 0, none⟩ = some (.int .i64 t) ∧ u.cell? ⟨w.heap.size + 2, 1, none⟩ = some (.int .u8 n)) := fun u hb => ⟨(HS.out.here.past hb).c0, (HS.out.here.past hb).c1⟩
        clear hkat hky hk
        obtain ⟨gv, hgv⟩ : ∃ x, x = getV L k t n := ⟨_, rfl⟩
        have CG0 : ∀ u, Below wr.heap.size wr u → Calls Tryz.prog 13 #[.pointer (some ⟨p, 0, none⟩), kv k, .agg #[.int .i64 t, .int .u8 n]] u fun e w' => e = .returned (.tuple #[.string (strOfNums (gv.getD [])), .bool gv.isSome]) ∧ Below u.heap.size u w' := fun u hb => by rw [hgv]; exact rget10_any B p L k KK.out t n u (HST.out u (HS.out.here.past hb).below)
        obtain ⟨wi, hwi⟩ : ∃ x, x = withinK k a b := ⟨_, rfl⟩
        have CW : Hid (∀ u, Calls Tryz.prog 44 #[kv k, kv a, kv b] u fun e w' => e = .returned (.bool wi) ∧ Below u.heap.size u w') := fun u => by rw [hwi]; exact rwithin_any k a b KK.out KA.out KB.out u
        have HNX := scan_next (a := a) (b := b) (t := t) (n := n) HKI.out
        have hitem : itemV L a b t n k = gv.bind (fun v => if wi = true then some (k, v) else none) := by
          rw [hgv, hwi]
          unfold itemV
          cases getV L k t n <;> rfl
        clear hgv hwi HKI
        cases gv with
        | none =>
          have HX : Hid (scanN L a b t n (i + 1) = scanN L a b t n i) := by
            show _ = _
            rw [HNX, hitem]; simp
          have CG : Hid (∀ u, Below wr.heap.size wr u → Calls Tryz.prog 13 #[.pointer (some ⟨p, 0, none⟩), kv k, .agg #[.int .i64 t, .int .u8 n]] u fun e w' => e = .returned (.tuple #[.string (strOfNums []), .bool false]) ∧ Below u.heap.size u w') := CG0
          generalize strOfNums [] = S0 at CG
          clear hitem HNX CG0 CW
          go_wp2
          refine wp_region_noPanic ?_
          refine wp_region_held_drew (S := fun u => Below wr.heap.size wr u) (by kernel_rfl) ?_ (fun hHeld => ?_)
          · exact (Below.refl _ _).drew
          refine wpAnyH_take (i := 0) (v := ?_) rfl (by kernel_rfl) (by kernel_rfl) (by kernel_rfl) (fun _ _ _ h => h) (Or.inl ⟨by rfl, ?_⟩) hHeld ?_
          rotate_left
          · intro u hSu
            (go_simp) <;> (with_reducible rfl)
          change wpAnyH _ _ _ _ _ _ _ (Act.put _ (some 31) _) _
          simp only [Act.put, List.setIfInBounds_toArray, List.set_cons_zero, List.set_cons_succ]
          refine wpAnyH_take (i := 1) (v := ?_) rfl (by kernel_rfl) (by kernel_rfl) (by kernel_rfl) (fun _ _ _ h => h) (Or.inl ⟨by rfl, ?_⟩) hHeld ?_
          rotate_left
          · intro u hSu
            (go_simp) <;> (with_reducible rfl)
          change wpAnyH _ _ _ _ _ _ _ (Act.put _ (some 32) _) _
          simp only [Act.put, List.setIfInBounds_toArray, List.set_cons_zero, List.set_cons_succ]
          refine wpAnyH_take (i := 2) (v := ?_) rfl (by kernel_rfl) (by kernel_rfl) (by kernel_rfl) (fun _ _ _ h => h) (Or.inl ⟨by rfl, ?_⟩) hHeld ?_
          rotate_left
          · intro u hSu
            (go_simp) <;> (with_reducible rfl)
          change wpAnyH _ _ _ _ _ _ _ (Act.put _ (some 33) _) _
          simp only [Act.put, List.setIfInBounds_toArray, List.set_cons_zero, List.set_cons_succ]
          refine wpAnyH_take (i := 3) (v := ?_) rfl (by kernel_rfl) (by kernel_rfl) (by kernel_rfl) (fun _ _ _ h => h) (Or.inl ⟨by rfl, ?_⟩) hHeld ?_
          rotate_left
          · intro u hSu
            (go_simp) <;> (with_reducible rfl)
          change wpAnyH _ _ _ _ _ _ _ (Act.put _ (some 34) _) _
          simp only [Act.put, List.setIfInBounds_toArray, List.set_cons_zero, List.set_cons_succ]
          refine wpAnyH_take (i := 4) (v := kv k) rfl (by kernel_rfl) (by kernel_rfl) (by kernel_rfl) (fun _ _ _ h => h) (yieldsIf_load_mid (by rfl) _ _ rfl _ _ rfl (k.map (Value.int .u8)) _ (fun u hu => (KW.out u hu).range KK.out) Tryz.underlying24 rfl (info_keyl k KK.out)) hHeld ?_
          change wpAnyH _ _ _ _ _ _ _ (Act.put _ (some 35) _) _
          simp only [Act.put, List.setIfInBounds_toArray, List.set_cons_zero, List.set_cons_succ]
          refine wpAnyH_take (i := 5) (v := ?_) rfl (by kernel_rfl) (by kernel_rfl) (by kernel_rfl) (fun _ _ _ h => h) (Or.inl ⟨by rfl, ?_⟩) hHeld ?_
          rotate_left
          · intro u hSu
            obtain ⟨r1, r2⟩ := FT.out u hSu
            (go_simp) <;> (with_reducible rfl)
          change wpAnyH _ _ _ _ _ _ _ (Act.put _ (some 36) _) _
          simp only [Act.put, List.setIfInBounds_toArray, List.set_cons_zero, List.set_cons_succ]
          refine wpAnyH_ready (rs := [6]) (by kernel_rfl) (by simp) ?_
          refine AllReadyH.cons rfl (fun K hK => ?_) AllReadyH.nil
          go_simp
          go_at_call 13
          refine (CG.out _ hHeld).mono ?_
          rintro e v8 ⟨rfl, hb8⟩
          have B8 : Hid (Below wr.heap.size wr v8) := hHeld.trans (hb8.mono hHeld.size)
          refine hK.out _ _ ?_ (fun hHeld2 => ?_)
          · exact B8.out
          clear hK K hHeld
          have hHeld := hHeld2
          clear hHeld2
          refine wpAnyH_take (i := 7) (v := ?_) rfl (by kernel_rfl) (by kernel_rfl) (by kernel_rfl) (fun _ _ _ h => h) (Or.inl ⟨by rfl, ?_⟩) hHeld ?_
          rotate_left
          · intro u hSu
            (go_simp) <;> (with_reducible rfl)
          change wpAnyH _ _ _ _ _ _ _ (Act.put _ (some 30) _) _
          simp only [Act.put, List.setIfInBounds_toArray, List.set_cons_zero, List.set_cons_succ]
          refine wpAnyH_take (i := 8) (v := ?_) rfl (by kernel_rfl) (by kernel_rfl) (by kernel_rfl) (fun _ _ _ h => h) (Or.inl ⟨by rfl, ?_⟩) hHeld ?_
          rotate_left
          · intro u hSu
            (go_simp) <;> (with_reducible rfl)
          change wpAnyH _ _ _ _ _ _ _ (Act.put _ (some 38) _) _
          simp only [Act.put, List.setIfInBounds_toArray, List.set_cons_zero, List.set_cons_succ]
          refine wpAnyH_take (i := 9) (v := ?_) rfl (by kernel_rfl) (by kernel_rfl) (by kernel_rfl) (fun _ _ _ h => h) (Or.inl ⟨by rfl, ?_⟩) hHeld ?_
          rotate_left
          · intro u hSu
            (go_simp) <;> (with_reducible rfl)
          change wpAnyH _ _ _ _ _ _ _ (Act.put _ (some 39) _) _
          simp only [Act.put, List.setIfInBounds_toArray, List.set_cons_zero, List.set_cons_succ]
          refine wpAnyH_take (i := 10) (v := ?_) rfl (by kernel_rfl) (by kernel_rfl) (by kernel_rfl) (fun _ _ _ h => h) (Or.inl ⟨by rfl, ?_⟩) hHeld ?_
          rotate_left
          · intro u hSu
            (go_simp) <;> (with_reducible rfl)
          change wpAnyH _ _ _ _ _ _ _ (Act.put _ (some 14) _) _
          simp only [Act.put, List.setIfInBounds_toArray, List.set_cons_zero, List.set_cons_succ]
          refine wpAnyH_take (i := 11) (v := ?_) rfl (by kernel_rfl) (by kernel_rfl) (by kernel_rfl) (fun _ _ _ h => h) (Or.inl ⟨by rfl, ?_⟩) hHeld ?_
          rotate_left
          · intro u hSu
            (go_simp) <;> (with_reducible rfl)
          change wpAnyH _ _ _ _ _ _ _ (Act.put _ (some 15) _) _
          simp only [Act.put, List.setIfInBounds_toArray, List.set_cons_zero, List.set_cons_succ]
          refine wpAnyH_done (by kernel_rfl) ?_ _
          refine NoPanic.normal ?_
          clear hb8
          go_wp2
          refine wp_region_noPanic ?_
          refine wp_region_held_drew (S := fun u => Below v8.heap.size v8 u) (by kernel_rfl) ?_ (fun hHeld => ?_)
          · exact (Below.refl _ _).drew
          refine wpAnyH_take (i := 0) (v := ?_) rfl (by kernel_rfl) (by kernel_rfl) (by kernel_rfl) (fun _ _ _ h => h) (Or.inl ⟨by rfl, ?_⟩) hHeld ?_
          rotate_left
          · intro u hSu
            (go_simp) <;> (with_reducible rfl)
          change wpAnyH _ _ _ _ _ _ _ (Act.put _ (some 40) _) _
          simp only [Act.put, List.setIfInBounds_toArray, List.set_cons_zero, List.set_cons_succ]
          refine wpAnyH_take (i := 1) (v := ?_) rfl (by kernel_rfl) (by kernel_rfl) (by kernel_rfl) (fun _ _ _ h => h) (Or.inl ⟨by rfl, ?_⟩) hHeld ?_
          rotate_left
          · intro u hSu
            (go_simp) <;> (with_reducible rfl)
          change wpAnyH _ _ _ _ _ _ _ (Act.put _ (some 41) _) _
          simp only [Act.put, List.setIfInBounds_toArray, List.set_cons_zero, List.set_cons_succ]
          refine wpAnyH_take (i := 2) (v := undef) rfl (by kernel_rfl) (by kernel_rfl) (by kernel_rfl) (fun _ _ _ h => h) (Or.inr ⟨by rfl, rfl⟩) hHeld ?_
          change wpAnyH _ _ _ _ _ _ _ (Act.put _ (some 42) _) _
          simp only [Act.put, List.setIfInBounds_toArray, List.set_cons_zero, List.set_cons_succ]
          refine wpAnyH_take (i := 3) (v := undef) rfl (by kernel_rfl) (by kernel_rfl) (by kernel_rfl) (fun _ _ _ h => h) (Or.inr ⟨by rfl, rfl⟩) hHeld ?_
          change wpAnyH _ _ _ _ _ _ _ (Act.put _ (some 43) _) _
          simp only [Act.put, List.setIfInBounds_toArray, List.set_cons_zero, List.set_cons_succ]
          refine wpAnyH_take (i := 4) (v := undef) rfl (by kernel_rfl) (by kernel_rfl) (by kernel_rfl) (fun _ _ _ h => h) (Or.inr ⟨by rfl, rfl⟩) hHeld ?_
          change wpAnyH _ _ _ _ _ _ _ (Act.put _ (some 44) _) _
          simp only [Act.put, List.setIfInBounds_toArray, List.set_cons_zero, List.set_cons_succ]
          refine wpAnyH_take (i := 5) (v := undef) rfl (by kernel_rfl) (by kernel_rfl) (by kernel_rfl) (fun _ _ _ h => h) (Or.inr ⟨by rfl, rfl⟩) hHeld ?_
          change wpAnyH _ _ _ _ _ _ _ (Act.put _ (some 45) _) _
          simp only [Act.put, List.setIfInBounds_toArray, List.set_cons_zero, List.set_cons_succ]
          refine wpAnyH_take (i := 6) (v := undef) rfl (by kernel_rfl) (by kernel_rfl) (by kernel_rfl) (fun _ _ _ h => h) (Or.inr ⟨by rfl, rfl⟩) hHeld ?_
          change wpAnyH _ _ _ _ _ _ _ (Act.put _ (some 46) _) _
          simp only [Act.put, List.setIfInBounds_toArray, List.set_cons_zero, List.set_cons_succ]
          refine wpAnyH_take (i := 7) (v := undef) rfl (by kernel_rfl) (by kernel_rfl) (by kernel_rfl) (fun _ _ _ h => h) (Or.inr ⟨by rfl, rfl⟩) hHeld ?_
          change wpAnyH _ _ _ _ _ _ _ (Act.put _ (some 47) _) _
          simp only [Act.put, List.setIfInBounds_toArray, List.set_cons_zero, List.set_cons_succ]
          refine wpAnyH_take (i := 8) (v := undef) rfl (by kernel_rfl) (by kernel_rfl) (by kernel_rfl) (fun _ _ _ h => h) (Or.inr ⟨by rfl, rfl⟩) hHeld ?_
          change wpAnyH _ _ _ _ _ _ _ (Act.put _ (some 48) _) _
          simp only [Act.put, List.setIfInBounds_toArray, List.set_cons_zero, List.set_cons_succ]
          refine wpAnyH_take (i := 9) (v := ?_) rfl (by kernel_rfl) (by kernel_rfl) (by kernel_rfl) (fun _ _ _ h => h) (Or.inl ⟨by rfl, ?_⟩) hHeld ?_
          rotate_left
          · intro u hSu
            (go_simp) <;> (with_reducible rfl)
          change wpAnyH _ _ _ _ _ _ _ (Act.put _ (some 49) _) _
          simp only [Act.put, List.setIfInBounds_toArray, List.set_cons_zero, List.set_cons_succ]
          refine wpAnyH_done (by kernel_rfl) ?_ _
          refine NoPanic.normal ?_
          go_wp2
          go_roundw
          case rel => exact ⟨i + 1, m, la, lc, by omega, by go_num, rfl, hm200, by show _ = _; rw [HX.out]; exact HM.out, HMX, by rw [HX.out]; exact HS.out.past B8.out.drew⟩
          case measure => simp [intOf]; omega
        | some v =>
          have CG : Hid (∀ u, Below wr.heap.size wr u → Calls Tryz.prog 13 #[.pointer (some ⟨p, 0, none⟩), kv k, .agg #[.int .i64 t, .int .u8 n]] u fun e w' => e = .returned (.tuple #[.string (strOfNums v), .bool true]) ∧ Below u.heap.size u w') := CG0
          clear CG0
          cases wi with
          | false =>
            have HX : Hid (scanN L a b t n (i + 1) = scanN L a b t n i) := by
              show _ = _
              rw [HNX, hitem]; simp
            generalize strOfNums v = S0 at CG
            clear hitem HNX
            go_wp2
            refine wp_region_noPanic ?_
            refine wp_region_held_drew (S := fun u => Below wr.heap.size wr u) (by kernel_rfl) ?_ (fun hHeld => ?_)
            · exact (Below.refl _ _).drew
            refine wpAnyH_take (i := 0) (v := ?_) rfl (by kernel_rfl) (by kernel_rfl) (by kernel_rfl) (fun _ _ _ h => h) (Or.inl ⟨by rfl, ?_⟩) hHeld ?_
            rotate_left
            · intro u hSu
              (go_simp) <;> (with_reducible rfl)
            change wpAnyH _ _ _ _ _ _ _ (Act.put _ (some 31) _) _
            simp only [Act.put, List.setIfInBounds_toArray, List.set_cons_zero, List.set_cons_succ]
            refine wpAnyH_take (i := 1) (v := ?_) rfl (by kernel_rfl) (by kernel_rfl) (by kernel_rfl) (fun _ _ _ h => h) (Or.inl ⟨by rfl, ?_⟩) hHeld ?_
            rotate_left
            · intro u hSu
              (go_simp) <;> (with_reducible rfl)
            change wpAnyH _ _ _ _ _ _ _ (Act.put _ (some 32) _) _
            simp only [Act.put, List.setIfInBounds_toArray, List.set_cons_zero, List.set_cons_succ]
            refine wpAnyH_take (i := 2) (v := ?_) rfl (by kernel_rfl) (by kernel_rfl) (by kernel_rfl) (fun _ _ _ h => h) (Or.inl ⟨by rfl, ?_⟩) hHeld ?_
            rotate_left
            · intro u hSu
              (go_simp) <;> (with_reducible rfl)
            change wpAnyH _ _ _ _ _ _ _ (Act.put _ (some 33) _) _
            simp only [Act.put, List.setIfInBounds_toArray, List.set_cons_zero, List.set_cons_succ]
            refine wpAnyH_take (i := 3) (v := ?_) rfl (by kernel_rfl) (by kernel_rfl) (by kernel_rfl) (fun _ _ _ h => h) (Or.inl ⟨by rfl, ?_⟩) hHeld ?_
            rotate_left
            · intro u hSu
              (go_simp) <;> (with_reducible rfl)
            change wpAnyH _ _ _ _ _ _ _ (Act.put _ (some 34) _) _
            simp only [Act.put, List.setIfInBounds_toArray, List.set_cons_zero, List.set_cons_succ]
            refine wpAnyH_take (i := 4) (v := kv k) rfl (by kernel_rfl) (by kernel_rfl) (by kernel_rfl) (fun _ _ _ h => h) (yieldsIf_load_mid (by rfl) _ _ rfl _ _ rfl (k.map (Value.int .u8)) _ (fun u hu => (KW.out u hu).range KK.out) Tryz.underlying24 rfl (info_keyl k KK.out)) hHeld ?_
            change wpAnyH _ _ _ _ _ _ _ (Act.put _ (some 35) _) _
            simp only [Act.put, List.setIfInBounds_toArray, List.set_cons_zero, List.set_cons_succ]
            refine wpAnyH_take (i := 5) (v := ?_) rfl (by kernel_rfl) (by kernel_rfl) (by kernel_rfl) (fun _ _ _ h => h) (Or.inl ⟨by rfl, ?_⟩) hHeld ?_
            rotate_left
            · intro u hSu
              obtain ⟨r1, r2⟩ := FT.out u hSu
              (go_simp) <;> (with_reducible rfl)
            change wpAnyH _ _ _ _ _ _ _ (Act.put _ (some 36) _) _
            simp only [Act.put, List.setIfInBounds_toArray, List.set_cons_zero, List.set_cons_succ]
            refine wpAnyH_ready (rs := [6]) (by kernel_rfl) (by simp) ?_
            refine AllReadyH.cons rfl (fun K hK => ?_) AllReadyH.nil
            go_simp
            go_at_call 13
            refine (CG.out _ hHeld).mono ?_
            rintro e v8 ⟨rfl, hb8⟩
            have B8 : Hid (Below wr.heap.size wr v8) := hHeld.trans (hb8.mono hHeld.size)
            refine hK.out _ _ ?_ (fun hHeld2 => ?_)
            · exact B8.out
            clear hK K hHeld
            have hHeld := hHeld2
            clear hHeld2
            refine wpAnyH_take (i := 7) (v := ?_) rfl (by kernel_rfl) (by kernel_rfl) (by kernel_rfl) (fun _ _ _ h => h) (Or.inl ⟨by rfl, ?_⟩) hHeld ?_
            rotate_left
            · intro u hSu
              (go_simp) <;> (with_reducible rfl)
            change wpAnyH _ _ _ _ _ _ _ (Act.put _ (some 30) _) _
            simp only [Act.put, List.setIfInBounds_toArray, List.set_cons_zero, List.set_cons_succ]
            refine wpAnyH_take (i := 8) (v := ?_) rfl (by kernel_rfl) (by kernel_rfl) (by kernel_rfl) (fun _ _ _ h => h) (Or.inl ⟨by rfl, ?_⟩) hHeld ?_
            rotate_left
            · intro u hSu
              (go_simp) <;> (with_reducible rfl)
            change wpAnyH _ _ _ _ _ _ _ (Act.put _ (some 38) _) _
            simp only [Act.put, List.setIfInBounds_toArray, List.set_cons_zero, List.set_cons_succ]
            refine wpAnyH_take (i := 9) (v := ?_) rfl (by kernel_rfl) (by kernel_rfl) (by kernel_rfl) (fun _ _ _ h => h) (Or.inl ⟨by rfl, ?_⟩) hHeld ?_
            rotate_left
            · intro u hSu
              (go_simp) <;> (with_reducible rfl)
            change wpAnyH _ _ _ _ _ _ _ (Act.put _ (some 39) _) _
            simp only [Act.put, List.setIfInBounds_toArray, List.set_cons_zero, List.set_cons_succ]
            refine wpAnyH_take (i := 10) (v := ?_) rfl (by kernel_rfl) (by kernel_rfl) (by kernel_rfl) (fun _ _ _ h => h) (Or.inl ⟨by rfl, ?_⟩) hHeld ?_
            rotate_left
            · intro u hSu
              (go_simp) <;> (with_reducible rfl)
            change wpAnyH _ _ _ _ _ _ _ (Act.put _ (some 14) _) _
            simp only [Act.put, List.setIfInBounds_toArray, List.set_cons_zero, List.set_cons_succ]
            refine wpAnyH_take (i := 11) (v := ?_) rfl (by kernel_rfl) (by kernel_rfl) (by kernel_rfl) (fun _ _ _ h => h) (Or.inl ⟨by rfl, ?_⟩) hHeld ?_
            rotate_left
            · intro u hSu
              (go_simp) <;> (with_reducible rfl)
            change wpAnyH _ _ _ _ _ _ _ (Act.put _ (some 15) _) _
            simp only [Act.put, List.setIfInBounds_toArray, List.set_cons_zero, List.set_cons_succ]
            refine wpAnyH_done (by kernel_rfl) ?_ _
            refine NoPanic.normal ?_
            clear hb8
            have K8 : Hid (∀ u, Below v8.heap.size v8 u → KeyAt u kb (ko + i * 16) k) := fun u hb => KW.out u (B8.out.trans (hb.mono B8.out.size))
            have A8 : Hid (∀ u, Below v8.heap.size v8 u → KeyAt u w.heap.size 0 a) := fun u hb => ((HS.out.past B8.out).here.past hb).a
            have E8 : Hid (∀ u, Below v8.heap.size v8 u → KeyAt u (w.heap.size + 1) 0 b) := fun u hb => ((HS.out.past B8.out).here.past hb).b
            go_wp2
            refine wp_region_noPanic ?_
            refine wp_region_held_drew (S := fun u => Below v8.heap.size v8 u) (by kernel_rfl) ?_ (fun hHeld => ?_)
            · exact (Below.refl _ _).drew
            refine wpAnyH_take (i := 0) (v := ?_) rfl (by kernel_rfl) (by kernel_rfl) (by kernel_rfl) (fun _ _ _ h => h) (Or.inl ⟨by rfl, ?_⟩) hHeld ?_
            rotate_left
            · intro u hSu
              (go_simp) <;> (with_reducible rfl)
            change wpAnyH _ _ _ _ _ _ _ (Act.put _ (some 40) _) _
            simp only [Act.put, List.setIfInBounds_toArray, List.set_cons_zero, List.set_cons_succ]
            refine wpAnyH_take (i := 1) (v := ?_) rfl (by kernel_rfl) (by kernel_rfl) (by kernel_rfl) (fun _ _ _ h => h) (Or.inl ⟨by rfl, ?_⟩) hHeld ?_
            rotate_left
            · intro u hSu
              (go_simp) <;> (with_reducible rfl)
            change wpAnyH _ _ _ _ _ _ _ (Act.put _ (some 41) _) _
            simp only [Act.put, List.setIfInBounds_toArray, List.set_cons_zero, List.set_cons_succ]
            refine wpAnyH_take (i := 2) (v := ?_) rfl (by kernel_rfl) (by kernel_rfl) (by kernel_rfl) (fun _ _ _ h => h) (Or.inl ⟨by rfl, ?_⟩) hHeld ?_
            rotate_left
            · intro u hSu
              (go_simp) <;> (with_reducible rfl)
            change wpAnyH _ _ _ _ _ _ _ (Act.put _ (some 42) _) _
            simp only [Act.put, List.setIfInBounds_toArray, List.set_cons_zero, List.set_cons_succ]
            refine wpAnyH_take (i := 3) (v := ?_) rfl (by kernel_rfl) (by kernel_rfl) (by kernel_rfl) (fun _ _ _ h => h) (Or.inl ⟨by rfl, ?_⟩) hHeld ?_
            rotate_left
            · intro u hSu
              (go_simp) <;> (with_reducible rfl)
            change wpAnyH _ _ _ _ _ _ _ (Act.put _ (some 43) _) _
            simp only [Act.put, List.setIfInBounds_toArray, List.set_cons_zero, List.set_cons_succ]
            refine wpAnyH_take (i := 4) (v := ?_) rfl (by kernel_rfl) (by kernel_rfl) (by kernel_rfl) (fun _ _ _ h => h) (Or.inl ⟨by rfl, ?_⟩) hHeld ?_
            rotate_left
            · intro u hSu
              (go_simp) <;> (with_reducible rfl)
            change wpAnyH _ _ _ _ _ _ _ (Act.put _ (some 44) _) _
            simp only [Act.put, List.setIfInBounds_toArray, List.set_cons_zero, List.set_cons_succ]
            refine wpAnyH_take (i := 5) (v := kv k) rfl (by kernel_rfl) (by kernel_rfl) (by kernel_rfl) (fun _ _ _ h => h) (yieldsIf_load_mid (by rfl) _ _ rfl _ _ rfl (k.map (Value.int .u8)) _ (fun u hu => (K8.out u hu).range KK.out) Tryz.underlying24 rfl (info_keyl k KK.out)) hHeld ?_
            change wpAnyH _ _ _ _ _ _ _ (Act.put _ (some 45) _) _
            simp only [Act.put, List.setIfInBounds_toArray, List.set_cons_zero, List.set_cons_succ]
            refine wpAnyH_take (i := 6) (v := kv a) rfl (by kernel_rfl) (by kernel_rfl) (by kernel_rfl) (fun _ _ _ h => h) (yieldsIf_load_mid (by rfl) _ _ rfl _ _ rfl (a.map (Value.int .u8)) _ (fun u hu => (A8.out u hu).range KA.out) Tryz.underlying24 rfl (info_keyl a KA.out)) hHeld ?_
            change wpAnyH _ _ _ _ _ _ _ (Act.put _ (some 46) _) _
            simp only [Act.put, List.setIfInBounds_toArray, List.set_cons_zero, List.set_cons_succ]
            refine wpAnyH_take (i := 7) (v := kv b) rfl (by kernel_rfl) (by kernel_rfl) (by kernel_rfl) (fun _ _ _ h => h) (yieldsIf_load_mid (by rfl) _ _ rfl _ _ rfl (b.map (Value.int .u8)) _ (fun u hu => (E8.out u hu).range KB.out) Tryz.underlying24 rfl (info_keyl b KB.out)) hHeld ?_
            change wpAnyH _ _ _ _ _ _ _ (Act.put _ (some 47) _) _
            simp only [Act.put, List.setIfInBounds_toArray, List.set_cons_zero, List.set_cons_succ]
            refine wpAnyH_ready (rs := [8]) (by kernel_rfl) (by simp) ?_
            refine AllReadyH.cons rfl (fun K hK => ?_) AllReadyH.nil
            go_simp
            go_at_call 44
            refine (CW.out _).mono ?_
            rintro e v9 ⟨rfl, hbv9⟩
            have B9 : Hid (Below v8.heap.size v8 v9) := hHeld.trans (hbv9.mono hHeld.size)
            clear hbv9
            refine hK.out _ _ ?_ (fun hHeld2 => ?_)
            · exact B9.out
            clear hK K hHeld
            have hHeld := hHeld2
            clear hHeld2
            refine wpAnyH_take (i := 9) (v := ?_) rfl (by kernel_rfl) (by kernel_rfl) (by kernel_rfl) (fun _ _ _ h => h) (Or.inl ⟨by rfl, ?_⟩) hHeld ?_
            rotate_left
            · intro u hSu
              (go_simp) <;> (with_reducible rfl)
            change wpAnyH _ _ _ _ _ _ _ (Act.put _ (some 49) _) _
            simp only [Act.put, List.setIfInBounds_toArray, List.set_cons_zero, List.set_cons_succ]
            refine wpAnyH_done (by kernel_rfl) ?_ _
            refine NoPanic.normal ?_
            go_wp2
            go_roundw
            case rel => exact ⟨i + 1, m, la, lc, by omega, by go_num, rfl, hm200, by show _ = _; rw [HX.out]; exact HM.out, HMX, by rw [HX.out]; exact (HS.out.past B8.out).past B9.out⟩
            case measure => simp [intOf]; omega
          | true =>
            have HX : Hid (scanN L a b t n (i + 1) = scanN L a b t n i ++ [(k, v)]) := by
              show _ = _
              rw [HNX, hitem]; simp
            have HFL : Hid ((scanN L a b t n i).flatMap encI ++ encI (k, v) = (scanN L a b t n (i + 1)).flatMap encI) := by show _ = _; rw [HX.out, List.flatMap_append]; simp
            clear hitem HNX
            go_wp2
            refine wp_region_noPanic ?_
            refine wp_region_held_drew (S := fun u => Below wr.heap.size wr u) (by kernel_rfl) ?_ (fun hHeld => ?_)
            · exact (Below.refl _ _).drew
            refine wpAnyH_take (i := 0) (v := ?_) rfl (by kernel_rfl) (by kernel_rfl) (by kernel_rfl) (fun _ _ _ h => h) (Or.inl ⟨by rfl, ?_⟩) hHeld ?_
            rotate_left
            · intro u hSu
              (go_simp) <;> (with_reducible rfl)
            change wpAnyH _ _ _ _ _ _ _ (Act.put _ (some 31) _) _
            simp only [Act.put, List.setIfInBounds_toArray, List.set_cons_zero, List.set_cons_succ]
            refine wpAnyH_take (i := 1) (v := ?_) rfl (by kernel_rfl) (by kernel_rfl) (by kernel_rfl) (fun _ _ _ h => h) (Or.inl ⟨by rfl, ?_⟩) hHeld ?_
            rotate_left
            · intro u hSu
              (go_simp) <;> (with_reducible rfl)
            change wpAnyH _ _ _ _ _ _ _ (Act.put _ (some 32) _) _
            simp only [Act.put, List.setIfInBounds_toArray, List.set_cons_zero, List.set_cons_succ]
            refine wpAnyH_take (i := 2) (v := ?_) rfl (by kernel_rfl) (by kernel_rfl) (by kernel_rfl) (fun _ _ _ h => h) (Or.inl ⟨by rfl, ?_⟩) hHeld ?_
            rotate_left
            · intro u hSu
              (go_simp) <;> (with_reducible rfl)
            change wpAnyH _ _ _ _ _ _ _ (Act.put _ (some 33) _) _
            simp only [Act.put, List.setIfInBounds_toArray, List.set_cons_zero, List.set_cons_succ]
            refine wpAnyH_take (i := 3) (v := ?_) rfl (by kernel_rfl) (by kernel_rfl) (by kernel_rfl) (fun _ _ _ h => h) (Or.inl ⟨by rfl, ?_⟩) hHeld ?_
            rotate_left
            · intro u hSu
              (go_simp) <;> (with_reducible rfl)
            change wpAnyH _ _ _ _ _ _ _ (Act.put _ (some 34) _) _
            simp only [Act.put, List.setIfInBounds_toArray, List.set_cons_zero, List.set_cons_succ]
            refine wpAnyH_take (i := 4) (v := kv k) rfl (by kernel_rfl) (by kernel_rfl) (by kernel_rfl) (fun _ _ _ h => h) (yieldsIf_load_mid (by rfl) _ _ rfl _ _ rfl (k.map (Value.int .u8)) _ (fun u hu => (KW.out u hu).range KK.out) Tryz.underlying24 rfl (info_keyl k KK.out)) hHeld ?_
            change wpAnyH _ _ _ _ _ _ _ (Act.put _ (some 35) _) _
            simp only [Act.put, List.setIfInBounds_toArray, List.set_cons_zero, List.set_cons_succ]
            refine wpAnyH_take (i := 5) (v := ?_) rfl (by kernel_rfl) (by kernel_rfl) (by kernel_rfl) (fun _ _ _ h => h) (Or.inl ⟨by rfl, ?_⟩) hHeld ?_
            rotate_left
            · intro u hSu
              obtain ⟨r1, r2⟩ := FT.out u hSu
              (go_simp) <;> (with_reducible rfl)
            change wpAnyH _ _ _ _ _ _ _ (Act.put _ (some 36) _) _
            simp only [Act.put, List.setIfInBounds_toArray, List.set_cons_zero, List.set_cons_succ]
            refine wpAnyH_ready (rs := [6]) (by kernel_rfl) (by simp) ?_
            refine AllReadyH.cons rfl (fun K hK => ?_) AllReadyH.nil
            go_simp
            go_at_call 13
            refine (CG.out _ hHeld).mono ?_
            rintro e v8 ⟨rfl, hb8⟩
            have B8 : Hid (Below wr.heap.size wr v8) := hHeld.trans (hb8.mono hHeld.size)
            refine hK.out _ _ ?_ (fun hHeld2 => ?_)
            · exact B8.out
            clear hK K hHeld
            have hHeld := hHeld2
            clear hHeld2
            refine wpAnyH_take (i := 7) (v := ?_) rfl (by kernel_rfl) (by kernel_rfl) (by kernel_rfl) (fun _ _ _ h => h) (Or.inl ⟨by rfl, ?_⟩) hHeld ?_
            rotate_left
            · intro u hSu
              (go_simp) <;> (with_reducible rfl)
            change wpAnyH _ _ _ _ _ _ _ (Act.put _ (some 30) _) _
            simp only [Act.put, List.setIfInBounds_toArray, List.set_cons_zero, List.set_cons_succ]
            refine wpAnyH_take (i := 8) (v := ?_) rfl (by kernel_rfl) (by kernel_rfl) (by kernel_rfl) (fun _ _ _ h => h) (Or.inl ⟨by rfl, ?_⟩) hHeld ?_
            rotate_left
            · intro u hSu
              (go_simp) <;> (with_reducible rfl)
            change wpAnyH _ _ _ _ _ _ _ (Act.put _ (some 38) _) _
            simp only [Act.put, List.setIfInBounds_toArray, List.set_cons_zero, List.set_cons_succ]
            refine wpAnyH_take (i := 9) (v := ?_) rfl (by kernel_rfl) (by kernel_rfl) (by kernel_rfl) (fun _ _ _ h => h) (Or.inl ⟨by rfl, ?_⟩) hHeld ?_
            rotate_left
            · intro u hSu
              (go_simp) <;> (with_reducible rfl)
            change wpAnyH _ _ _ _ _ _ _ (Act.put _ (some 39) _) _
            simp only [Act.put, List.setIfInBounds_toArray, List.set_cons_zero, List.set_cons_succ]
            refine wpAnyH_take (i := 10) (v := ?_) rfl (by kernel_rfl) (by kernel_rfl) (by kernel_rfl) (fun _ _ _ h => h) (Or.inl ⟨by rfl, ?_⟩) hHeld ?_
            rotate_left
            · intro u hSu
              (go_simp) <;> (with_reducible rfl)
            change wpAnyH _ _ _ _ _ _ _ (Act.put _ (some 14) _) _
            simp only [Act.put, List.setIfInBounds_toArray, List.set_cons_zero, List.set_cons_succ]
            refine wpAnyH_take (i := 11) (v := ?_) rfl (by kernel_rfl) (by kernel_rfl) (by kernel_rfl) (fun _ _ _ h => h) (Or.inl ⟨by rfl, ?_⟩) hHeld ?_
            rotate_left
            · intro u hSu
              (go_simp) <;> (with_reducible rfl)
            change wpAnyH _ _ _ _ _ _ _ (Act.put _ (some 15) _) _
            simp only [Act.put, List.setIfInBounds_toArray, List.set_cons_zero, List.set_cons_succ]
            refine wpAnyH_done (by kernel_rfl) ?_ _
            refine NoPanic.normal ?_
            clear hb8
            have K8 : Hid (∀ u, Below v8.heap.size v8 u → KeyAt u kb (ko + i * 16) k) := fun u hb => KW.out u (B8.out.trans (hb.mono B8.out.size))
            have A8 : Hid (∀ u, Below v8.heap.size v8 u → KeyAt u w.heap.size 0 a) := fun u hb => ((HS.out.past B8.out).here.past hb).a
            have E8 : Hid (∀ u, Below v8.heap.size v8 u → KeyAt u (w.heap.size + 1) 0 b) := fun u hb => ((HS.out.past B8.out).here.past hb).b
            go_wp2
            refine wp_region_noPanic ?_
            refine wp_region_held_drew (S := fun u => Below v8.heap.size v8 u) (by kernel_rfl) ?_ (fun hHeld => ?_)
            · exact (Below.refl _ _).drew
            refine wpAnyH_take (i := 0) (v := ?_) rfl (by kernel_rfl) (by kernel_rfl) (by kernel_rfl) (fun _ _ _ h => h) (Or.inl ⟨by rfl, ?_⟩) hHeld ?_
            rotate_left
            · intro u hSu
              (go_simp) <;> (with_reducible rfl)
            change wpAnyH _ _ _ _ _ _ _ (Act.put _ (some 40) _) _
            simp only [Act.put, List.setIfInBounds_toArray, List.set_cons_zero, List.set_cons_succ]
            refine wpAnyH_take (i := 1) (v := ?_) rfl (by kernel_rfl) (by kernel_rfl) (by kernel_rfl) (fun _ _ _ h => h) (Or.inl ⟨by rfl, ?_⟩) hHeld ?_
            rotate_left
            · intro u hSu
              (go_simp) <;> (with_reducible rfl)
            change wpAnyH _ _ _ _ _ _ _ (Act.put _ (some 41) _) _
            simp only [Act.put, List.setIfInBounds_toArray, List.set_cons_zero, List.set_cons_succ]
            refine wpAnyH_take (i := 2) (v := ?_) rfl (by kernel_rfl) (by kernel_rfl) (by kernel_rfl) (fun _ _ _ h => h) (Or.inl ⟨by rfl, ?_⟩) hHeld ?_
            rotate_left
            · intro u hSu
              (go_simp) <;> (with_reducible rfl)
            change wpAnyH _ _ _ _ _ _ _ (Act.put _ (some 42) _) _
            simp only [Act.put, List.setIfInBounds_toArray, List.set_cons_zero, List.set_cons_succ]
            refine wpAnyH_take (i := 3) (v := ?_) rfl (by kernel_rfl) (by kernel_rfl) (by kernel_rfl) (fun _ _ _ h => h) (Or.inl ⟨by rfl, ?_⟩) hHeld ?_
            rotate_left
            · intro u hSu
              (go_simp) <;> (with_reducible rfl)
            change wpAnyH _ _ _ _ _ _ _ (Act.put _ (some 43) _) _
            simp only [Act.put, List.setIfInBounds_toArray, List.set_cons_zero, List.set_cons_succ]
            refine wpAnyH_take (i := 4) (v := ?_) rfl (by kernel_rfl) (by kernel_rfl) (by kernel_rfl) (fun _ _ _ h => h) (Or.inl ⟨by rfl, ?_⟩) hHeld ?_
            rotate_left
            · intro u hSu
              (go_simp) <;> (with_reducible rfl)
            change wpAnyH _ _ _ _ _ _ _ (Act.put _ (some 44) _) _
            simp only [Act.put, List.setIfInBounds_toArray, List.set_cons_zero, List.set_cons_succ]
            refine wpAnyH_take (i := 5) (v := kv k) rfl (by kernel_rfl) (by kernel_rfl) (by kernel_rfl) (fun _ _ _ h => h) (yieldsIf_load_mid (by rfl) _ _ rfl _ _ rfl (k.map (Value.int .u8)) _ (fun u hu => (K8.out u hu).range KK.out) Tryz.underlying24 rfl (info_keyl k KK.out)) hHeld ?_
            change wpAnyH _ _ _ _ _ _ _ (Act.put _ (some 45) _) _
            simp only [Act.put, List.setIfInBounds_toArray, List.set_cons_zero, List.set_cons_succ]
            refine wpAnyH_take (i := 6) (v := kv a) rfl (by kernel_rfl) (by kernel_rfl) (by kernel_rfl) (fun _ _ _ h => h) (yieldsIf_load_mid (by rfl) _ _ rfl _ _ rfl (a.map (Value.int .u8)) _ (fun u hu => (A8.out u hu).range KA.out) Tryz.underlying24 rfl (info_keyl a KA.out)) hHeld ?_
            change wpAnyH _ _ _ _ _ _ _ (Act.put _ (some 46) _) _
            simp only [Act.put, List.setIfInBounds_toArray, List.set_cons_zero, List.set_cons_succ]
            refine wpAnyH_take (i := 7) (v := kv b) rfl (by kernel_rfl) (by kernel_rfl) (by kernel_rfl) (fun _ _ _ h => h) (yieldsIf_load_mid (by rfl) _ _ rfl _ _ rfl (b.map (Value.int .u8)) _ (fun u hu => (E8.out u hu).range KB.out) Tryz.underlying24 rfl (info_keyl b KB.out)) hHeld ?_
            change wpAnyH _ _ _ _ _ _ _ (Act.put _ (some 47) _) _
            simp only [Act.put, List.setIfInBounds_toArray, List.set_cons_zero, List.set_cons_succ]
            refine wpAnyH_ready (rs := [8]) (by kernel_rfl) (by simp) ?_
            refine AllReadyH.cons rfl (fun K hK => ?_) AllReadyH.nil
            go_simp
            go_at_call 44
            refine (CW.out _).mono ?_
            rintro e v9 ⟨rfl, hbv9⟩
            have B9 : Hid (Below v8.heap.size v8 v9) := hHeld.trans (hbv9.mono hHeld.size)
            clear hbv9
            refine hK.out _ _ ?_ (fun hHeld2 => ?_)
            · exact B9.out
            clear hK K hHeld
            have hHeld := hHeld2
            clear hHeld2
            refine wpAnyH_take (i := 9) (v := ?_) rfl (by kernel_rfl) (by kernel_rfl) (by kernel_rfl) (fun _ _ _ h => h) (Or.inl ⟨by rfl, ?_⟩) hHeld ?_
            rotate_left
            · intro u hSu
              (go_simp) <;> (with_reducible rfl)
            change wpAnyH _ _ _ _ _ _ _ (Act.put _ (some 49) _) _
            simp only [Act.put, List.setIfInBounds_toArray, List.set_cons_zero, List.set_cons_succ]
            refine wpAnyH_done (by kernel_rfl) ?_ _
            refine NoPanic.normal ?_
            have HS9 : Hid (ScR w w1 v9 a b t n (.slice la m lc) (scanN L a b t n i)) := (HS.out.past B8.out).past B9.out
            go_wp2_with (first | ((with_reducible show wpList _ _ _ (Oper.mk (some 54) _ _ _ _ _ :: _) _ _); refine wpList_load_keyD 54 (by rfl) (by rfl) _ (by rfl) kb (ko + i * 16) (by rfl) k KK.out (K8.out _ B9.out) ?_) | ((with_reducible show wpList _ _ _ (Oper.mk (some 56) _ _ _ _ _ :: _) _ _); refine wpList_build_itm 56 (by rfl) (by rfl) (.tmp 54) (.tmp 55) (by rfl) k v KK.out (by rfl) (by rfl) ?_) | ((with_reducible show wpList _ _ _ (Oper.mk (some 57) _ _ _ _ _ :: _) _ _); refine wpList_build_itms 57 (by rfl) (by rfl) (.tmp 56) (by rfl) (k, v) KK.out (by rfl) ?_) | (at_builtin; refine wpList_own itmEl (w0 := w1) rfl (.tmp 50) (.tmp 57) rfl _ m ((scanN L a b t n i).flatMap encI) (encI (k, v)) rfl (by rw [HM.out] at HS9 ⊢; exact HS9.out.own.alloc _) _ _ _ rfl (by rw [encI_len KK.out]) (lies_made _ _ _) (encI_one (k, v)) (fun h => by cases h) (m + 1) rfl (by omega) _ HFL.out ?_; intro a6 c6 w6 h6 hg6; have O6 : Hid (OwnB 86 17 w1 w6 (.slice a6 (m + 1) c6) (m + 1) ((scanN L a b t n (i + 1)).flatMap encI)) := h6; clear h6 hg6))
            have HM2 : Hid (m + 1 = (scanN L a b t n (i + 1)).length) := by show _ = _; rw [HX.out, List.length_append, ← HM.out]; rfl
            have h201 := HLEN.out (i + 1)
            rw [← HM2.out] at h201
            go_roundw
            case rel => exact ⟨i + 1, m + 1, a6, c6, by omega, by go_num, rfl, h201, HM2, by show ((m + 1 : Nat) : Int) ≤ max most 0; omega, ⟨HB1.out, by rw [← HM2.out]; exact O6.out⟩⟩
            case measure => simp [intOf]; omega
    · obtain rfl : i = N := by omega
      have HX : Hid (scanN L a b t n i = R) := HALL.out (by rw [← HM.out]; exact HMX.out)
      go_wp2
      go_ret
      exact HEND.out _ _ _ _ HS.out HX.out
end Go.Proofs.YtfaojmognbgnfaaGreat

namespace Go.Proofs.YtfaojmognbgnfaaGreat
open Go.RowKit
set_option linter.unusedVariables false

/-- May a write be, by itself? -/
def fitW (W : Wrt) : Bool := goodK W.k && decide (W.v.length ≤ 200) && (!W.g || decide (W.v = []))
theorem may_fit {l : List Wrt} {least : Nat} : mayW l least = true ↔ (least ≤ l.length ∧ l.length ≤ 16) ∧ (∀ W ∈ l, fitW W = true) ∧ l.Pairwise (fun A B => A.k ≠ B.k) := by
  unfold mayW
  simp only [Bool.and_eq_true, decide_eq_true_eq, List.all_eq_true, and_assoc]
  unfold fitW
  simp only [Bool.and_eq_true, decide_eq_true_eq, and_assoc]
theorem may_not {l : List Wrt} {least : Nat} (h : ¬ ((least ≤ l.length ∧ l.length ≤ 16) ∧ (∀ W ∈ l, fitW W = true) ∧ l.Pairwise (fun A B => A.k ≠ B.k))) : mayW l least = false := by
  cases e : mayW l least with
  | false => rfl
  | true => exact absurd (may_fit.1 e) h
/-- What MayWrites' rounds hold of the first writes. -/
def Fits (l : List Wrt) (i : Nat) : Prop := (∀ W ∈ l.take i, fitW W = true) ∧ (l.take i).Pairwise (fun A B => A.k ≠ B.k)
theorem Fits.next {l : List Wrt} {i : Nat} {W : Wrt} (h : Fits l i) (hW : l[i]? = some W) (hf : fitW W = true) (hne : ∀ j A, j < i → l[j]? = some A → A.k ≠ W.k) : Fits l (i + 1) := by
  have e : l.take (i + 1) = l.take i ++ [W] := by rw [List.take_add_one, hW]; rfl
  unfold Fits
  rw [e]
  refine ⟨fun V hV => ?_, List.pairwise_append.2 ⟨h.2, by simp, fun A hA B hB => ?_⟩⟩
  · rcases List.mem_append.1 hV with x | x
    · exact h.1 V x
    · simp at x; rw [x]; exact hf
  · simp at hB
    subst hB
    obtain ⟨j, hj, rfl⟩ := List.mem_iff_getElem.1 hA
    rw [List.length_take] at hj
    rw [List.getElem_take]
    exact hne j _ (by omega) (List.getElem?_eq_getElem (by omega))
theorem twice_not {l : List Wrt} {i j : Nat} {A W : Wrt} (hj : j < i) (hA : l[j]? = some A) (hW : l[i]? = some W) (he : A.k = W.k) : ¬ l.Pairwise (fun A B => A.k ≠ B.k) := fun h => by
  obtain ⟨h1, rfl⟩ := List.getElem?_eq_some_iff.1 hA
  obtain ⟨h2, rfl⟩ := List.getElem?_eq_some_iff.1 hW
  exact List.pairwise_iff_getElem.1 h j i h1 h2 hj he
set_option maxHeartbeats 8000000 in
set_option maxRecDepth 8000 in
theorem rmayw_any (a : Option Addr) (N cap : Nat) (l : List Wrt) (least : Nat) (w : World) (hl : l.length = N) (hc : N ≤ cap) (hN : N ≤ 1000000) (hle : least ≤ 1000000) (hat : WrtsAt w a l) :
    Calls Tryz.prog 33 #[.slice a N cap, .int .i64 (least : Nat)] w fun e w' => e = .returned (.bool (mayW l least)) ∧ Below w.heap.size w w' := by
  obtain ⟨R, hR⟩ : ∃ R, R = mayW l least := ⟨_, rfl⟩
  rw [← hR]
  have HNO : Hid (¬ ((least ≤ N ∧ N ≤ 16) ∧ (∀ W ∈ l, fitW W = true) ∧ l.Pairwise (fun A B => A.k ≠ B.k)) → R = false) := fun h => by rw [hR]; exact may_not (by rw [hl]; exact h)
  have HYES : Hid ((least ≤ N ∧ N ≤ 16) ∧ (∀ W ∈ l, fitW W = true) ∧ l.Pairwise (fun A B => A.k ≠ B.k) → R = true) := fun h => by rw [hR]; exact may_fit.2 (by rw [hl]; exact h)
  by_cases h0 : N < least
  · have HR : Hid (R = false) := HNO.out (fun h => by omega)
    have d1 : (N : Int) < (least : Int) := by omega
    clear hR hat hl HNO HYES
    go_enter Tryz.func33, Tryz.ntmps33
    go_wp2
    go_ret
    exact ⟨by rw [HR.out]; rfl, Below.refl _ _⟩
  have d1 : ¬ (N : Int) < (least : Int) := by omega
  by_cases h16 : 16 < N
  · have HR : Hid (R = false) := HNO.out (fun h => by omega)
    have d2 : (16 : Int) < (N : Int) := by omega
    clear hR hat hl HNO HYES
    go_enter Tryz.func33, Tryz.ntmps33
    go_wp2
    go_ret
    exact ⟨by rw [HR.out]; rfl, Below.refl _ _⟩
  have d2 : ¬ (16 : Int) < (N : Int) := by omega
  have HL : Hid (l.length = N) := hl
  have HA : Hid (WrtsAt w a l) := hat
  clear hR hat hl
  go_enter Tryz.func33, Tryz.ntmps33
  go_wp2
  go_loopw [5] (fun iv wr => ∃ i : Nat, iv = .int .i64 i ∧ i ≤ N ∧ Hid (Below w.heap.size w wr) ∧ Hid (Fits l i)) (fun iv _ => N - (intOf iv).toNat)
  case atStart => exact ⟨0, rfl, Nat.zero_le _, Below.refl _ _, ⟨fun W hW => by simp at hW, by simp⟩⟩
  case round =>
    obtain ⟨i, rfl, hi, HB, HF⟩ := hrel
    have hi0 : (0 : Int) ≤ (i : Int) := by omega
    by_cases hlt : i < N
    · have h1 : (i : Int) < (N : Int) := by omega
      obtain ⟨W, hW⟩ : ∃ W, l[i]? = some W := ⟨_, List.getElem?_eq_getElem (by rw [HL.out]; exact hlt)⟩
      obtain ⟨b, o, hab, hwa, hwo⟩ := HA.out.wrt hW
      have HEL : Hid (∀ j A, l[j]? = some A → Ky A.k ∧ ∀ u, Below w.heap.size w u → KeyAt u b (o + j * 18) A.k) := fun j A hA => by
        obtain ⟨b', o', e', hx, hok⟩ := HA.out.wrt hA
        rw [hab] at e'
        cases e'
        exact ⟨hok.key, fun u hb => (hx.past hb).key hok.key⟩
      have HWI : Hid (l[i]? = some W) := hW
      obtain ⟨k, hk⟩ : ∃ k, k = W.k := ⟨_, rfl⟩
      obtain ⟨g, hg⟩ : ∃ g, g = W.g := ⟨_, rfl⟩
      obtain ⟨v, hv⟩ : ∃ v, v = W.v := ⟨_, rfl⟩
      obtain ⟨S, hS⟩ : ∃ S, S = strOfNums v := ⟨_, rfl⟩
      obtain ⟨m, hm⟩ : ∃ m, m = v.length := ⟨_, rfl⟩
      have KY : Hid (Ky k) := by rw [hk]; exact hwo.key
      have FK : Hid (∀ u, Below w.heap.size w u → KeyAt u b (o + i * 18) k) := fun u hb => by rw [hk]; exact (hwa.past hb).key hwo.key
      have FC : Hid (∀ u, Below w.heap.size w u → u.cell? ⟨b, o + i * 18 + 16, none⟩ = some (.string S) ∧ u.cell? ⟨b, o + i * 18 + 17, none⟩ = some (.bool g)) := fun u hb => by rw [hS, hv, hg]; exact (hwa.past hb).cells hwo.key
      have hsz : S.size = m := by rw [hS, hm]; exact strOfNums_size _
      have hfew : m ≤ 9223372036854775807 := by
        have := hwo.few
        unfold maxLen at this
        rw [hm, hv]
        exact Nat.le_trans this (by omega)
      have hemp : S.toList.isEmpty = decide (v = []) := by
        rw [hS, ByteArray.toList_eq, strOfNums_data]
        cases v with
        | nil => rfl
        | cons z r => simp
      obtain ⟨gk, hgk⟩ : ∃ x, x = goodK k := ⟨_, rfl⟩
      have CG : Hid (∀ u, Calls Tryz.prog 56 #[kv k] u fun e w' => e = .returned (.bool gk) ∧ Below u.heap.size u w') := fun u => by rw [hgk]; exact rgood_any k KY.out u
      have HOK : Hid (fitW W = (gk && decide (m ≤ 200) && (!g || decide (v = [])))) := by show _ = _; unfold fitW; rw [hgk, hm, hk, hg, hv]
      have HNF : Hid (fitW W = false → R = false) := fun hf => HNO.out (fun h => by
        have := h.2.1 W (List.mem_of_getElem? HWI.out)
        rw [hf] at this; cases this)
      have HKW : Hid (k = W.k) := hk
      subst hab
      clear hwa hwo hW hk hg hv hS hm hgk
      cases gk with
      | false =>
        have HR : Hid (R = false) := HNF.out (by rw [HOK.out]; rfl)
        clear HOK HNF
        go_wp2_with (first | (refine wpList_load_keyD 26 (by rfl) (by rfl) _ (by rfl) b (o + i * 18) (by rfl) k KY.out (FK.out _ HB.out) ?_) | (go_at_call 56; refine (CG.out _).mono ?_; rintro e w1 ⟨rfl, hb1⟩; have B1 : Hid (Below w.heap.size w w1) := HB.out.trans (hb1.mono HB.out.size); clear hb1))
        go_ret
        exact ⟨by rw [HR.out]; rfl, B1.out⟩
      | true =>
        by_cases hm2 : 200 < m
        · have d3 : (200 : Int) < (m : Int) := by omega
          have HR : Hid (R = false) := HNF.out (by rw [HOK.out, decide_eq_false (by omega)]; rfl)
          clear HOK HNF
          go_wp2_with (first | (refine wpList_load_keyD 26 (by rfl) (by rfl) _ (by rfl) b (o + i * 18) (by rfl) k KY.out (FK.out _ HB.out) ?_) | (go_at_call 56; refine (CG.out _).mono ?_; rintro e w1 ⟨rfl, hb1⟩; have B1 : Hid (Below w.heap.size w w1) := HB.out.trans (hb1.mono HB.out.size); obtain ⟨y0, y1⟩ := FC.out _ B1.out; clear hb1))
          go_ret
          exact ⟨by rw [HR.out]; rfl, B1.out⟩
        · have d3 : ¬ (200 : Int) < (m : Int) := by omega
          have HOK2 : Hid (fitW W = (!g || decide (v = []))) := by show _ = _; rw [HOK.out, decide_eq_true (by omega)]; simp
          clear HOK
          by_cases hbad : g = true ∧ v ≠ []
          · obtain ⟨rfl, hv0⟩ := hbad
            have HR : Hid (R = false) := HNF.out (by rw [HOK2.out, decide_eq_false hv0]; rfl)
            rw [decide_eq_false hv0] at hemp
            clear HOK2 HNF hv0
            go_wp2_with (first | (refine wpList_load_keyD 26 (by rfl) (by rfl) _ (by rfl) b (o + i * 18) (by rfl) k KY.out (FK.out _ HB.out) ?_) | (go_at_call 56; refine (CG.out _).mono ?_; rintro e w1 ⟨rfl, hb1⟩; have B1 : Hid (Below w.heap.size w w1) := HB.out.trans (hb1.mono HB.out.size); obtain ⟨y0, y1⟩ := FC.out _ B1.out; clear hb1))
            go_ret
            exact ⟨by rw [HR.out]; rfl, B1.out⟩
          · have HFT : Hid (fitW W = true) := by
              show _ = _
              rw [HOK2.out]
              cases g with
              | false => rfl
              | true =>
                have : v = [] := Classical.byContradiction fun e => hbad ⟨rfl, e⟩
                rw [this]; rfl
            have hemp2 : g = true → S.toList.isEmpty = true := fun hg => by
              have : v = [] := Classical.byContradiction fun e => hbad ⟨hg, e⟩
              rw [hemp, this]; rfl
            clear hemp hbad HOK2 HNF
            cases g with
            | true =>
              have hemp := hemp2 rfl
              clear hemp2
              go_wp2_with (first | (refine wpList_load_keyD 26 (by rfl) (by rfl) _ (by rfl) b (o + i * 18) (by rfl) k KY.out (FK.out _ HB.out) ?_) | (go_at_call 56; refine (CG.out _).mono ?_; rintro e w1 ⟨rfl, hb1⟩; have B1 : Hid (Below w.heap.size w w1) := HB.out.trans (hb1.mono HB.out.size); obtain ⟨y0, y1⟩ := FC.out _ B1.out; clear hb1))
              clear y0 y1 CG FC
              go_loopw [6] (fun jv wr => ∃ j : Nat, jv = .int .i64 j ∧ j ≤ i ∧ Hid (Below w.heap.size w wr) ∧ Hid (∀ x A, x < j → l[x]? = some A → A.k ≠ k)) (fun jv _ => i - (intOf jv).toNat)
              case atStart => exact ⟨0, rfl, Nat.zero_le _, B1, fun x A hx => absurd hx (Nat.not_lt_zero _)⟩
              case round =>
                obtain ⟨j, rfl, hj, HB2, HJ⟩ := hrel
                have hj0 : (0 : Int) ≤ (j : Int) := by omega
                by_cases hji : j < i
                · have h2 : (j : Int) < (i : Int) := by omega
                  have h3 : (j : Int) < (N : Int) := by omega
                  obtain ⟨A, hA⟩ : ∃ A, l[j]? = some A := ⟨_, List.getElem?_eq_getElem (by rw [HL.out]; omega)⟩
                  have HAJ : Hid (l[j]? = some A) := hA
                  obtain ⟨hkA, hatA⟩ := HEL.out j A hA
                  obtain ⟨k2, hk2⟩ : ∃ k2, k2 = A.k := ⟨_, rfl⟩
                  have KY2 : Hid (Ky k2) := by rw [hk2]; exact hkA
                  have F2 : Hid (∀ u, Below wr.heap.size wr u → KeyAt u b (o + j * 18) k2) := fun u hb => by rw [hk2]; exact hatA u (HB2.out.trans (hb.mono HB2.out.size))
                  have F1 : Hid (∀ u, Below wr.heap.size wr u → KeyAt u b (o + i * 18) k) := fun u hb => FK.out u (HB2.out.trans (hb.mono HB2.out.size))
                  have HK2 : Hid (k2 = A.k) := hk2
                  clear hA hkA hatA hk2
                  by_cases hq : k2 = k
                  · have he : ∀ u, (Op.equalIn 10000 24 (kv k2) (kv k)).run Tryz.prog u = .ok true u := fun u => by rw [eq_key u k2 k KY2.out KY.out, decide_eq_true hq]
                    have HR : Hid (R = false) := HNO.out (fun h => twice_not hji HAJ.out HWI.out (by rw [← HK2.out, ← HKW.out]; exact hq) h.2.2)
                    clear hq
                    go_wp2
                    refine wp_region_noPanic ?_
                    refine wp_region_held_drew (S := fun u => Below wr.heap.size wr u) (by kernel_rfl) ?_ (fun hHeld => ?_)
                    · exact (Below.refl _ _).drew
                    refine wpAnyH_take (i := 0) (v := ?_) rfl (by kernel_rfl) (by kernel_rfl) (by kernel_rfl) (fun _ _ _ h => h) (Or.inl ⟨by rfl, ?_⟩) hHeld ?_
                    rotate_left
                    · intro u hSu
                      (go_simp) <;> (with_reducible rfl)
                    change wpAnyH _ _ _ _ _ _ _ (Act.put _ (some 58) _) _
                    simp only [Act.put, List.setIfInBounds_toArray, List.set_cons_zero, List.set_cons_succ]
                    refine wpAnyH_take (i := 1) (v := ?_) rfl (by kernel_rfl) (by kernel_rfl) (by kernel_rfl) (fun _ _ _ h => h) (Or.inl ⟨by rfl, ?_⟩) hHeld ?_
                    rotate_left
                    · intro u hSu
                      (go_simp) <;> (with_reducible rfl)
                    change wpAnyH _ _ _ _ _ _ _ (Act.put _ (some 59) _) _
                    simp only [Act.put, List.setIfInBounds_toArray, List.set_cons_zero, List.set_cons_succ]
                    refine wpAnyH_take (i := 2) (v := ?_) rfl (by kernel_rfl) (by kernel_rfl) (by kernel_rfl) (fun _ _ _ h => h) (Or.inl ⟨by rfl, ?_⟩) hHeld ?_
                    rotate_left
                    · intro u hSu
                      (go_simp) <;> (with_reducible rfl)
                    change wpAnyH _ _ _ _ _ _ _ (Act.put _ (some 60) _) _
                    simp only [Act.put, List.setIfInBounds_toArray, List.set_cons_zero, List.set_cons_succ]
                    refine wpAnyH_take (i := 3) (v := ?_) rfl (by kernel_rfl) (by kernel_rfl) (by kernel_rfl) (fun _ _ _ h => h) (Or.inl ⟨by rfl, ?_⟩) hHeld ?_
                    rotate_left
                    · intro u hSu
                      (go_simp) <;> (with_reducible rfl)
                    change wpAnyH _ _ _ _ _ _ _ (Act.put _ (some 61) _) _
                    simp only [Act.put, List.setIfInBounds_toArray, List.set_cons_zero, List.set_cons_succ]
                    refine wpAnyH_take (i := 4) (v := kv k2) rfl (by kernel_rfl) (by kernel_rfl) (by kernel_rfl) (fun _ _ _ h => h) (yieldsIf_load_mid (by rfl) _ _ rfl _ _ rfl (k2.map (Value.int .u8)) _ (fun u hu => (F2.out u hu).range KY2.out) Tryz.underlying24 rfl (info_keyl k2 KY2.out)) hHeld ?_
                    change wpAnyH _ _ _ _ _ _ _ (Act.put _ (some 62) _) _
                    simp only [Act.put, List.setIfInBounds_toArray, List.set_cons_zero, List.set_cons_succ]
                    refine wpAnyH_take (i := 5) (v := ?_) rfl (by kernel_rfl) (by kernel_rfl) (by kernel_rfl) (fun _ _ _ h => h) (Or.inl ⟨by rfl, ?_⟩) hHeld ?_
                    rotate_left
                    · intro u hSu
                      (go_simp) <;> (with_reducible rfl)
                    change wpAnyH _ _ _ _ _ _ _ (Act.put _ (some 63) _) _
                    simp only [Act.put, List.setIfInBounds_toArray, List.set_cons_zero, List.set_cons_succ]
                    refine wpAnyH_take (i := 6) (v := ?_) rfl (by kernel_rfl) (by kernel_rfl) (by kernel_rfl) (fun _ _ _ h => h) (Or.inl ⟨by rfl, ?_⟩) hHeld ?_
                    rotate_left
                    · intro u hSu
                      (go_simp) <;> (with_reducible rfl)
                    change wpAnyH _ _ _ _ _ _ _ (Act.put _ (some 64) _) _
                    simp only [Act.put, List.setIfInBounds_toArray, List.set_cons_zero, List.set_cons_succ]
                    refine wpAnyH_take (i := 7) (v := ?_) rfl (by kernel_rfl) (by kernel_rfl) (by kernel_rfl) (fun _ _ _ h => h) (Or.inl ⟨by rfl, ?_⟩) hHeld ?_
                    rotate_left
                    · intro u hSu
                      (go_simp) <;> (with_reducible rfl)
                    change wpAnyH _ _ _ _ _ _ _ (Act.put _ (some 65) _) _
                    simp only [Act.put, List.setIfInBounds_toArray, List.set_cons_zero, List.set_cons_succ]
                    refine wpAnyH_take (i := 8) (v := ?_) rfl (by kernel_rfl) (by kernel_rfl) (by kernel_rfl) (fun _ _ _ h => h) (Or.inl ⟨by rfl, ?_⟩) hHeld ?_
                    rotate_left
                    · intro u hSu
                      (go_simp) <;> (with_reducible rfl)
                    change wpAnyH _ _ _ _ _ _ _ (Act.put _ (some 66) _) _
                    simp only [Act.put, List.setIfInBounds_toArray, List.set_cons_zero, List.set_cons_succ]
                    refine wpAnyH_take (i := 9) (v := kv k) rfl (by kernel_rfl) (by kernel_rfl) (by kernel_rfl) (fun _ _ _ h => h) (yieldsIf_load_mid (by rfl) _ _ rfl _ _ rfl (k.map (Value.int .u8)) _ (fun u hu => (F1.out u hu).range KY.out) Tryz.underlying24 rfl (info_keyl k KY.out)) hHeld ?_
                    change wpAnyH _ _ _ _ _ _ _ (Act.put _ (some 67) _) _
                    simp only [Act.put, List.setIfInBounds_toArray, List.set_cons_zero, List.set_cons_succ]
                    refine wpAnyH_take (i := 10) (v := ?_) rfl (by kernel_rfl) (by kernel_rfl) (by kernel_rfl) (fun _ _ _ h => h) (Or.inl ⟨by rfl, ?_⟩) hHeld ?_
                    rotate_left
                    · intro u hSu
                      (go_simp) <;> (with_reducible rfl)
                    change wpAnyH _ _ _ _ _ _ _ (Act.put _ (some 68) _) _
                    simp only [Act.put, List.setIfInBounds_toArray, List.set_cons_zero, List.set_cons_succ]
                    refine wpAnyH_done (by kernel_rfl) ?_ _
                    refine NoPanic.normal ?_
                    go_wp2
                    go_ret
                    exact ⟨by rw [HR.out]; rfl, HB2.out.drew⟩
                  · have he : ∀ u, (Op.equalIn 10000 24 (kv k2) (kv k)).run Tryz.prog u = .ok false u := fun u => by rw [eq_key u k2 k KY2.out KY.out, decide_eq_false hq]
                    have HJ2 : Hid (∀ x A, x < j + 1 → l[x]? = some A → A.k ≠ k) := fun x A' hx hA' => by
                      by_cases e : x < j
                      · exact HJ.out x A' e hA'
                      · obtain rfl : x = j := by omega
                        rw [HAJ.out] at hA'
                        obtain rfl := Option.some.inj hA'
                        rw [← HK2.out]; exact hq
                    clear hq
                    go_wp2
                    refine wp_region_noPanic ?_
                    refine wp_region_held_drew (S := fun u => Below wr.heap.size wr u) (by kernel_rfl) ?_ (fun hHeld => ?_)
                    · exact (Below.refl _ _).drew
                    refine wpAnyH_take (i := 0) (v := ?_) rfl (by kernel_rfl) (by kernel_rfl) (by kernel_rfl) (fun _ _ _ h => h) (Or.inl ⟨by rfl, ?_⟩) hHeld ?_
                    rotate_left
                    · intro u hSu
                      (go_simp) <;> (with_reducible rfl)
                    change wpAnyH _ _ _ _ _ _ _ (Act.put _ (some 58) _) _
                    simp only [Act.put, List.setIfInBounds_toArray, List.set_cons_zero, List.set_cons_succ]
                    refine wpAnyH_take (i := 1) (v := ?_) rfl (by kernel_rfl) (by kernel_rfl) (by kernel_rfl) (fun _ _ _ h => h) (Or.inl ⟨by rfl, ?_⟩) hHeld ?_
                    rotate_left
                    · intro u hSu
                      (go_simp) <;> (with_reducible rfl)
                    change wpAnyH _ _ _ _ _ _ _ (Act.put _ (some 59) _) _
                    simp only [Act.put, List.setIfInBounds_toArray, List.set_cons_zero, List.set_cons_succ]
                    refine wpAnyH_take (i := 2) (v := ?_) rfl (by kernel_rfl) (by kernel_rfl) (by kernel_rfl) (fun _ _ _ h => h) (Or.inl ⟨by rfl, ?_⟩) hHeld ?_
                    rotate_left
                    · intro u hSu
                      (go_simp) <;> (with_reducible rfl)
                    change wpAnyH _ _ _ _ _ _ _ (Act.put _ (some 60) _) _
                    simp only [Act.put, List.setIfInBounds_toArray, List.set_cons_zero, List.set_cons_succ]
                    refine wpAnyH_take (i := 3) (v := ?_) rfl (by kernel_rfl) (by kernel_rfl) (by kernel_rfl) (fun _ _ _ h => h) (Or.inl ⟨by rfl, ?_⟩) hHeld ?_
                    rotate_left
                    · intro u hSu
                      (go_simp) <;> (with_reducible rfl)
                    change wpAnyH _ _ _ _ _ _ _ (Act.put _ (some 61) _) _
                    simp only [Act.put, List.setIfInBounds_toArray, List.set_cons_zero, List.set_cons_succ]
                    refine wpAnyH_take (i := 4) (v := kv k2) rfl (by kernel_rfl) (by kernel_rfl) (by kernel_rfl) (fun _ _ _ h => h) (yieldsIf_load_mid (by rfl) _ _ rfl _ _ rfl (k2.map (Value.int .u8)) _ (fun u hu => (F2.out u hu).range KY2.out) Tryz.underlying24 rfl (info_keyl k2 KY2.out)) hHeld ?_
                    change wpAnyH _ _ _ _ _ _ _ (Act.put _ (some 62) _) _
                    simp only [Act.put, List.setIfInBounds_toArray, List.set_cons_zero, List.set_cons_succ]
                    refine wpAnyH_take (i := 5) (v := ?_) rfl (by kernel_rfl) (by kernel_rfl) (by kernel_rfl) (fun _ _ _ h => h) (Or.inl ⟨by rfl, ?_⟩) hHeld ?_
                    rotate_left
                    · intro u hSu
                      (go_simp) <;> (with_reducible rfl)
                    change wpAnyH _ _ _ _ _ _ _ (Act.put _ (some 63) _) _
                    simp only [Act.put, List.setIfInBounds_toArray, List.set_cons_zero, List.set_cons_succ]
                    refine wpAnyH_take (i := 6) (v := ?_) rfl (by kernel_rfl) (by kernel_rfl) (by kernel_rfl) (fun _ _ _ h => h) (Or.inl ⟨by rfl, ?_⟩) hHeld ?_
                    rotate_left
                    · intro u hSu
                      (go_simp) <;> (with_reducible rfl)
                    change wpAnyH _ _ _ _ _ _ _ (Act.put _ (some 64) _) _
                    simp only [Act.put, List.setIfInBounds_toArray, List.set_cons_zero, List.set_cons_succ]
                    refine wpAnyH_take (i := 7) (v := ?_) rfl (by kernel_rfl) (by kernel_rfl) (by kernel_rfl) (fun _ _ _ h => h) (Or.inl ⟨by rfl, ?_⟩) hHeld ?_
                    rotate_left
                    · intro u hSu
                      (go_simp) <;> (with_reducible rfl)
                    change wpAnyH _ _ _ _ _ _ _ (Act.put _ (some 65) _) _
                    simp only [Act.put, List.setIfInBounds_toArray, List.set_cons_zero, List.set_cons_succ]
                    refine wpAnyH_take (i := 8) (v := ?_) rfl (by kernel_rfl) (by kernel_rfl) (by kernel_rfl) (fun _ _ _ h => h) (Or.inl ⟨by rfl, ?_⟩) hHeld ?_
                    rotate_left
                    · intro u hSu
                      (go_simp) <;> (with_reducible rfl)
                    change wpAnyH _ _ _ _ _ _ _ (Act.put _ (some 66) _) _
                    simp only [Act.put, List.setIfInBounds_toArray, List.set_cons_zero, List.set_cons_succ]
                    refine wpAnyH_take (i := 9) (v := kv k) rfl (by kernel_rfl) (by kernel_rfl) (by kernel_rfl) (fun _ _ _ h => h) (yieldsIf_load_mid (by rfl) _ _ rfl _ _ rfl (k.map (Value.int .u8)) _ (fun u hu => (F1.out u hu).range KY.out) Tryz.underlying24 rfl (info_keyl k KY.out)) hHeld ?_
                    change wpAnyH _ _ _ _ _ _ _ (Act.put _ (some 67) _) _
                    simp only [Act.put, List.setIfInBounds_toArray, List.set_cons_zero, List.set_cons_succ]
                    refine wpAnyH_take (i := 10) (v := ?_) rfl (by kernel_rfl) (by kernel_rfl) (by kernel_rfl) (fun _ _ _ h => h) (Or.inl ⟨by rfl, ?_⟩) hHeld ?_
                    rotate_left
                    · intro u hSu
                      (go_simp) <;> (with_reducible rfl)
                    change wpAnyH _ _ _ _ _ _ _ (Act.put _ (some 68) _) _
                    simp only [Act.put, List.setIfInBounds_toArray, List.set_cons_zero, List.set_cons_succ]
                    refine wpAnyH_done (by kernel_rfl) ?_ _
                    refine NoPanic.normal ?_
                    go_wp2
                    go_roundw
                    case rel => exact ⟨j + 1, by go_num, by omega, HB2.out.drew, HJ2⟩
                    case measure => simp [intOf]; omega
                · obtain rfl : j = i := by omega
                  have HF2 : Hid (Fits l (j + 1)) := HF.out.next HWI.out HFT.out (fun x A hx hA => by rw [← HKW.out]; exact HJ.out x A hx hA)
                  go_wp2
                  go_roundw
                  case rel => exact ⟨j + 1, by go_num, by omega, HB2, HF2⟩
                  case measure => simp [intOf]; omega
            | false =>
              clear hemp2
              go_wp2_with (first | (refine wpList_load_keyD 26 (by rfl) (by rfl) _ (by rfl) b (o + i * 18) (by rfl) k KY.out (FK.out _ HB.out) ?_) | (go_at_call 56; refine (CG.out _).mono ?_; rintro e w1 ⟨rfl, hb1⟩; have B1 : Hid (Below w.heap.size w w1) := HB.out.trans (hb1.mono HB.out.size); obtain ⟨y0, y1⟩ := FC.out _ B1.out; clear hb1))
              clear y0 y1 CG FC
              go_loopw [6] (fun jv wr => ∃ j : Nat, jv = .int .i64 j ∧ j ≤ i ∧ Hid (Below w.heap.size w wr) ∧ Hid (∀ x A, x < j → l[x]? = some A → A.k ≠ k)) (fun jv _ => i - (intOf jv).toNat)
              case atStart => exact ⟨0, rfl, Nat.zero_le _, B1, fun x A hx => absurd hx (Nat.not_lt_zero _)⟩
              case round =>
                obtain ⟨j, rfl, hj, HB2, HJ⟩ := hrel
                have hj0 : (0 : Int) ≤ (j : Int) := by omega
                by_cases hji : j < i
                · have h2 : (j : Int) < (i : Int) := by omega
                  have h3 : (j : Int) < (N : Int) := by omega
                  obtain ⟨A, hA⟩ : ∃ A, l[j]? = some A := ⟨_, List.getElem?_eq_getElem (by rw [HL.out]; omega)⟩
                  have HAJ : Hid (l[j]? = some A) := hA
                  obtain ⟨hkA, hatA⟩ := HEL.out j A hA
                  obtain ⟨k2, hk2⟩ : ∃ k2, k2 = A.k := ⟨_, rfl⟩
                  have KY2 : Hid (Ky k2) := by rw [hk2]; exact hkA
                  have F2 : Hid (∀ u, Below wr.heap.size wr u → KeyAt u b (o + j * 18) k2) := fun u hb => by rw [hk2]; exact hatA u (HB2.out.trans (hb.mono HB2.out.size))
                  have F1 : Hid (∀ u, Below wr.heap.size wr u → KeyAt u b (o + i * 18) k) := fun u hb => FK.out u (HB2.out.trans (hb.mono HB2.out.size))
                  have HK2 : Hid (k2 = A.k) := hk2
                  clear hA hkA hatA hk2
                  by_cases hq : k2 = k
                  · have he : ∀ u, (Op.equalIn 10000 24 (kv k2) (kv k)).run Tryz.prog u = .ok true u := fun u => by rw [eq_key u k2 k KY2.out KY.out, decide_eq_true hq]
                    have HR : Hid (R = false) := HNO.out (fun h => twice_not hji HAJ.out HWI.out (by rw [← HK2.out, ← HKW.out]; exact hq) h.2.2)
                    clear hq
                    go_wp2
                    refine wp_region_noPanic ?_
                    refine wp_region_held_drew (S := fun u => Below wr.heap.size wr u) (by kernel_rfl) ?_ (fun hHeld => ?_)
                    · exact (Below.refl _ _).drew
                    refine wpAnyH_take (i := 0) (v := ?_) rfl (by kernel_rfl) (by kernel_rfl) (by kernel_rfl) (fun _ _ _ h => h) (Or.inl ⟨by rfl, ?_⟩) hHeld ?_
                    rotate_left
                    · intro u hSu
                      (go_simp) <;> (with_reducible rfl)
                    change wpAnyH _ _ _ _ _ _ _ (Act.put _ (some 58) _) _
                    simp only [Act.put, List.setIfInBounds_toArray, List.set_cons_zero, List.set_cons_succ]
                    refine wpAnyH_take (i := 1) (v := ?_) rfl (by kernel_rfl) (by kernel_rfl) (by kernel_rfl) (fun _ _ _ h => h) (Or.inl ⟨by rfl, ?_⟩) hHeld ?_
                    rotate_left
                    · intro u hSu
                      (go_simp) <;> (with_reducible rfl)
                    change wpAnyH _ _ _ _ _ _ _ (Act.put _ (some 59) _) _
                    simp only [Act.put, List.setIfInBounds_toArray, List.set_cons_zero, List.set_cons_succ]
                    refine wpAnyH_take (i := 2) (v := ?_) rfl (by kernel_rfl) (by kernel_rfl) (by kernel_rfl) (fun _ _ _ h => h) (Or.inl ⟨by rfl, ?_⟩) hHeld ?_
                    rotate_left
                    · intro u hSu
                      (go_simp) <;> (with_reducible rfl)
                    change wpAnyH _ _ _ _ _ _ _ (Act.put _ (some 60) _) _
                    simp only [Act.put, List.setIfInBounds_toArray, List.set_cons_zero, List.set_cons_succ]
                    refine wpAnyH_take (i := 3) (v := ?_) rfl (by kernel_rfl) (by kernel_rfl) (by kernel_rfl) (fun _ _ _ h => h) (Or.inl ⟨by rfl, ?_⟩) hHeld ?_
                    rotate_left
                    · intro u hSu
                      (go_simp) <;> (with_reducible rfl)
                    change wpAnyH _ _ _ _ _ _ _ (Act.put _ (some 61) _) _
                    simp only [Act.put, List.setIfInBounds_toArray, List.set_cons_zero, List.set_cons_succ]
                    refine wpAnyH_take (i := 4) (v := kv k2) rfl (by kernel_rfl) (by kernel_rfl) (by kernel_rfl) (fun _ _ _ h => h) (yieldsIf_load_mid (by rfl) _ _ rfl _ _ rfl (k2.map (Value.int .u8)) _ (fun u hu => (F2.out u hu).range KY2.out) Tryz.underlying24 rfl (info_keyl k2 KY2.out)) hHeld ?_
                    change wpAnyH _ _ _ _ _ _ _ (Act.put _ (some 62) _) _
                    simp only [Act.put, List.setIfInBounds_toArray, List.set_cons_zero, List.set_cons_succ]
                    refine wpAnyH_take (i := 5) (v := ?_) rfl (by kernel_rfl) (by kernel_rfl) (by kernel_rfl) (fun _ _ _ h => h) (Or.inl ⟨by rfl, ?_⟩) hHeld ?_
                    rotate_left
                    · intro u hSu
                      (go_simp) <;> (with_reducible rfl)
                    change wpAnyH _ _ _ _ _ _ _ (Act.put _ (some 63) _) _
                    simp only [Act.put, List.setIfInBounds_toArray, List.set_cons_zero, List.set_cons_succ]
                    refine wpAnyH_take (i := 6) (v := ?_) rfl (by kernel_rfl) (by kernel_rfl) (by kernel_rfl) (fun _ _ _ h => h) (Or.inl ⟨by rfl, ?_⟩) hHeld ?_
                    rotate_left
                    · intro u hSu
                      (go_simp) <;> (with_reducible rfl)
                    change wpAnyH _ _ _ _ _ _ _ (Act.put _ (some 64) _) _
                    simp only [Act.put, List.setIfInBounds_toArray, List.set_cons_zero, List.set_cons_succ]
                    refine wpAnyH_take (i := 7) (v := ?_) rfl (by kernel_rfl) (by kernel_rfl) (by kernel_rfl) (fun _ _ _ h => h) (Or.inl ⟨by rfl, ?_⟩) hHeld ?_
                    rotate_left
                    · intro u hSu
                      (go_simp) <;> (with_reducible rfl)
                    change wpAnyH _ _ _ _ _ _ _ (Act.put _ (some 65) _) _
                    simp only [Act.put, List.setIfInBounds_toArray, List.set_cons_zero, List.set_cons_succ]
                    refine wpAnyH_take (i := 8) (v := ?_) rfl (by kernel_rfl) (by kernel_rfl) (by kernel_rfl) (fun _ _ _ h => h) (Or.inl ⟨by rfl, ?_⟩) hHeld ?_
                    rotate_left
                    · intro u hSu
                      (go_simp) <;> (with_reducible rfl)
                    change wpAnyH _ _ _ _ _ _ _ (Act.put _ (some 66) _) _
                    simp only [Act.put, List.setIfInBounds_toArray, List.set_cons_zero, List.set_cons_succ]
                    refine wpAnyH_take (i := 9) (v := kv k) rfl (by kernel_rfl) (by kernel_rfl) (by kernel_rfl) (fun _ _ _ h => h) (yieldsIf_load_mid (by rfl) _ _ rfl _ _ rfl (k.map (Value.int .u8)) _ (fun u hu => (F1.out u hu).range KY.out) Tryz.underlying24 rfl (info_keyl k KY.out)) hHeld ?_
                    change wpAnyH _ _ _ _ _ _ _ (Act.put _ (some 67) _) _
                    simp only [Act.put, List.setIfInBounds_toArray, List.set_cons_zero, List.set_cons_succ]
                    refine wpAnyH_take (i := 10) (v := ?_) rfl (by kernel_rfl) (by kernel_rfl) (by kernel_rfl) (fun _ _ _ h => h) (Or.inl ⟨by rfl, ?_⟩) hHeld ?_
                    rotate_left
                    · intro u hSu
                      (go_simp) <;> (with_reducible rfl)
                    change wpAnyH _ _ _ _ _ _ _ (Act.put _ (some 68) _) _
                    simp only [Act.put, List.setIfInBounds_toArray, List.set_cons_zero, List.set_cons_succ]
                    refine wpAnyH_done (by kernel_rfl) ?_ _
                    refine NoPanic.normal ?_
                    go_wp2
                    go_ret
                    exact ⟨by rw [HR.out]; rfl, HB2.out.drew⟩
                  · have he : ∀ u, (Op.equalIn 10000 24 (kv k2) (kv k)).run Tryz.prog u = .ok false u := fun u => by rw [eq_key u k2 k KY2.out KY.out, decide_eq_false hq]
                    have HJ2 : Hid (∀ x A, x < j + 1 → l[x]? = some A → A.k ≠ k) := fun x A' hx hA' => by
                      by_cases e : x < j
                      · exact HJ.out x A' e hA'
                      · obtain rfl : x = j := by omega
                        rw [HAJ.out] at hA'
                        obtain rfl := Option.some.inj hA'
                        rw [← HK2.out]; exact hq
                    clear hq
                    go_wp2
                    refine wp_region_noPanic ?_
                    refine wp_region_held_drew (S := fun u => Below wr.heap.size wr u) (by kernel_rfl) ?_ (fun hHeld => ?_)
                    · exact (Below.refl _ _).drew
                    refine wpAnyH_take (i := 0) (v := ?_) rfl (by kernel_rfl) (by kernel_rfl) (by kernel_rfl) (fun _ _ _ h => h) (Or.inl ⟨by rfl, ?_⟩) hHeld ?_
                    rotate_left
                    · intro u hSu
                      (go_simp) <;> (with_reducible rfl)
                    change wpAnyH _ _ _ _ _ _ _ (Act.put _ (some 58) _) _
                    simp only [Act.put, List.setIfInBounds_toArray, List.set_cons_zero, List.set_cons_succ]
                    refine wpAnyH_take (i := 1) (v := ?_) rfl (by kernel_rfl) (by kernel_rfl) (by kernel_rfl) (fun _ _ _ h => h) (Or.inl ⟨by rfl, ?_⟩) hHeld ?_
                    rotate_left
                    · intro u hSu
                      (go_simp) <;> (with_reducible rfl)
                    change wpAnyH _ _ _ _ _ _ _ (Act.put _ (some 59) _) _
                    simp only [Act.put, List.setIfInBounds_toArray, List.set_cons_zero, List.set_cons_succ]
                    refine wpAnyH_take (i := 2) (v := ?_) rfl (by kernel_rfl) (by kernel_rfl) (by kernel_rfl) (fun _ _ _ h => h) (Or.inl ⟨by rfl, ?_⟩) hHeld ?_
                    rotate_left
                    · intro u hSu
                      (go_simp) <;> (with_reducible rfl)
                    change wpAnyH _ _ _ _ _ _ _ (Act.put _ (some 60) _) _
                    simp only [Act.put, List.setIfInBounds_toArray, List.set_cons_zero, List.set_cons_succ]
                    refine wpAnyH_take (i := 3) (v := ?_) rfl (by kernel_rfl) (by kernel_rfl) (by kernel_rfl) (fun _ _ _ h => h) (Or.inl ⟨by rfl, ?_⟩) hHeld ?_
                    rotate_left
                    · intro u hSu
                      (go_simp) <;> (with_reducible rfl)
                    change wpAnyH _ _ _ _ _ _ _ (Act.put _ (some 61) _) _
                    simp only [Act.put, List.setIfInBounds_toArray, List.set_cons_zero, List.set_cons_succ]
                    refine wpAnyH_take (i := 4) (v := kv k2) rfl (by kernel_rfl) (by kernel_rfl) (by kernel_rfl) (fun _ _ _ h => h) (yieldsIf_load_mid (by rfl) _ _ rfl _ _ rfl (k2.map (Value.int .u8)) _ (fun u hu => (F2.out u hu).range KY2.out) Tryz.underlying24 rfl (info_keyl k2 KY2.out)) hHeld ?_
                    change wpAnyH _ _ _ _ _ _ _ (Act.put _ (some 62) _) _
                    simp only [Act.put, List.setIfInBounds_toArray, List.set_cons_zero, List.set_cons_succ]
                    refine wpAnyH_take (i := 5) (v := ?_) rfl (by kernel_rfl) (by kernel_rfl) (by kernel_rfl) (fun _ _ _ h => h) (Or.inl ⟨by rfl, ?_⟩) hHeld ?_
                    rotate_left
                    · intro u hSu
                      (go_simp) <;> (with_reducible rfl)
                    change wpAnyH _ _ _ _ _ _ _ (Act.put _ (some 63) _) _
                    simp only [Act.put, List.setIfInBounds_toArray, List.set_cons_zero, List.set_cons_succ]
                    refine wpAnyH_take (i := 6) (v := ?_) rfl (by kernel_rfl) (by kernel_rfl) (by kernel_rfl) (fun _ _ _ h => h) (Or.inl ⟨by rfl, ?_⟩) hHeld ?_
                    rotate_left
                    · intro u hSu
                      (go_simp) <;> (with_reducible rfl)
                    change wpAnyH _ _ _ _ _ _ _ (Act.put _ (some 64) _) _
                    simp only [Act.put, List.setIfInBounds_toArray, List.set_cons_zero, List.set_cons_succ]
                    refine wpAnyH_take (i := 7) (v := ?_) rfl (by kernel_rfl) (by kernel_rfl) (by kernel_rfl) (fun _ _ _ h => h) (Or.inl ⟨by rfl, ?_⟩) hHeld ?_
                    rotate_left
                    · intro u hSu
                      (go_simp) <;> (with_reducible rfl)
                    change wpAnyH _ _ _ _ _ _ _ (Act.put _ (some 65) _) _
                    simp only [Act.put, List.setIfInBounds_toArray, List.set_cons_zero, List.set_cons_succ]
                    refine wpAnyH_take (i := 8) (v := ?_) rfl (by kernel_rfl) (by kernel_rfl) (by kernel_rfl) (fun _ _ _ h => h) (Or.inl ⟨by rfl, ?_⟩) hHeld ?_
                    rotate_left
                    · intro u hSu
                      (go_simp) <;> (with_reducible rfl)
                    change wpAnyH _ _ _ _ _ _ _ (Act.put _ (some 66) _) _
                    simp only [Act.put, List.setIfInBounds_toArray, List.set_cons_zero, List.set_cons_succ]
                    refine wpAnyH_take (i := 9) (v := kv k) rfl (by kernel_rfl) (by kernel_rfl) (by kernel_rfl) (fun _ _ _ h => h) (yieldsIf_load_mid (by rfl) _ _ rfl _ _ rfl (k.map (Value.int .u8)) _ (fun u hu => (F1.out u hu).range KY.out) Tryz.underlying24 rfl (info_keyl k KY.out)) hHeld ?_
                    change wpAnyH _ _ _ _ _ _ _ (Act.put _ (some 67) _) _
                    simp only [Act.put, List.setIfInBounds_toArray, List.set_cons_zero, List.set_cons_succ]
                    refine wpAnyH_take (i := 10) (v := ?_) rfl (by kernel_rfl) (by kernel_rfl) (by kernel_rfl) (fun _ _ _ h => h) (Or.inl ⟨by rfl, ?_⟩) hHeld ?_
                    rotate_left
                    · intro u hSu
                      (go_simp) <;> (with_reducible rfl)
                    change wpAnyH _ _ _ _ _ _ _ (Act.put _ (some 68) _) _
                    simp only [Act.put, List.setIfInBounds_toArray, List.set_cons_zero, List.set_cons_succ]
                    refine wpAnyH_done (by kernel_rfl) ?_ _
                    refine NoPanic.normal ?_
                    go_wp2
                    go_roundw
                    case rel => exact ⟨j + 1, by go_num, by omega, HB2.out.drew, HJ2⟩
                    case measure => simp [intOf]; omega
                · obtain rfl : j = i := by omega
                  have HF2 : Hid (Fits l (j + 1)) := HF.out.next HWI.out HFT.out (fun x A hx hA => by rw [← HKW.out]; exact HJ.out x A hx hA)
                  go_wp2
                  go_roundw
                  case rel => exact ⟨j + 1, by go_num, by omega, HB2, HF2⟩
                  case measure => simp [intOf]; omega
    · obtain rfl : i = N := by omega
      have HT : Hid (l.take i = l) := List.take_of_length_le (by rw [HL.out]; exact Nat.le_refl _)
      have HR : Hid (R = true) := HYES.out ⟨⟨by omega, by omega⟩, by have := HF.out.1; rw [HT.out] at this; exact this, by have := HF.out.2; rw [HT.out] at this; exact this⟩
      go_wp2
      go_ret
      exact ⟨by rw [HR.out]; rfl, HB.out⟩
end Go.Proofs.YtfaojmognbgnfaaGreat

