/-
  The document's own parts: Read.
-/
import Derived.Test.YtileidbdmpeciaaGreatAu111
import Derived.Test.YtileidbdmpeciaaGreatAu100
import Derived.Test.YtileidbdmpeciaaGreatAu117
import Derived.Test.YtileidbdmpeciaaGreatAu84
namespace Go.Proofs.YtileidbdmpeciaaGreat
open Go.RowKit
set_option linter.unusedVariables false
set_option linter.unusedSimpArgs false

set_option maxHeartbeats 8000000 in
set_option maxRecDepth 8000 in
theorem rread_any (B q s tb : Nat) (S : List Ver) (M : List EntM) (O : List (Int × Int)) (k : List Int) (hk : Ky k) (t n now : Int) (w : World) (h : PrtR w B q s tb S M O) :
    Calls Tryz.prog 31 #[.pointer (some ⟨q, 0, none⟩), kv k, .agg #[.int .i64 t, .int .u8 n], .int .i64 now] w fun e w' => e = .returned (.tuple #[.string (strOfNums ((readP ⟨S, ents M, O⟩ k t n now).2.getD [])), .bool (readP ⟨S, ents M, O⟩ k t n now).2.isSome, .int .i64 (readP ⟨S, ents M, O⟩ k t n now).1]) ∧ Below w.heap.size w w' := by
  have KY : Hid (Ky k) := hk
  obtain ⟨Z, hZ⟩ : ∃ Z, Z = readP ⟨S, ents M, O⟩ k t n now := ⟨_, rfl⟩
  rw [← hZ]
  obtain ⟨w1, hw1⟩ : ∃ u, u = (w.alloc (.cells (kcs k) 38)).alloc (.cells #[.int .i64 t, .int .u8 n] 28) := ⟨_, rfl⟩
  have hK1 : KBox w w1 k := by rw [hw1]; exact (KBox.made w hk).alloc _
  have HB1 : Hid (Below w.heap.size w w1) := hK1.below
  have hs1 : w1.heap.size = w.heap.size + 2 := by rw [hw1]; simp
  have e : ∀ o, w1.cell? ⟨w.heap.size + 1, o, none⟩ = (#[.int .i64 t, .int .u8 n] : Array Value)[o]? := fun o => by
    have := World.cell?_alloc_new (w.alloc (.cells (kcs k) 38)) #[.int .i64 t, .int .u8 n] 28 o
    rw [World.size_alloc] at this
    rw [hw1, this]
  have FT : Hid (∀ u, Below w1.heap.size w1 u → u.cell? ⟨w.heap.size + 1, 0, none⟩ = some (.int .i64 t) ∧ u.cell? ⟨w.heap.size + 1, 1, none⟩ = some (.int .u8 n)) := fun u hu => ⟨(hu.cell (p := ⟨w.heap.size + 1, 0, none⟩) (by show w.heap.size + 1 < _; omega)).trans (e 0), (hu.cell (p := ⟨w.heap.size + 1, 1, none⟩) (by show w.heap.size + 1 < _; omega)).trans (e 1)⟩
  have FK : Hid (∀ u, Below w1.heap.size w1 u → KeyAt u w.heap.size 0 k) := fun u hu => hK1.key.past hu
  have FK1 : Hid (KeyAt w1 w.heap.size 0 k) := hK1.key
  have HW1 : Hid ((w.alloc (.cells (kcs k) 38)).alloc (.cells #[.int .i64 t, .int .u8 n] 28) = w1) := hw1.symm
  obtain ⟨gk, hgk⟩ : ∃ g, g = goodK k := ⟨_, rfl⟩
  obtain ⟨gt, hgt⟩ : ∃ g, g = decide (okS t) := ⟨_, rfl⟩
  obtain ⟨bi, hbi⟩ : ∃ b, b = (blocksT (ents M) k t n).getD 0 := ⟨_, rfl⟩
  obtain ⟨bb, hbb⟩ : ∃ b, b = (blocksT (ents M) k t n).isSome := ⟨_, rfl⟩
  obtain ⟨G, hG⟩ : ∃ G, G = getV S k t n := ⟨_, rfl⟩
  have HZ : Hid (Z = if (gk && gt) = false then (1, none) else if (decide (now < t) || bb) = true then (8, none) else (0, G)) := by
    show _ = _
    rw [hZ, hgk, hgt, hbb, hG]
    rfl
  have CGK : Hid (∀ u, Calls Tryz.prog 74 #[kv k] u fun e w' => e = .returned (.bool gk) ∧ Below u.heap.size u w') := fun u => by rw [hgk]; exact rgood_any k hk u
  have CGT : Hid (∀ u, Calls Tryz.prog 67 #[.agg #[.int .i64 t, .int .u8 n]] u fun e w' => e = .returned (.bool gt) ∧ Below u.heap.size u w') := fun u => by rw [hgt]; exact rgood6_any t n u
  have CB : Hid (∀ u, Below w.heap.size w u → Calls Tryz.prog 75 #[.pointer (some ⟨tb, 0, none⟩), kv k, .agg #[.int .i64 t, .int .u8 n]] u fun e w' => e = .returned (.tuple #[.int .i64 bi, .bool bb]) ∧ Below u.heap.size u w') := fun u hu => by rw [hbi, hbb]; exact rblocks_any B tb M k hk t n u (h.past hu).tab
  obtain ⟨sg, hsg⟩ : ∃ x, x = strOfNums (G.getD []) := ⟨_, rfl⟩
  obtain ⟨og, hog⟩ : ∃ x, x = G.isSome := ⟨_, rfl⟩
  have CR : Hid (∀ u, Below w.heap.size w u → Calls Tryz.prog 76 #[.pointer (some ⟨s, 0, none⟩), kv k, .agg #[.int .i64 t, .int .u8 n]] u fun e w' => e = .returned (.tuple #[.string sg, .bool og]) ∧ Below u.heap.size u w') := fun u hu => by rw [hsg, hog, hG]; exact rget10_any B s S k hk t n u (h.past hu).sto
  have HC : Hid (∀ u, Below w1.heap.size w1 u → Below w.heap.size w u ∧ u.cell? ⟨q, 0, none⟩ = some (.pointer (some ⟨s, 0, none⟩)) ∧ u.cell? ⟨q, 1, none⟩ = some (.pointer (some ⟨tb, 0, none⟩))) := fun u hu => ⟨HB1.out.trans (hu.mono HB1.out.size), ((HB1.out.trans (hu.mono HB1.out.size)).cell (p := ⟨q, 0, none⟩) h.lt).trans h.c0, ((HB1.out.trans (hu.mono HB1.out.size)).cell (p := ⟨q, 1, none⟩) h.lt).trans h.c1⟩
  have HSG : Hid (sg = strOfNums (G.getD [])) := hsg
  have HOG : Hid (og = G.isSome) := hog
  clear h hk hw1 hK1 hs1 hZ e hgk hgt hbi hbb hG hsg hog
  have HZ2 := HZ.out
  cases gk with
  | false =>
    have HF : Hid (Z = (1, none)) := by rw [if_pos (by rfl)] at HZ2; exact HZ2
    clear HZ2
    go_enter Tryz.func31, Tryz.ntmps31
    go_wp2_with (first | ((with_reducible show wpList _ _ _ (Oper.mk (some 15) _ _ _ _ _ :: _) _ _); rw [HW1.out]; refine wpList_load_keyD 15 (by rfl) (by rfl) _ (by rfl) w.heap.size 0 (by rfl) k KY.out FK1.out ?_) | (go_at_call 74; refine (CGK.out _).mono ?_; rintro e w2 ⟨rfl, hb⟩; have H2 : Hid (Below w1.heap.size w1 w2) := hb; clear hb))
    go_ret3
    exact ⟨by rw [HF.out]; rfl, (HC.out _ H2.out).1⟩
  | true =>
  cases gt with
  | false =>
    have HF : Hid (Z = (1, none)) := by rw [if_pos (by rfl)] at HZ2; exact HZ2
    clear HZ2
    go_enter Tryz.func31, Tryz.ntmps31
    go_wp2_with (first | ((with_reducible show wpList _ _ _ (Oper.mk (some 15) _ _ _ _ _ :: _) _ _); rw [HW1.out]; refine wpList_load_keyD 15 (by rfl) (by rfl) _ (by rfl) w.heap.size 0 (by rfl) k KY.out FK1.out ?_) | (have hgo := H2.out; clear hgo; go_at_call 67; refine (CGT.out _).mono ?_; rintro e w3 ⟨rfl, hb⟩; have H3 : Hid (Below w1.heap.size w1 w3) := H2.out.trans (hb.mono H2.out.size); clear hb) | (go_at_call 74; refine (CGK.out _).mono ?_; rintro e w2 ⟨rfl, hb⟩; have H2 : Hid (Below w1.heap.size w1 w2) := hb; obtain ⟨s0, s1⟩ := FT.out w2 hb; clear hb))
    go_ret3
    exact ⟨by rw [HF.out]; rfl, (HC.out _ H3.out).1⟩
  | true =>
  rw [if_neg (by decide)] at HZ2
  by_cases hlt : now < t
  · have HF : Hid (Z = (8, none)) := by rw [if_pos (by simp [hlt])] at HZ2; exact HZ2
    clear HZ2
    go_enter Tryz.func31, Tryz.ntmps31
    go_wp2_with (first | ((with_reducible show wpList _ _ _ (Oper.mk (some 15) _ _ _ _ _ :: _) _ _); rw [HW1.out]; refine wpList_load_keyD 15 (by rfl) (by rfl) _ (by rfl) w.heap.size 0 (by rfl) k KY.out FK1.out ?_) | (have hgo := H2.out; clear hgo; go_at_call 67; refine (CGT.out _).mono ?_; rintro e w3 ⟨rfl, hb⟩; have H3 : Hid (Below w1.heap.size w1 w3) := H2.out.trans (hb.mono H2.out.size); clear hb) | (go_at_call 74; refine (CGK.out _).mono ?_; rintro e w2 ⟨rfl, hb⟩; have H2 : Hid (Below w1.heap.size w1 w2) := hb; obtain ⟨s0, s1⟩ := FT.out w2 hb; clear hb))
    have FW3 : Hid (∀ u, Below w3.heap.size w3 u → Below w1.heap.size w1 u) := fun u hu => H3.out.trans (hu.mono H3.out.size)
    have FK3 : Hid (∀ u, Below w3.heap.size w3 u → KeyAt u w.heap.size 0 k) := fun u hu => FK.out u (FW3.out u hu)
    clear s0 s1
    refine wp_region_noPanic ?_
    refine wp_region_held_drew (S := fun u => Below w3.heap.size w3 u) (by kernel_rfl) ?_ (fun hHeld => ?_)
    · exact (Below.refl _ _).drew
    refine wpAnyH_take (i := 0) (v := ?_) rfl (by kernel_rfl) (by kernel_rfl) (by kernel_rfl) (fun _ _ _ h => h) (Or.inl ⟨by rfl, ?_⟩) hHeld ?_
    rotate_left
    · intro u hSu
      (go_simp) <;> (with_reducible rfl)
    change wpAnyH _ _ _ _ _ _ _ (Act.put _ (some 24) _) _
    simp only [Act.put, List.setIfInBounds_toArray, List.set_cons_zero, List.set_cons_succ]
    refine wpAnyH_take (i := 1) (v := ?_) rfl (by kernel_rfl) (by kernel_rfl) (by kernel_rfl) (fun _ _ _ h => h) (Or.inl ⟨by rfl, ?_⟩) hHeld ?_
    rotate_left
    · intro u hSu
      (go_simp) <;> (with_reducible rfl)
    change wpAnyH _ _ _ _ _ _ _ (Act.put _ (some 25) _) _
    simp only [Act.put, List.setIfInBounds_toArray, List.set_cons_zero, List.set_cons_succ]
    refine wpAnyH_take (i := 2) (v := ?_) rfl (by kernel_rfl) (by kernel_rfl) (by kernel_rfl) (fun _ _ _ h => h) (Or.inl ⟨by rfl, ?_⟩) hHeld ?_
    rotate_left
    · intro u hSu
      (go_simp) <;> (with_reducible rfl)
    change wpAnyH _ _ _ _ _ _ _ (Act.put _ (some 26) _) _
    simp only [Act.put, List.setIfInBounds_toArray, List.set_cons_zero, List.set_cons_succ]
    refine wpAnyH_take (i := 3) (v := ?_) rfl (by kernel_rfl) (by kernel_rfl) (by kernel_rfl) (fun _ _ _ h => h) (Or.inl ⟨by rfl, ?_⟩) hHeld ?_
    rotate_left
    · intro u hSu
      have q1 := (HC.out u (FW3.out u hSu)).2.2
      (go_simp) <;> (with_reducible rfl)
    change wpAnyH _ _ _ _ _ _ _ (Act.put _ (some 27) _) _
    simp only [Act.put, List.setIfInBounds_toArray, List.set_cons_zero, List.set_cons_succ]
    refine wpAnyH_take (i := 4) (v := kv k) rfl (by kernel_rfl) (by kernel_rfl) (by kernel_rfl) (fun _ _ _ h => h) (yieldsIf_load_mid (by rfl) _ _ rfl _ _ rfl (k.map (Value.int .u8)) _ (fun u hu => (FK3.out u hu).range KY.out) Tryz.underlying38 rfl (info_keyl k KY.out)) hHeld ?_
    change wpAnyH _ _ _ _ _ _ _ (Act.put _ (some 28) _) _
    simp only [Act.put, List.setIfInBounds_toArray, List.set_cons_zero, List.set_cons_succ]
    refine wpAnyH_take (i := 5) (v := ?_) rfl (by kernel_rfl) (by kernel_rfl) (by kernel_rfl) (fun _ _ _ h => h) (Or.inl ⟨by rfl, ?_⟩) hHeld ?_
    rotate_left
    · intro u hSu
      obtain ⟨s0, s1⟩ := FT.out u (FW3.out u hSu)
      (go_simp) <;> (with_reducible rfl)
    change wpAnyH _ _ _ _ _ _ _ (Act.put _ (some 29) _) _
    simp only [Act.put, List.setIfInBounds_toArray, List.set_cons_zero, List.set_cons_succ]
    refine wpAnyH_ready (rs := [6]) (by kernel_rfl) (by simp) ?_
    refine AllReadyH.cons rfl (fun K hK => ?_) AllReadyH.nil
    go_simp
    go_at_call 75
    refine (CB.out _ (HC.out _ (FW3.out _ hHeld)).1).mono ?_
    rintro e w4 ⟨rfl, hb⟩
    have B4 : Hid (Below w3.heap.size w3 w4) := hHeld.trans (hb.mono hHeld.size); clear hb
    refine hK.out _ _ ?_ (fun hHeld2 => ?_)
    · exact B4.out
    clear hK K hHeld
    have hHeld := hHeld2
    clear hHeld2
    refine wpAnyH_take (i := 7) (v := ?_) rfl (by kernel_rfl) (by kernel_rfl) (by kernel_rfl) (fun _ _ _ h => h) (Or.inl ⟨by rfl, ?_⟩) hHeld ?_
    rotate_left
    · intro u hSu
      (go_simp) <;> (with_reducible rfl)
    change wpAnyH _ _ _ _ _ _ _ (Act.put _ (some 23) _) _
    simp only [Act.put, List.setIfInBounds_toArray, List.set_cons_zero, List.set_cons_succ]
    refine wpAnyH_take (i := 8) (v := ?_) rfl (by kernel_rfl) (by kernel_rfl) (by kernel_rfl) (fun _ _ _ h => h) (Or.inl ⟨by rfl, ?_⟩) hHeld ?_
    rotate_left
    · intro u hSu
      (go_simp) <;> (with_reducible rfl)
    change wpAnyH _ _ _ _ _ _ _ (Act.put _ (some 31) _) _
    simp only [Act.put, List.setIfInBounds_toArray, List.set_cons_zero, List.set_cons_succ]
    refine wpAnyH_take (i := 9) (v := ?_) rfl (by kernel_rfl) (by kernel_rfl) (by kernel_rfl) (fun _ _ _ h => h) (Or.inl ⟨by rfl, ?_⟩) hHeld ?_
    rotate_left
    · intro u hSu
      (go_simp) <;> (with_reducible rfl)
    change wpAnyH _ _ _ _ _ _ _ (Act.put _ (some 32) _) _
    simp only [Act.put, List.setIfInBounds_toArray, List.set_cons_zero, List.set_cons_succ]
    refine wpAnyH_take (i := 10) (v := ?_) rfl (by kernel_rfl) (by kernel_rfl) (by kernel_rfl) (fun _ _ _ h => h) (Or.inl ⟨by rfl, ?_⟩) hHeld ?_
    rotate_left
    · intro u hSu
      (go_simp) <;> (with_reducible rfl)
    change wpAnyH _ _ _ _ _ _ _ (Act.put _ (some 11) _) _
    simp only [Act.put, List.setIfInBounds_toArray, List.set_cons_zero, List.set_cons_succ]
    refine wpAnyH_take (i := 11) (v := ?_) rfl (by kernel_rfl) (by kernel_rfl) (by kernel_rfl) (fun _ _ _ h => h) (Or.inl ⟨by rfl, ?_⟩) hHeld ?_
    rotate_left
    · intro u hSu
      (go_simp) <;> (with_reducible rfl)
    change wpAnyH _ _ _ _ _ _ _ (Act.put _ (some 12) _) _
    simp only [Act.put, List.setIfInBounds_toArray, List.set_cons_zero, List.set_cons_succ]
    refine wpAnyH_done (by kernel_rfl) ?_ _
    refine NoPanic.normal ?_
    have H4 : Hid (Below w1.heap.size w1 w4) := FW3.out _ B4.out
    obtain ⟨s0, s1⟩ := FT.out w4 H4.out
    go_wp2
    go_ret3
    exact ⟨by rw [HF.out]; rfl, (HC.out _ H4.out).1⟩
  · cases bb with
    | true =>
      have HF : Hid (Z = (8, none)) := by rw [if_pos (by simp)] at HZ2; exact HZ2
      clear HZ2
      go_enter Tryz.func31, Tryz.ntmps31
      go_wp2_with (first | ((with_reducible show wpList _ _ _ (Oper.mk (some 15) _ _ _ _ _ :: _) _ _); rw [HW1.out]; refine wpList_load_keyD 15 (by rfl) (by rfl) _ (by rfl) w.heap.size 0 (by rfl) k KY.out FK1.out ?_) | (have hgo := H2.out; clear hgo; go_at_call 67; refine (CGT.out _).mono ?_; rintro e w3 ⟨rfl, hb⟩; have H3 : Hid (Below w1.heap.size w1 w3) := H2.out.trans (hb.mono H2.out.size); clear hb) | (go_at_call 74; refine (CGK.out _).mono ?_; rintro e w2 ⟨rfl, hb⟩; have H2 : Hid (Below w1.heap.size w1 w2) := hb; obtain ⟨s0, s1⟩ := FT.out w2 hb; clear hb))
      have FW3 : Hid (∀ u, Below w3.heap.size w3 u → Below w1.heap.size w1 u) := fun u hu => H3.out.trans (hu.mono H3.out.size)
      have FK3 : Hid (∀ u, Below w3.heap.size w3 u → KeyAt u w.heap.size 0 k) := fun u hu => FK.out u (FW3.out u hu)
      clear s0 s1
      refine wp_region_noPanic ?_
      refine wp_region_held_drew (S := fun u => Below w3.heap.size w3 u) (by kernel_rfl) ?_ (fun hHeld => ?_)
      · exact (Below.refl _ _).drew
      refine wpAnyH_take (i := 0) (v := ?_) rfl (by kernel_rfl) (by kernel_rfl) (by kernel_rfl) (fun _ _ _ h => h) (Or.inl ⟨by rfl, ?_⟩) hHeld ?_
      rotate_left
      · intro u hSu
        (go_simp) <;> (with_reducible rfl)
      change wpAnyH _ _ _ _ _ _ _ (Act.put _ (some 24) _) _
      simp only [Act.put, List.setIfInBounds_toArray, List.set_cons_zero, List.set_cons_succ]
      refine wpAnyH_take (i := 1) (v := ?_) rfl (by kernel_rfl) (by kernel_rfl) (by kernel_rfl) (fun _ _ _ h => h) (Or.inl ⟨by rfl, ?_⟩) hHeld ?_
      rotate_left
      · intro u hSu
        (go_simp) <;> (with_reducible rfl)
      change wpAnyH _ _ _ _ _ _ _ (Act.put _ (some 25) _) _
      simp only [Act.put, List.setIfInBounds_toArray, List.set_cons_zero, List.set_cons_succ]
      refine wpAnyH_take (i := 2) (v := ?_) rfl (by kernel_rfl) (by kernel_rfl) (by kernel_rfl) (fun _ _ _ h => h) (Or.inl ⟨by rfl, ?_⟩) hHeld ?_
      rotate_left
      · intro u hSu
        (go_simp) <;> (with_reducible rfl)
      change wpAnyH _ _ _ _ _ _ _ (Act.put _ (some 26) _) _
      simp only [Act.put, List.setIfInBounds_toArray, List.set_cons_zero, List.set_cons_succ]
      refine wpAnyH_take (i := 3) (v := ?_) rfl (by kernel_rfl) (by kernel_rfl) (by kernel_rfl) (fun _ _ _ h => h) (Or.inl ⟨by rfl, ?_⟩) hHeld ?_
      rotate_left
      · intro u hSu
        have q1 := (HC.out u (FW3.out u hSu)).2.2
        (go_simp) <;> (with_reducible rfl)
      change wpAnyH _ _ _ _ _ _ _ (Act.put _ (some 27) _) _
      simp only [Act.put, List.setIfInBounds_toArray, List.set_cons_zero, List.set_cons_succ]
      refine wpAnyH_take (i := 4) (v := kv k) rfl (by kernel_rfl) (by kernel_rfl) (by kernel_rfl) (fun _ _ _ h => h) (yieldsIf_load_mid (by rfl) _ _ rfl _ _ rfl (k.map (Value.int .u8)) _ (fun u hu => (FK3.out u hu).range KY.out) Tryz.underlying38 rfl (info_keyl k KY.out)) hHeld ?_
      change wpAnyH _ _ _ _ _ _ _ (Act.put _ (some 28) _) _
      simp only [Act.put, List.setIfInBounds_toArray, List.set_cons_zero, List.set_cons_succ]
      refine wpAnyH_take (i := 5) (v := ?_) rfl (by kernel_rfl) (by kernel_rfl) (by kernel_rfl) (fun _ _ _ h => h) (Or.inl ⟨by rfl, ?_⟩) hHeld ?_
      rotate_left
      · intro u hSu
        obtain ⟨s0, s1⟩ := FT.out u (FW3.out u hSu)
        (go_simp) <;> (with_reducible rfl)
      change wpAnyH _ _ _ _ _ _ _ (Act.put _ (some 29) _) _
      simp only [Act.put, List.setIfInBounds_toArray, List.set_cons_zero, List.set_cons_succ]
      refine wpAnyH_ready (rs := [6]) (by kernel_rfl) (by simp) ?_
      refine AllReadyH.cons rfl (fun K hK => ?_) AllReadyH.nil
      go_simp
      go_at_call 75
      refine (CB.out _ (HC.out _ (FW3.out _ hHeld)).1).mono ?_
      rintro e w4 ⟨rfl, hb⟩
      have B4 : Hid (Below w3.heap.size w3 w4) := hHeld.trans (hb.mono hHeld.size); clear hb
      refine hK.out _ _ ?_ (fun hHeld2 => ?_)
      · exact B4.out
      clear hK K hHeld
      have hHeld := hHeld2
      clear hHeld2
      refine wpAnyH_take (i := 7) (v := ?_) rfl (by kernel_rfl) (by kernel_rfl) (by kernel_rfl) (fun _ _ _ h => h) (Or.inl ⟨by rfl, ?_⟩) hHeld ?_
      rotate_left
      · intro u hSu
        (go_simp) <;> (with_reducible rfl)
      change wpAnyH _ _ _ _ _ _ _ (Act.put _ (some 23) _) _
      simp only [Act.put, List.setIfInBounds_toArray, List.set_cons_zero, List.set_cons_succ]
      refine wpAnyH_take (i := 8) (v := ?_) rfl (by kernel_rfl) (by kernel_rfl) (by kernel_rfl) (fun _ _ _ h => h) (Or.inl ⟨by rfl, ?_⟩) hHeld ?_
      rotate_left
      · intro u hSu
        (go_simp) <;> (with_reducible rfl)
      change wpAnyH _ _ _ _ _ _ _ (Act.put _ (some 31) _) _
      simp only [Act.put, List.setIfInBounds_toArray, List.set_cons_zero, List.set_cons_succ]
      refine wpAnyH_take (i := 9) (v := ?_) rfl (by kernel_rfl) (by kernel_rfl) (by kernel_rfl) (fun _ _ _ h => h) (Or.inl ⟨by rfl, ?_⟩) hHeld ?_
      rotate_left
      · intro u hSu
        (go_simp) <;> (with_reducible rfl)
      change wpAnyH _ _ _ _ _ _ _ (Act.put _ (some 32) _) _
      simp only [Act.put, List.setIfInBounds_toArray, List.set_cons_zero, List.set_cons_succ]
      refine wpAnyH_take (i := 10) (v := ?_) rfl (by kernel_rfl) (by kernel_rfl) (by kernel_rfl) (fun _ _ _ h => h) (Or.inl ⟨by rfl, ?_⟩) hHeld ?_
      rotate_left
      · intro u hSu
        (go_simp) <;> (with_reducible rfl)
      change wpAnyH _ _ _ _ _ _ _ (Act.put _ (some 11) _) _
      simp only [Act.put, List.setIfInBounds_toArray, List.set_cons_zero, List.set_cons_succ]
      refine wpAnyH_take (i := 11) (v := ?_) rfl (by kernel_rfl) (by kernel_rfl) (by kernel_rfl) (fun _ _ _ h => h) (Or.inl ⟨by rfl, ?_⟩) hHeld ?_
      rotate_left
      · intro u hSu
        (go_simp) <;> (with_reducible rfl)
      change wpAnyH _ _ _ _ _ _ _ (Act.put _ (some 12) _) _
      simp only [Act.put, List.setIfInBounds_toArray, List.set_cons_zero, List.set_cons_succ]
      refine wpAnyH_done (by kernel_rfl) ?_ _
      refine NoPanic.normal ?_
      have H4 : Hid (Below w1.heap.size w1 w4) := FW3.out _ B4.out
      obtain ⟨s0, s1⟩ := FT.out w4 H4.out
      go_wp2
      go_ret3
      exact ⟨by rw [HF.out]; rfl, (HC.out _ H4.out).1⟩
    | false =>
      have HF : Hid (Z = (0, G)) := by rw [if_neg (by simp [hlt])] at HZ2; exact HZ2
      clear HZ2
      go_enter Tryz.func31, Tryz.ntmps31
      go_wp2_with (first | ((with_reducible show wpList _ _ _ (Oper.mk (some 15) _ _ _ _ _ :: _) _ _); rw [HW1.out]; refine wpList_load_keyD 15 (by rfl) (by rfl) _ (by rfl) w.heap.size 0 (by rfl) k KY.out FK1.out ?_) | (have hgo := H2.out; clear hgo; go_at_call 67; refine (CGT.out _).mono ?_; rintro e w3 ⟨rfl, hb⟩; have H3 : Hid (Below w1.heap.size w1 w3) := H2.out.trans (hb.mono H2.out.size); clear hb) | (go_at_call 74; refine (CGK.out _).mono ?_; rintro e w2 ⟨rfl, hb⟩; have H2 : Hid (Below w1.heap.size w1 w2) := hb; obtain ⟨s0, s1⟩ := FT.out w2 hb; clear hb))
      have FW3 : Hid (∀ u, Below w3.heap.size w3 u → Below w1.heap.size w1 u) := fun u hu => H3.out.trans (hu.mono H3.out.size)
      have FK3 : Hid (∀ u, Below w3.heap.size w3 u → KeyAt u w.heap.size 0 k) := fun u hu => FK.out u (FW3.out u hu)
      clear s0 s1
      refine wp_region_noPanic ?_
      refine wp_region_held_drew (S := fun u => Below w3.heap.size w3 u) (by kernel_rfl) ?_ (fun hHeld => ?_)
      · exact (Below.refl _ _).drew
      refine wpAnyH_take (i := 0) (v := ?_) rfl (by kernel_rfl) (by kernel_rfl) (by kernel_rfl) (fun _ _ _ h => h) (Or.inl ⟨by rfl, ?_⟩) hHeld ?_
      rotate_left
      · intro u hSu
        (go_simp) <;> (with_reducible rfl)
      change wpAnyH _ _ _ _ _ _ _ (Act.put _ (some 24) _) _
      simp only [Act.put, List.setIfInBounds_toArray, List.set_cons_zero, List.set_cons_succ]
      refine wpAnyH_take (i := 1) (v := ?_) rfl (by kernel_rfl) (by kernel_rfl) (by kernel_rfl) (fun _ _ _ h => h) (Or.inl ⟨by rfl, ?_⟩) hHeld ?_
      rotate_left
      · intro u hSu
        (go_simp) <;> (with_reducible rfl)
      change wpAnyH _ _ _ _ _ _ _ (Act.put _ (some 25) _) _
      simp only [Act.put, List.setIfInBounds_toArray, List.set_cons_zero, List.set_cons_succ]
      refine wpAnyH_take (i := 2) (v := ?_) rfl (by kernel_rfl) (by kernel_rfl) (by kernel_rfl) (fun _ _ _ h => h) (Or.inl ⟨by rfl, ?_⟩) hHeld ?_
      rotate_left
      · intro u hSu
        (go_simp) <;> (with_reducible rfl)
      change wpAnyH _ _ _ _ _ _ _ (Act.put _ (some 26) _) _
      simp only [Act.put, List.setIfInBounds_toArray, List.set_cons_zero, List.set_cons_succ]
      refine wpAnyH_take (i := 3) (v := ?_) rfl (by kernel_rfl) (by kernel_rfl) (by kernel_rfl) (fun _ _ _ h => h) (Or.inl ⟨by rfl, ?_⟩) hHeld ?_
      rotate_left
      · intro u hSu
        have q1 := (HC.out u (FW3.out u hSu)).2.2
        (go_simp) <;> (with_reducible rfl)
      change wpAnyH _ _ _ _ _ _ _ (Act.put _ (some 27) _) _
      simp only [Act.put, List.setIfInBounds_toArray, List.set_cons_zero, List.set_cons_succ]
      refine wpAnyH_take (i := 4) (v := kv k) rfl (by kernel_rfl) (by kernel_rfl) (by kernel_rfl) (fun _ _ _ h => h) (yieldsIf_load_mid (by rfl) _ _ rfl _ _ rfl (k.map (Value.int .u8)) _ (fun u hu => (FK3.out u hu).range KY.out) Tryz.underlying38 rfl (info_keyl k KY.out)) hHeld ?_
      change wpAnyH _ _ _ _ _ _ _ (Act.put _ (some 28) _) _
      simp only [Act.put, List.setIfInBounds_toArray, List.set_cons_zero, List.set_cons_succ]
      refine wpAnyH_take (i := 5) (v := ?_) rfl (by kernel_rfl) (by kernel_rfl) (by kernel_rfl) (fun _ _ _ h => h) (Or.inl ⟨by rfl, ?_⟩) hHeld ?_
      rotate_left
      · intro u hSu
        obtain ⟨s0, s1⟩ := FT.out u (FW3.out u hSu)
        (go_simp) <;> (with_reducible rfl)
      change wpAnyH _ _ _ _ _ _ _ (Act.put _ (some 29) _) _
      simp only [Act.put, List.setIfInBounds_toArray, List.set_cons_zero, List.set_cons_succ]
      refine wpAnyH_ready (rs := [6]) (by kernel_rfl) (by simp) ?_
      refine AllReadyH.cons rfl (fun K hK => ?_) AllReadyH.nil
      go_simp
      go_at_call 75
      refine (CB.out _ (HC.out _ (FW3.out _ hHeld)).1).mono ?_
      rintro e w4 ⟨rfl, hb⟩
      have B4 : Hid (Below w3.heap.size w3 w4) := hHeld.trans (hb.mono hHeld.size); clear hb
      refine hK.out _ _ ?_ (fun hHeld2 => ?_)
      · exact B4.out
      clear hK K hHeld
      have hHeld := hHeld2
      clear hHeld2
      refine wpAnyH_take (i := 7) (v := ?_) rfl (by kernel_rfl) (by kernel_rfl) (by kernel_rfl) (fun _ _ _ h => h) (Or.inl ⟨by rfl, ?_⟩) hHeld ?_
      rotate_left
      · intro u hSu
        (go_simp) <;> (with_reducible rfl)
      change wpAnyH _ _ _ _ _ _ _ (Act.put _ (some 23) _) _
      simp only [Act.put, List.setIfInBounds_toArray, List.set_cons_zero, List.set_cons_succ]
      refine wpAnyH_take (i := 8) (v := ?_) rfl (by kernel_rfl) (by kernel_rfl) (by kernel_rfl) (fun _ _ _ h => h) (Or.inl ⟨by rfl, ?_⟩) hHeld ?_
      rotate_left
      · intro u hSu
        (go_simp) <;> (with_reducible rfl)
      change wpAnyH _ _ _ _ _ _ _ (Act.put _ (some 31) _) _
      simp only [Act.put, List.setIfInBounds_toArray, List.set_cons_zero, List.set_cons_succ]
      refine wpAnyH_take (i := 9) (v := ?_) rfl (by kernel_rfl) (by kernel_rfl) (by kernel_rfl) (fun _ _ _ h => h) (Or.inl ⟨by rfl, ?_⟩) hHeld ?_
      rotate_left
      · intro u hSu
        (go_simp) <;> (with_reducible rfl)
      change wpAnyH _ _ _ _ _ _ _ (Act.put _ (some 32) _) _
      simp only [Act.put, List.setIfInBounds_toArray, List.set_cons_zero, List.set_cons_succ]
      refine wpAnyH_take (i := 10) (v := ?_) rfl (by kernel_rfl) (by kernel_rfl) (by kernel_rfl) (fun _ _ _ h => h) (Or.inl ⟨by rfl, ?_⟩) hHeld ?_
      rotate_left
      · intro u hSu
        (go_simp) <;> (with_reducible rfl)
      change wpAnyH _ _ _ _ _ _ _ (Act.put _ (some 11) _) _
      simp only [Act.put, List.setIfInBounds_toArray, List.set_cons_zero, List.set_cons_succ]
      refine wpAnyH_take (i := 11) (v := ?_) rfl (by kernel_rfl) (by kernel_rfl) (by kernel_rfl) (fun _ _ _ h => h) (Or.inl ⟨by rfl, ?_⟩) hHeld ?_
      rotate_left
      · intro u hSu
        (go_simp) <;> (with_reducible rfl)
      change wpAnyH _ _ _ _ _ _ _ (Act.put _ (some 12) _) _
      simp only [Act.put, List.setIfInBounds_toArray, List.set_cons_zero, List.set_cons_succ]
      refine wpAnyH_done (by kernel_rfl) ?_ _
      refine NoPanic.normal ?_
      have H4 : Hid (Below w1.heap.size w1 w4) := FW3.out _ B4.out
      obtain ⟨s0, s1⟩ := FT.out w4 H4.out
      go_wp2
      have FW4 : Hid (∀ u, Below w4.heap.size w4 u → Below w1.heap.size w1 u) := fun u hu => H4.out.trans (hu.mono H4.out.size)
      have FK4 : Hid (∀ u, Below w4.heap.size w4 u → KeyAt u w.heap.size 0 k) := fun u hu => FK.out u (FW4.out u hu)
      clear s0 s1
      refine wp_region_noPanic ?_
      refine wp_region_held_drew (S := fun u => Below w4.heap.size w4 u) (by kernel_rfl) ?_ (fun hHeld => ?_)
      · exact (Below.refl _ _).drew
      refine wpAnyH_take (i := 0) (v := ?_) rfl (by kernel_rfl) (by kernel_rfl) (by kernel_rfl) (fun _ _ _ h => h) (Or.inl ⟨by rfl, ?_⟩) hHeld ?_
      rotate_left
      · intro u hSu
        (go_simp) <;> (with_reducible rfl)
      change wpAnyH _ _ _ _ _ _ _ (Act.put _ (some 41) _) _
      simp only [Act.put, List.setIfInBounds_toArray, List.set_cons_zero, List.set_cons_succ]
      refine wpAnyH_take (i := 1) (v := ?_) rfl (by kernel_rfl) (by kernel_rfl) (by kernel_rfl) (fun _ _ _ h => h) (Or.inl ⟨by rfl, ?_⟩) hHeld ?_
      rotate_left
      · intro u hSu
        (go_simp) <;> (with_reducible rfl)
      change wpAnyH _ _ _ _ _ _ _ (Act.put _ (some 42) _) _
      simp only [Act.put, List.setIfInBounds_toArray, List.set_cons_zero, List.set_cons_succ]
      refine wpAnyH_take (i := 2) (v := ?_) rfl (by kernel_rfl) (by kernel_rfl) (by kernel_rfl) (fun _ _ _ h => h) (Or.inl ⟨by rfl, ?_⟩) hHeld ?_
      rotate_left
      · intro u hSu
        (go_simp) <;> (with_reducible rfl)
      change wpAnyH _ _ _ _ _ _ _ (Act.put _ (some 43) _) _
      simp only [Act.put, List.setIfInBounds_toArray, List.set_cons_zero, List.set_cons_succ]
      refine wpAnyH_take (i := 3) (v := ?_) rfl (by kernel_rfl) (by kernel_rfl) (by kernel_rfl) (fun _ _ _ h => h) (Or.inl ⟨by rfl, ?_⟩) hHeld ?_
      rotate_left
      · intro u hSu
        have q0 := (HC.out u (FW4.out u hSu)).2.1
        (go_simp) <;> (with_reducible rfl)
      change wpAnyH _ _ _ _ _ _ _ (Act.put _ (some 44) _) _
      simp only [Act.put, List.setIfInBounds_toArray, List.set_cons_zero, List.set_cons_succ]
      refine wpAnyH_take (i := 4) (v := kv k) rfl (by kernel_rfl) (by kernel_rfl) (by kernel_rfl) (fun _ _ _ h => h) (yieldsIf_load_mid (by rfl) _ _ rfl _ _ rfl (k.map (Value.int .u8)) _ (fun u hu => (FK4.out u hu).range KY.out) Tryz.underlying38 rfl (info_keyl k KY.out)) hHeld ?_
      change wpAnyH _ _ _ _ _ _ _ (Act.put _ (some 45) _) _
      simp only [Act.put, List.setIfInBounds_toArray, List.set_cons_zero, List.set_cons_succ]
      refine wpAnyH_take (i := 5) (v := ?_) rfl (by kernel_rfl) (by kernel_rfl) (by kernel_rfl) (fun _ _ _ h => h) (Or.inl ⟨by rfl, ?_⟩) hHeld ?_
      rotate_left
      · intro u hSu
        obtain ⟨s0, s1⟩ := FT.out u (FW4.out u hSu)
        (go_simp) <;> (with_reducible rfl)
      change wpAnyH _ _ _ _ _ _ _ (Act.put _ (some 46) _) _
      simp only [Act.put, List.setIfInBounds_toArray, List.set_cons_zero, List.set_cons_succ]
      refine wpAnyH_ready (rs := [6]) (by kernel_rfl) (by simp) ?_
      refine AllReadyH.cons rfl (fun K hK => ?_) AllReadyH.nil
      go_simp
      go_at_call 76
      refine (CR.out _ (HC.out _ (FW4.out _ hHeld)).1).mono ?_
      rintro e w5 ⟨rfl, hb⟩
      have B5 : Hid (Below w4.heap.size w4 w5) := hHeld.trans (hb.mono hHeld.size); clear hb
      refine hK.out _ _ ?_ (fun hHeld2 => ?_)
      · exact B5.out
      clear hK K hHeld
      have hHeld := hHeld2
      clear hHeld2
      refine wpAnyH_take (i := 7) (v := ?_) rfl (by kernel_rfl) (by kernel_rfl) (by kernel_rfl) (fun _ _ _ h => h) (Or.inl ⟨by rfl, ?_⟩) hHeld ?_
      rotate_left
      · intro u hSu
        (go_simp) <;> (with_reducible rfl)
      change wpAnyH _ _ _ _ _ _ _ (Act.put _ (some 40) _) _
      simp only [Act.put, List.setIfInBounds_toArray, List.set_cons_zero, List.set_cons_succ]
      refine wpAnyH_take (i := 8) (v := ?_) rfl (by kernel_rfl) (by kernel_rfl) (by kernel_rfl) (fun _ _ _ h => h) (Or.inl ⟨by rfl, ?_⟩) hHeld ?_
      rotate_left
      · intro u hSu
        (go_simp) <;> (with_reducible rfl)
      change wpAnyH _ _ _ _ _ _ _ (Act.put _ (some 48) _) _
      simp only [Act.put, List.setIfInBounds_toArray, List.set_cons_zero, List.set_cons_succ]
      refine wpAnyH_take (i := 9) (v := ?_) rfl (by kernel_rfl) (by kernel_rfl) (by kernel_rfl) (fun _ _ _ h => h) (Or.inl ⟨by rfl, ?_⟩) hHeld ?_
      rotate_left
      · intro u hSu
        (go_simp) <;> (with_reducible rfl)
      change wpAnyH _ _ _ _ _ _ _ (Act.put _ (some 49) _) _
      simp only [Act.put, List.setIfInBounds_toArray, List.set_cons_zero, List.set_cons_succ]
      refine wpAnyH_take (i := 10) (v := ?_) rfl (by kernel_rfl) (by kernel_rfl) (by kernel_rfl) (fun _ _ _ h => h) (Or.inl ⟨by rfl, ?_⟩) hHeld ?_
      rotate_left
      · intro u hSu
        (go_simp) <;> (with_reducible rfl)
      change wpAnyH _ _ _ _ _ _ _ (Act.put _ (some 13) _) _
      simp only [Act.put, List.setIfInBounds_toArray, List.set_cons_zero, List.set_cons_succ]
      refine wpAnyH_take (i := 11) (v := ?_) rfl (by kernel_rfl) (by kernel_rfl) (by kernel_rfl) (fun _ _ _ h => h) (Or.inl ⟨by rfl, ?_⟩) hHeld ?_
      rotate_left
      · intro u hSu
        (go_simp) <;> (with_reducible rfl)
      change wpAnyH _ _ _ _ _ _ _ (Act.put _ (some 14) _) _
      simp only [Act.put, List.setIfInBounds_toArray, List.set_cons_zero, List.set_cons_succ]
      refine wpAnyH_done (by kernel_rfl) ?_ _
      refine NoPanic.normal ?_
      have H5 : Hid (Below w1.heap.size w1 w5) := FW4.out _ B5.out
      go_wp2
      go_ret3
      exact ⟨by rw [HF.out, HSG.out, HOG.out]; rfl, (HC.out _ H5.out).1⟩
end Go.Proofs.YtileidbdmpeciaaGreat
