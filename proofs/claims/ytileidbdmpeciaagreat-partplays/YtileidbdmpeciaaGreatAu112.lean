/-
  What the landed parts answer: Read (package part).
  slices.IndexFunc and ContainsFunc with the landed part's closures (package part: anyBlocked, anyConflict, anyFull).
  What both sides' parts share, plain.
  Writes, and lists of one to three writes, made of their parts.
-/
import Derived.Test.YtileidbdmpeciaaGreatAu87
import Derived.Test.YtileidbdmpeciaaGreatAu84
import Derived.Test.YtileidbdmpeciaaGreatAu98
import Derived.Test.YtileidbdmpeciaaGreatAu105
import Derived.Test.YtileidbdmpeciaaGreatAu117
import Derived.Test.YtileidbdmpeciaaGreatAu109
import Derived.Test.YtileidbdmpeciaaGreatAu93
import Derived.Test.YtileidbdmpeciaaGreatAu96
namespace Go.Proofs.YtileidbdmpeciaaGreat
open Go.RowKit
set_option linter.unusedVariables false
set_option linter.unusedSimpArgs false

set_option maxHeartbeats 8000000 in
set_option maxRecDepth 8000 in
theorem pread_any {q s tb mm : Nat} {P : PSt} {M : List EntM} {XS XT : Foot} (k : List Int) (hk : Ky k) (t n now : Int) (w : World) (h : ParI w q s tb mm P M XS XT) :
    Calls Tryz.prog 14 #[.pointer (some ⟨q, 0, none⟩), kv k, .agg #[.int .i64 t, .int .u8 n], .int .i64 now] w fun e w' => e = .returned (.tuple #[.string (strOfNums ((readP P k t n now).2.getD [])), .bool (readP P k t n now).2.isSome, .int .i64 (readP P k t n now).1]) ∧ Below w.heap.size w w' := by
  have KY : Hid (Ky k) := hk
  obtain ⟨Z, hZ⟩ : ∃ Z, Z = readP P k t n now := ⟨_, rfl⟩
  rw [← hZ]
  obtain ⟨w1, hw1⟩ : ∃ u, u = (w.alloc (.cells (kcs k) 38)).alloc (.cells #[.int .i64 t, .int .u8 n] 28) := ⟨_, rfl⟩
  have hK1 : KBox w w1 k := by rw [hw1]; exact (KBox.made w hk).alloc _
  have HB1 : Hid (Below w.heap.size w w1) := hK1.below
  have hs1 : w1.heap.size = w.heap.size + 2 := by rw [hw1]; simp
  have e : ∀ o, w1.cell? ⟨w.heap.size + 1, o, none⟩ = (#[.int .i64 t, .int .u8 n] : Array Value)[o]? := fun o => by
    have := World.cell?_alloc_new (w.alloc (.cells (kcs k) 38)) #[.int .i64 t, .int .u8 n] 28 o
    rw [World.size_alloc] at this
    rw [hw1, this]
  have FT : Hid (∀ u, Below w1.heap.size w1 u → u.cell? ⟨w.heap.size + 1, 0, none⟩ = some (.int .i64 t) ∧ u.cell? ⟨w.heap.size + 1, 1, none⟩ = some (.int .u8 n)) := fun u hu => ⟨(hu.cell (p := ⟨w.heap.size + 1, 0, none⟩) (by show w.heap.size + 1 < _; omega)).trans (e 0), (hu.cell (p := ⟨w.heap.size + 1, 1, none⟩) (by show w.heap.size + 1 < _; omega)).trans (e 1)⟩
  have FK : Hid (∀ u, Below w1.heap.size w1 u → KeyAt u w.heap.size 0 k) := fun u hu => hK1.key.past hu
  have FK1 : Hid (KeyAt w1 w.heap.size 0 k) := hK1.key
  have HW1 : Hid ((w.alloc (.cells (kcs k) 38)).alloc (.cells #[.int .i64 t, .int .u8 n] 28) = w1) := hw1.symm
  obtain ⟨gk, hgk⟩ : ∃ g, g = goodK k := ⟨_, rfl⟩
  obtain ⟨gt, hgt⟩ : ∃ g, g = decide (okS t) := ⟨_, rfl⟩
  obtain ⟨bi, hbi⟩ : ∃ b, b = (blocksT P.T k t n).getD 0 := ⟨_, rfl⟩
  obtain ⟨bb, hbb⟩ : ∃ b, b = (blocksT P.T k t n).isSome := ⟨_, rfl⟩
  obtain ⟨G, hG⟩ : ∃ G, G = getV P.S k t n := ⟨_, rfl⟩
  have HZ : Hid (Z = if (gk && gt) = false then (1, none) else if (decide (now < t) || bb) = true then (8, none) else (0, G)) := by
    show _ = _
    rw [hZ, hgk, hgt, hbb, hG]
    rfl
  have CGK : Hid (∀ u, Calls Tryz.prog 52 #[kv k] u fun e w' => e = .returned (.bool gk) ∧ Below u.heap.size u w') := fun u => by rw [hgk]; exact kgood_any k hk u
  have CGT : Hid (∀ u, Calls Tryz.prog 47 #[.agg #[.int .i64 t, .int .u8 n]] u fun e w' => e = .returned (.bool gt) ∧ Below u.heap.size u w') := fun u => by rw [hgt]; exact sgood_any t n u
  have CB : Hid (∀ u, Below w.heap.size w u → Calls Tryz.prog 53 #[.pointer (some ⟨tb, 0, none⟩), kv k, .agg #[.int .i64 t, .int .u8 n]] u fun e w' => e = .returned (.tuple #[.int .i64 bi, .bool bb]) ∧ Below u.heap.size u w') := fun u hu => by rw [hbi, hbb]; rw [← h.is]; exact pblocks_any tb M XT k hk t n u (h.past hu).tab
  obtain ⟨sg, hsg⟩ : ∃ x, x = strOfNums (G.getD []) := ⟨_, rfl⟩
  obtain ⟨og, hog⟩ : ∃ x, x = G.isSome := ⟨_, rfl⟩
  have CR : Hid (∀ u, Below w.heap.size w u → Calls Tryz.prog 54 #[.pointer (some ⟨s, 0, none⟩), kv k, .agg #[.int .i64 t, .int .u8 n]] u fun e w' => e = .returned (.tuple #[.string sg, .bool og]) ∧ Below u.heap.size u w') := fun u hu => by rw [hsg, hog, hG]; exact sget_any s P.S XS k hk t n u (h.past hu).sto
  have HC : Hid (∀ u, Below w1.heap.size w1 u → Below w.heap.size w u ∧ u.cell? ⟨q, 0, none⟩ = some (.pointer (some ⟨s, 0, none⟩)) ∧ u.cell? ⟨q, 1, none⟩ = some (.pointer (some ⟨tb, 0, none⟩))) := fun u hu => ⟨HB1.out.trans (hu.mono HB1.out.size), ((HB1.out.trans (hu.mono HB1.out.size)).cell (p := ⟨q, 0, none⟩) h.plt).trans h.c0, ((HB1.out.trans (hu.mono HB1.out.size)).cell (p := ⟨q, 1, none⟩) h.plt).trans h.c1⟩
  have HSG : Hid (sg = strOfNums (G.getD [])) := hsg
  have HOG : Hid (og = G.isSome) := hog
  clear h hk hw1 hK1 hs1 hZ e hgk hgt hbi hbb hG hsg hog
  have HZ2 := HZ.out
  cases gk with
  | false =>
    have HF : Hid (Z = (1, none)) := by rw [if_pos (by rfl)] at HZ2; exact HZ2
    clear HZ2
    go_enter Tryz.func14, Tryz.ntmps14
    go_wp2_with (first | ((with_reducible show wpList _ _ _ (Oper.mk (some 15) _ _ _ _ _ :: _) _ _); rw [HW1.out]; refine wpList_load_keyD 15 (by rfl) (by rfl) _ (by rfl) w.heap.size 0 (by rfl) k KY.out FK1.out ?_) | (go_at_call 52; refine (CGK.out _).mono ?_; rintro e w2 ⟨rfl, hb⟩; have H2 : Hid (Below w1.heap.size w1 w2) := hb; clear hb))
    go_ret3
    exact ⟨by rw [HF.out]; rfl, (HC.out _ H2.out).1⟩
  | true =>
  cases gt with
  | false =>
    have HF : Hid (Z = (1, none)) := by rw [if_pos (by rfl)] at HZ2; exact HZ2
    clear HZ2
    go_enter Tryz.func14, Tryz.ntmps14
    go_wp2_with (first | ((with_reducible show wpList _ _ _ (Oper.mk (some 15) _ _ _ _ _ :: _) _ _); rw [HW1.out]; refine wpList_load_keyD 15 (by rfl) (by rfl) _ (by rfl) w.heap.size 0 (by rfl) k KY.out FK1.out ?_) | (have hgo := H2.out; clear hgo; go_at_call 47; refine (CGT.out _).mono ?_; rintro e w3 ⟨rfl, hb⟩; have H3 : Hid (Below w1.heap.size w1 w3) := H2.out.trans (hb.mono H2.out.size); clear hb) | (go_at_call 52; refine (CGK.out _).mono ?_; rintro e w2 ⟨rfl, hb⟩; have H2 : Hid (Below w1.heap.size w1 w2) := hb; obtain ⟨s0, s1⟩ := FT.out w2 hb; clear hb))
    go_ret3
    exact ⟨by rw [HF.out]; rfl, (HC.out _ H3.out).1⟩
  | true =>
  rw [if_neg (by decide)] at HZ2
  by_cases hlt : now < t
  · have HF : Hid (Z = (8, none)) := by rw [if_pos (by simp [hlt])] at HZ2; exact HZ2
    clear HZ2
    go_enter Tryz.func14, Tryz.ntmps14
    go_wp2_with (first | ((with_reducible show wpList _ _ _ (Oper.mk (some 15) _ _ _ _ _ :: _) _ _); rw [HW1.out]; refine wpList_load_keyD 15 (by rfl) (by rfl) _ (by rfl) w.heap.size 0 (by rfl) k KY.out FK1.out ?_) | (have hgo := H2.out; clear hgo; go_at_call 47; refine (CGT.out _).mono ?_; rintro e w3 ⟨rfl, hb⟩; have H3 : Hid (Below w1.heap.size w1 w3) := H2.out.trans (hb.mono H2.out.size); clear s0 s1; obtain ⟨s0, s1⟩ := FT.out w3 H3.out; clear hb) | (go_at_call 52; refine (CGK.out _).mono ?_; rintro e w2 ⟨rfl, hb⟩; have H2 : Hid (Below w1.heap.size w1 w2) := hb; obtain ⟨s0, s1⟩ := FT.out w2 hb; clear hb))
    go_ret3
    exact ⟨by rw [HF.out]; rfl, (HC.out _ H3.out).1⟩
  · cases bb with
    | true =>
      have HF : Hid (Z = (8, none)) := by rw [if_pos (by simp)] at HZ2; exact HZ2
      clear HZ2
      go_enter Tryz.func14, Tryz.ntmps14
      go_wp2_with (first | ((with_reducible show wpList _ _ _ (Oper.mk (some 15) _ _ _ _ _ :: _) _ _); rw [HW1.out]; refine wpList_load_keyD 15 (by rfl) (by rfl) _ (by rfl) w.heap.size 0 (by rfl) k KY.out FK1.out ?_) | (have hgo := H2.out; clear hgo; go_at_call 47; refine (CGT.out _).mono ?_; rintro e w3 ⟨rfl, hb⟩; have H3 : Hid (Below w1.heap.size w1 w3) := H2.out.trans (hb.mono H2.out.size); clear s0 s1; obtain ⟨s0, s1⟩ := FT.out w3 H3.out; clear hb) | (go_at_call 52; refine (CGK.out _).mono ?_; rintro e w2 ⟨rfl, hb⟩; have H2 : Hid (Below w1.heap.size w1 w2) := hb; obtain ⟨s0, s1⟩ := FT.out w2 hb; clear hb))
      have FW3 : Hid (∀ u, Below w3.heap.size w3 u → Below w1.heap.size w1 u) := fun u hu => H3.out.trans (hu.mono H3.out.size)
      have FK3 : Hid (∀ u, Below w3.heap.size w3 u → KeyAt u w.heap.size 0 k) := fun u hu => FK.out u (FW3.out u hu)
      clear s0 s1
      refine wp_region_noPanic ?_
      refine wp_region_held_drew (S := fun u => Below w3.heap.size w3 u) (by kernel_rfl) ?_ (fun hHeld => ?_)
      · exact (Below.refl _ _).drew
      refine wpAnyH_take (i := 0) (v := ?_) rfl (by kernel_rfl) (by kernel_rfl) (by kernel_rfl) (fun _ _ _ h => h) (Or.inl ⟨by rfl, ?_⟩) hHeld ?_
      rotate_left
      · intro u hSu
        (go_simp) <;> (with_reducible rfl)
      change wpAnyH _ _ _ _ _ _ _ (Act.put _ (some 28) _) _
      simp only [Act.put, List.setIfInBounds_toArray, List.set_cons_zero, List.set_cons_succ]
      refine wpAnyH_take (i := 1) (v := ?_) rfl (by kernel_rfl) (by kernel_rfl) (by kernel_rfl) (fun _ _ _ h => h) (Or.inl ⟨by rfl, ?_⟩) hHeld ?_
      rotate_left
      · intro u hSu
        (go_simp) <;> (with_reducible rfl)
      change wpAnyH _ _ _ _ _ _ _ (Act.put _ (some 29) _) _
      simp only [Act.put, List.setIfInBounds_toArray, List.set_cons_zero, List.set_cons_succ]
      refine wpAnyH_take (i := 2) (v := ?_) rfl (by kernel_rfl) (by kernel_rfl) (by kernel_rfl) (fun _ _ _ h => h) (Or.inl ⟨by rfl, ?_⟩) hHeld ?_
      rotate_left
      · intro u hSu
        (go_simp) <;> (with_reducible rfl)
      change wpAnyH _ _ _ _ _ _ _ (Act.put _ (some 30) _) _
      simp only [Act.put, List.setIfInBounds_toArray, List.set_cons_zero, List.set_cons_succ]
      refine wpAnyH_take (i := 3) (v := ?_) rfl (by kernel_rfl) (by kernel_rfl) (by kernel_rfl) (fun _ _ _ h => h) (Or.inl ⟨by rfl, ?_⟩) hHeld ?_
      rotate_left
      · intro u hSu
        have q1 := (HC.out u (FW3.out u hSu)).2.2
        (go_simp) <;> (with_reducible rfl)
      change wpAnyH _ _ _ _ _ _ _ (Act.put _ (some 31) _) _
      simp only [Act.put, List.setIfInBounds_toArray, List.set_cons_zero, List.set_cons_succ]
      refine wpAnyH_take (i := 4) (v := kv k) rfl (by kernel_rfl) (by kernel_rfl) (by kernel_rfl) (fun _ _ _ h => h) (yieldsIf_load_mid (by rfl) _ _ rfl _ _ rfl (k.map (Value.int .u8)) _ (fun u hu => (FK3.out u hu).range KY.out) Tryz.underlying38 rfl (info_keyl k KY.out)) hHeld ?_
      change wpAnyH _ _ _ _ _ _ _ (Act.put _ (some 32) _) _
      simp only [Act.put, List.setIfInBounds_toArray, List.set_cons_zero, List.set_cons_succ]
      refine wpAnyH_take (i := 5) (v := ?_) rfl (by kernel_rfl) (by kernel_rfl) (by kernel_rfl) (fun _ _ _ h => h) (Or.inl ⟨by rfl, ?_⟩) hHeld ?_
      rotate_left
      · intro u hSu
        obtain ⟨s0, s1⟩ := FT.out u (FW3.out u hSu)
        (go_simp) <;> (with_reducible rfl)
      change wpAnyH _ _ _ _ _ _ _ (Act.put _ (some 33) _) _
      simp only [Act.put, List.setIfInBounds_toArray, List.set_cons_zero, List.set_cons_succ]
      refine wpAnyH_ready (rs := [6]) (by kernel_rfl) (by simp) ?_
      refine AllReadyH.cons rfl (fun K hK => ?_) AllReadyH.nil
      go_simp
      go_at_call 53
      refine (CB.out _ (HC.out _ (FW3.out _ hHeld)).1).mono ?_
      rintro e w4 ⟨rfl, hb⟩
      have B4 : Hid (Below w3.heap.size w3 w4) := hHeld.trans (hb.mono hHeld.size); clear hb
      refine hK.out _ _ ?_ (fun hHeld2 => ?_)
      · exact B4.out
      clear hK K hHeld
      have hHeld := hHeld2
      clear hHeld2
      refine wpAnyH_take (i := 7) (v := ?_) rfl (by kernel_rfl) (by kernel_rfl) (by kernel_rfl) (fun _ _ _ h => h) (Or.inl ⟨by rfl, ?_⟩) hHeld ?_
      rotate_left
      · intro u hSu
        (go_simp) <;> (with_reducible rfl)
      change wpAnyH _ _ _ _ _ _ _ (Act.put _ (some 27) _) _
      simp only [Act.put, List.setIfInBounds_toArray, List.set_cons_zero, List.set_cons_succ]
      refine wpAnyH_take (i := 8) (v := ?_) rfl (by kernel_rfl) (by kernel_rfl) (by kernel_rfl) (fun _ _ _ h => h) (Or.inl ⟨by rfl, ?_⟩) hHeld ?_
      rotate_left
      · intro u hSu
        (go_simp) <;> (with_reducible rfl)
      change wpAnyH _ _ _ _ _ _ _ (Act.put _ (some 35) _) _
      simp only [Act.put, List.setIfInBounds_toArray, List.set_cons_zero, List.set_cons_succ]
      refine wpAnyH_take (i := 9) (v := ?_) rfl (by kernel_rfl) (by kernel_rfl) (by kernel_rfl) (fun _ _ _ h => h) (Or.inl ⟨by rfl, ?_⟩) hHeld ?_
      rotate_left
      · intro u hSu
        (go_simp) <;> (with_reducible rfl)
      change wpAnyH _ _ _ _ _ _ _ (Act.put _ (some 36) _) _
      simp only [Act.put, List.setIfInBounds_toArray, List.set_cons_zero, List.set_cons_succ]
      refine wpAnyH_take (i := 10) (v := ?_) rfl (by kernel_rfl) (by kernel_rfl) (by kernel_rfl) (fun _ _ _ h => h) (Or.inl ⟨by rfl, ?_⟩) hHeld ?_
      rotate_left
      · intro u hSu
        (go_simp) <;> (with_reducible rfl)
      change wpAnyH _ _ _ _ _ _ _ (Act.put _ (some 11) _) _
      simp only [Act.put, List.setIfInBounds_toArray, List.set_cons_zero, List.set_cons_succ]
      refine wpAnyH_take (i := 11) (v := ?_) rfl (by kernel_rfl) (by kernel_rfl) (by kernel_rfl) (fun _ _ _ h => h) (Or.inl ⟨by rfl, ?_⟩) hHeld ?_
      rotate_left
      · intro u hSu
        (go_simp) <;> (with_reducible rfl)
      change wpAnyH _ _ _ _ _ _ _ (Act.put _ (some 12) _) _
      simp only [Act.put, List.setIfInBounds_toArray, List.set_cons_zero, List.set_cons_succ]
      refine wpAnyH_done (by kernel_rfl) ?_ _
      refine NoPanic.normal ?_
      have H4 : Hid (Below w1.heap.size w1 w4) := FW3.out _ B4.out
      obtain ⟨s0, s1⟩ := FT.out w4 H4.out
      go_wp2
      go_ret3
      exact ⟨by rw [HF.out]; rfl, (HC.out _ H4.out).1⟩
    | false =>
      have HF : Hid (Z = (0, G)) := by rw [if_neg (by simp [hlt])] at HZ2; exact HZ2
      clear HZ2
      go_enter Tryz.func14, Tryz.ntmps14
      go_wp2_with (first | ((with_reducible show wpList _ _ _ (Oper.mk (some 15) _ _ _ _ _ :: _) _ _); rw [HW1.out]; refine wpList_load_keyD 15 (by rfl) (by rfl) _ (by rfl) w.heap.size 0 (by rfl) k KY.out FK1.out ?_) | (have hgo := H2.out; clear hgo; go_at_call 47; refine (CGT.out _).mono ?_; rintro e w3 ⟨rfl, hb⟩; have H3 : Hid (Below w1.heap.size w1 w3) := H2.out.trans (hb.mono H2.out.size); clear s0 s1; obtain ⟨s0, s1⟩ := FT.out w3 H3.out; clear hb) | (go_at_call 52; refine (CGK.out _).mono ?_; rintro e w2 ⟨rfl, hb⟩; have H2 : Hid (Below w1.heap.size w1 w2) := hb; obtain ⟨s0, s1⟩ := FT.out w2 hb; clear hb))
      have FW3 : Hid (∀ u, Below w3.heap.size w3 u → Below w1.heap.size w1 u) := fun u hu => H3.out.trans (hu.mono H3.out.size)
      have FK3 : Hid (∀ u, Below w3.heap.size w3 u → KeyAt u w.heap.size 0 k) := fun u hu => FK.out u (FW3.out u hu)
      clear s0 s1
      refine wp_region_noPanic ?_
      refine wp_region_held_drew (S := fun u => Below w3.heap.size w3 u) (by kernel_rfl) ?_ (fun hHeld => ?_)
      · exact (Below.refl _ _).drew
      refine wpAnyH_take (i := 0) (v := ?_) rfl (by kernel_rfl) (by kernel_rfl) (by kernel_rfl) (fun _ _ _ h => h) (Or.inl ⟨by rfl, ?_⟩) hHeld ?_
      rotate_left
      · intro u hSu
        (go_simp) <;> (with_reducible rfl)
      change wpAnyH _ _ _ _ _ _ _ (Act.put _ (some 28) _) _
      simp only [Act.put, List.setIfInBounds_toArray, List.set_cons_zero, List.set_cons_succ]
      refine wpAnyH_take (i := 1) (v := ?_) rfl (by kernel_rfl) (by kernel_rfl) (by kernel_rfl) (fun _ _ _ h => h) (Or.inl ⟨by rfl, ?_⟩) hHeld ?_
      rotate_left
      · intro u hSu
        (go_simp) <;> (with_reducible rfl)
      change wpAnyH _ _ _ _ _ _ _ (Act.put _ (some 29) _) _
      simp only [Act.put, List.setIfInBounds_toArray, List.set_cons_zero, List.set_cons_succ]
      refine wpAnyH_take (i := 2) (v := ?_) rfl (by kernel_rfl) (by kernel_rfl) (by kernel_rfl) (fun _ _ _ h => h) (Or.inl ⟨by rfl, ?_⟩) hHeld ?_
      rotate_left
      · intro u hSu
        (go_simp) <;> (with_reducible rfl)
      change wpAnyH _ _ _ _ _ _ _ (Act.put _ (some 30) _) _
      simp only [Act.put, List.setIfInBounds_toArray, List.set_cons_zero, List.set_cons_succ]
      refine wpAnyH_take (i := 3) (v := ?_) rfl (by kernel_rfl) (by kernel_rfl) (by kernel_rfl) (fun _ _ _ h => h) (Or.inl ⟨by rfl, ?_⟩) hHeld ?_
      rotate_left
      · intro u hSu
        have q1 := (HC.out u (FW3.out u hSu)).2.2
        (go_simp) <;> (with_reducible rfl)
      change wpAnyH _ _ _ _ _ _ _ (Act.put _ (some 31) _) _
      simp only [Act.put, List.setIfInBounds_toArray, List.set_cons_zero, List.set_cons_succ]
      refine wpAnyH_take (i := 4) (v := kv k) rfl (by kernel_rfl) (by kernel_rfl) (by kernel_rfl) (fun _ _ _ h => h) (yieldsIf_load_mid (by rfl) _ _ rfl _ _ rfl (k.map (Value.int .u8)) _ (fun u hu => (FK3.out u hu).range KY.out) Tryz.underlying38 rfl (info_keyl k KY.out)) hHeld ?_
      change wpAnyH _ _ _ _ _ _ _ (Act.put _ (some 32) _) _
      simp only [Act.put, List.setIfInBounds_toArray, List.set_cons_zero, List.set_cons_succ]
      refine wpAnyH_take (i := 5) (v := ?_) rfl (by kernel_rfl) (by kernel_rfl) (by kernel_rfl) (fun _ _ _ h => h) (Or.inl ⟨by rfl, ?_⟩) hHeld ?_
      rotate_left
      · intro u hSu
        obtain ⟨s0, s1⟩ := FT.out u (FW3.out u hSu)
        (go_simp) <;> (with_reducible rfl)
      change wpAnyH _ _ _ _ _ _ _ (Act.put _ (some 33) _) _
      simp only [Act.put, List.setIfInBounds_toArray, List.set_cons_zero, List.set_cons_succ]
      refine wpAnyH_ready (rs := [6]) (by kernel_rfl) (by simp) ?_
      refine AllReadyH.cons rfl (fun K hK => ?_) AllReadyH.nil
      go_simp
      go_at_call 53
      refine (CB.out _ (HC.out _ (FW3.out _ hHeld)).1).mono ?_
      rintro e w4 ⟨rfl, hb⟩
      have B4 : Hid (Below w3.heap.size w3 w4) := hHeld.trans (hb.mono hHeld.size); clear hb
      refine hK.out _ _ ?_ (fun hHeld2 => ?_)
      · exact B4.out
      clear hK K hHeld
      have hHeld := hHeld2
      clear hHeld2
      refine wpAnyH_take (i := 7) (v := ?_) rfl (by kernel_rfl) (by kernel_rfl) (by kernel_rfl) (fun _ _ _ h => h) (Or.inl ⟨by rfl, ?_⟩) hHeld ?_
      rotate_left
      · intro u hSu
        (go_simp) <;> (with_reducible rfl)
      change wpAnyH _ _ _ _ _ _ _ (Act.put _ (some 27) _) _
      simp only [Act.put, List.setIfInBounds_toArray, List.set_cons_zero, List.set_cons_succ]
      refine wpAnyH_take (i := 8) (v := ?_) rfl (by kernel_rfl) (by kernel_rfl) (by kernel_rfl) (fun _ _ _ h => h) (Or.inl ⟨by rfl, ?_⟩) hHeld ?_
      rotate_left
      · intro u hSu
        (go_simp) <;> (with_reducible rfl)
      change wpAnyH _ _ _ _ _ _ _ (Act.put _ (some 35) _) _
      simp only [Act.put, List.setIfInBounds_toArray, List.set_cons_zero, List.set_cons_succ]
      refine wpAnyH_take (i := 9) (v := ?_) rfl (by kernel_rfl) (by kernel_rfl) (by kernel_rfl) (fun _ _ _ h => h) (Or.inl ⟨by rfl, ?_⟩) hHeld ?_
      rotate_left
      · intro u hSu
        (go_simp) <;> (with_reducible rfl)
      change wpAnyH _ _ _ _ _ _ _ (Act.put _ (some 36) _) _
      simp only [Act.put, List.setIfInBounds_toArray, List.set_cons_zero, List.set_cons_succ]
      refine wpAnyH_take (i := 10) (v := ?_) rfl (by kernel_rfl) (by kernel_rfl) (by kernel_rfl) (fun _ _ _ h => h) (Or.inl ⟨by rfl, ?_⟩) hHeld ?_
      rotate_left
      · intro u hSu
        (go_simp) <;> (with_reducible rfl)
      change wpAnyH _ _ _ _ _ _ _ (Act.put _ (some 11) _) _
      simp only [Act.put, List.setIfInBounds_toArray, List.set_cons_zero, List.set_cons_succ]
      refine wpAnyH_take (i := 11) (v := ?_) rfl (by kernel_rfl) (by kernel_rfl) (by kernel_rfl) (fun _ _ _ h => h) (Or.inl ⟨by rfl, ?_⟩) hHeld ?_
      rotate_left
      · intro u hSu
        (go_simp) <;> (with_reducible rfl)
      change wpAnyH _ _ _ _ _ _ _ (Act.put _ (some 12) _) _
      simp only [Act.put, List.setIfInBounds_toArray, List.set_cons_zero, List.set_cons_succ]
      refine wpAnyH_done (by kernel_rfl) ?_ _
      refine NoPanic.normal ?_
      have H4 : Hid (Below w1.heap.size w1 w4) := FW3.out _ B4.out
      obtain ⟨s0, s1⟩ := FT.out w4 H4.out
      go_wp2
      have FW4 : Hid (∀ u, Below w4.heap.size w4 u → Below w1.heap.size w1 u) := fun u hu => H4.out.trans (hu.mono H4.out.size)
      have FK4 : Hid (∀ u, Below w4.heap.size w4 u → KeyAt u w.heap.size 0 k) := fun u hu => FK.out u (FW4.out u hu)
      clear s0 s1
      refine wp_region_noPanic ?_
      refine wp_region_held_drew (S := fun u => Below w4.heap.size w4 u) (by kernel_rfl) ?_ (fun hHeld => ?_)
      · exact (Below.refl _ _).drew
      refine wpAnyH_take (i := 0) (v := ?_) rfl (by kernel_rfl) (by kernel_rfl) (by kernel_rfl) (fun _ _ _ h => h) (Or.inl ⟨by rfl, ?_⟩) hHeld ?_
      rotate_left
      · intro u hSu
        (go_simp) <;> (with_reducible rfl)
      change wpAnyH _ _ _ _ _ _ _ (Act.put _ (some 39) _) _
      simp only [Act.put, List.setIfInBounds_toArray, List.set_cons_zero, List.set_cons_succ]
      refine wpAnyH_take (i := 1) (v := ?_) rfl (by kernel_rfl) (by kernel_rfl) (by kernel_rfl) (fun _ _ _ h => h) (Or.inl ⟨by rfl, ?_⟩) hHeld ?_
      rotate_left
      · intro u hSu
        (go_simp) <;> (with_reducible rfl)
      change wpAnyH _ _ _ _ _ _ _ (Act.put _ (some 40) _) _
      simp only [Act.put, List.setIfInBounds_toArray, List.set_cons_zero, List.set_cons_succ]
      refine wpAnyH_take (i := 2) (v := ?_) rfl (by kernel_rfl) (by kernel_rfl) (by kernel_rfl) (fun _ _ _ h => h) (Or.inl ⟨by rfl, ?_⟩) hHeld ?_
      rotate_left
      · intro u hSu
        (go_simp) <;> (with_reducible rfl)
      change wpAnyH _ _ _ _ _ _ _ (Act.put _ (some 41) _) _
      simp only [Act.put, List.setIfInBounds_toArray, List.set_cons_zero, List.set_cons_succ]
      refine wpAnyH_take (i := 3) (v := ?_) rfl (by kernel_rfl) (by kernel_rfl) (by kernel_rfl) (fun _ _ _ h => h) (Or.inl ⟨by rfl, ?_⟩) hHeld ?_
      rotate_left
      · intro u hSu
        have q0 := (HC.out u (FW4.out u hSu)).2.1
        (go_simp) <;> (with_reducible rfl)
      change wpAnyH _ _ _ _ _ _ _ (Act.put _ (some 42) _) _
      simp only [Act.put, List.setIfInBounds_toArray, List.set_cons_zero, List.set_cons_succ]
      refine wpAnyH_take (i := 4) (v := kv k) rfl (by kernel_rfl) (by kernel_rfl) (by kernel_rfl) (fun _ _ _ h => h) (yieldsIf_load_mid (by rfl) _ _ rfl _ _ rfl (k.map (Value.int .u8)) _ (fun u hu => (FK4.out u hu).range KY.out) Tryz.underlying38 rfl (info_keyl k KY.out)) hHeld ?_
      change wpAnyH _ _ _ _ _ _ _ (Act.put _ (some 43) _) _
      simp only [Act.put, List.setIfInBounds_toArray, List.set_cons_zero, List.set_cons_succ]
      refine wpAnyH_take (i := 5) (v := ?_) rfl (by kernel_rfl) (by kernel_rfl) (by kernel_rfl) (fun _ _ _ h => h) (Or.inl ⟨by rfl, ?_⟩) hHeld ?_
      rotate_left
      · intro u hSu
        obtain ⟨s0, s1⟩ := FT.out u (FW4.out u hSu)
        (go_simp) <;> (with_reducible rfl)
      change wpAnyH _ _ _ _ _ _ _ (Act.put _ (some 44) _) _
      simp only [Act.put, List.setIfInBounds_toArray, List.set_cons_zero, List.set_cons_succ]
      refine wpAnyH_ready (rs := [6]) (by kernel_rfl) (by simp) ?_
      refine AllReadyH.cons rfl (fun K hK => ?_) AllReadyH.nil
      go_simp
      go_at_call 54
      refine (CR.out _ (HC.out _ (FW4.out _ hHeld)).1).mono ?_
      rintro e w5 ⟨rfl, hb⟩
      have B5 : Hid (Below w4.heap.size w4 w5) := hHeld.trans (hb.mono hHeld.size); clear hb
      refine hK.out _ _ ?_ (fun hHeld2 => ?_)
      · exact B5.out
      clear hK K hHeld
      have hHeld := hHeld2
      clear hHeld2
      refine wpAnyH_take (i := 7) (v := ?_) rfl (by kernel_rfl) (by kernel_rfl) (by kernel_rfl) (fun _ _ _ h => h) (Or.inl ⟨by rfl, ?_⟩) hHeld ?_
      rotate_left
      · intro u hSu
        (go_simp) <;> (with_reducible rfl)
      change wpAnyH _ _ _ _ _ _ _ (Act.put _ (some 38) _) _
      simp only [Act.put, List.setIfInBounds_toArray, List.set_cons_zero, List.set_cons_succ]
      refine wpAnyH_take (i := 8) (v := ?_) rfl (by kernel_rfl) (by kernel_rfl) (by kernel_rfl) (fun _ _ _ h => h) (Or.inl ⟨by rfl, ?_⟩) hHeld ?_
      rotate_left
      · intro u hSu
        (go_simp) <;> (with_reducible rfl)
      change wpAnyH _ _ _ _ _ _ _ (Act.put _ (some 46) _) _
      simp only [Act.put, List.setIfInBounds_toArray, List.set_cons_zero, List.set_cons_succ]
      refine wpAnyH_take (i := 9) (v := ?_) rfl (by kernel_rfl) (by kernel_rfl) (by kernel_rfl) (fun _ _ _ h => h) (Or.inl ⟨by rfl, ?_⟩) hHeld ?_
      rotate_left
      · intro u hSu
        (go_simp) <;> (with_reducible rfl)
      change wpAnyH _ _ _ _ _ _ _ (Act.put _ (some 47) _) _
      simp only [Act.put, List.setIfInBounds_toArray, List.set_cons_zero, List.set_cons_succ]
      refine wpAnyH_take (i := 10) (v := ?_) rfl (by kernel_rfl) (by kernel_rfl) (by kernel_rfl) (fun _ _ _ h => h) (Or.inl ⟨by rfl, ?_⟩) hHeld ?_
      rotate_left
      · intro u hSu
        (go_simp) <;> (with_reducible rfl)
      change wpAnyH _ _ _ _ _ _ _ (Act.put _ (some 13) _) _
      simp only [Act.put, List.setIfInBounds_toArray, List.set_cons_zero, List.set_cons_succ]
      refine wpAnyH_take (i := 11) (v := ?_) rfl (by kernel_rfl) (by kernel_rfl) (by kernel_rfl) (fun _ _ _ h => h) (Or.inl ⟨by rfl, ?_⟩) hHeld ?_
      rotate_left
      · intro u hSu
        (go_simp) <;> (with_reducible rfl)
      change wpAnyH _ _ _ _ _ _ _ (Act.put _ (some 14) _) _
      simp only [Act.put, List.setIfInBounds_toArray, List.set_cons_zero, List.set_cons_succ]
      refine wpAnyH_done (by kernel_rfl) ?_ _
      refine NoPanic.normal ?_
      have H5 : Hid (Below w1.heap.size w1 w5) := FW4.out _ B5.out
      go_wp2
      go_ret3
      exact ⟨by rw [HF.out, HSG.out, HOG.out]; rfl, (HC.out _ H5.out).1⟩
end Go.Proofs.YtileidbdmpeciaaGreat

namespace Go.Proofs.YtileidbdmpeciaaGreat
open Go.RowKit
set_option linter.unusedVariables false

set_option maxHeartbeats 2000000 in
theorem paib_any (a : Option Addr) (N cap : Nat) (l : List Wrt) (P : Wrt → Bool) (x1 x2 : Nat) (w : World) (hl : l.length = N) (hc : N ≤ cap) (hN : N ≤ 1000000) (hat : WrtsAt w a l)
    (hcc : ∀ W ∈ l, ∀ u, Below w.heap.size w u → Calls Tryz.prog 106 #[wv W, .pointer (some ⟨x1, 0, none⟩), .pointer (some ⟨x2, 0, none⟩)] u fun e w' => e = .returned (.bool (P W)) ∧ Below u.heap.size u w') :
    Calls Tryz.prog 124 #[.slice a N cap, .func (.func 106) #[] #[.pointer (some ⟨x1, 0, none⟩), .pointer (some ⟨x2, 0, none⟩)]] w fun e w' => (∃ i : Int, e = .returned (.int .i64 i) ∧ -1 ≤ i ∧ i ≤ 1000000 ∧ (0 ≤ i ↔ l.any P = true)) ∧ Below w.heap.size w w' := by
  have HL : Hid (l.length = N) := hl
  have HA : Hid (WrtsAt w a l) := hat
  have HC : Hid (∀ W ∈ l, ∀ u, Below w.heap.size w u → Calls Tryz.prog 106 #[wv W, .pointer (some ⟨x1, 0, none⟩), .pointer (some ⟨x2, 0, none⟩)] u fun e w' => e = .returned (.bool (P W)) ∧ Below u.heap.size u w') := hcc
  clear hl hat hcc
  go_enter Tryz.func124, Tryz.ntmps124
  go_wp2
  go_loopw [8] (fun i wr => ∃ n : Nat, n ≤ N ∧ i = .int .i64 n ∧ Hid (IdxSk w wr P l n)) (fun i _ => N - (intOf i).toNat)
  case atStart => exact ⟨0, Nat.zero_le _, rfl, ⟨Below.refl _ _, fun W hW => by simp at hW⟩⟩
  case round =>
    obtain ⟨n, hn, rfl, HS⟩ := hrel
    have hn0 : (0 : Int) ≤ (n : Int) := by omega
    by_cases hlt : n < N
    · have h1 : (n : Int) < (N : Int) := by omega
      obtain ⟨W, hW⟩ : ∃ W, l[n]? = some W := ⟨_, List.getElem?_eq_getElem (by rw [HL.out]; exact hlt)⟩
      obtain ⟨b, o, rfl, hwa, hwo⟩ := (HA.out.past (w' := wr) HS.out.below).wrt hW
      have HWA : Hid (WrtAt wr b (o + n * 18) W) := hwa
      have HT : Hid (l.take (n + 1) = l.take n ++ [W]) := by show _ = _; rw [List.take_add_one, hW]; rfl
      have HWM : Hid (W ∈ l) := List.mem_of_getElem? hW
      have KW : Hid (Ky W.k) := hwo.key
      have CG0 := HC.out W HWM.out wr HS.out.below
      obtain ⟨pw, hpw⟩ : ∃ x, x = P W := ⟨_, rfl⟩
      have HPW : Hid (pw = P W) := hpw
      rw [← hpw] at CG0
      have CG : Hid (Calls Tryz.prog 106 #[wv W, .pointer (some ⟨x1, 0, none⟩), .pointer (some ⟨x2, 0, none⟩)] wr fun e w' => e = .returned (.bool pw) ∧ Below wr.heap.size wr w') := CG0
      clear hwa hwo hW CG0 hpw
      cases pw with
      | true =>
        go_wp2_with (first | (have hgo := HWA.out; clear hgo; refine wpList_load_wrt 15 (by rfl) (by rfl) _ (by rfl) b (o + n * 18) (by rfl) W KW.out HWA.out ?_) | (go_at_call 106; refine CG.out.mono ?_; rintro e w3 ⟨rfl, hb3⟩; have H3 : Hid (Below w.heap.size w w3) := HS.out.below.trans (hb3.mono HS.out.below.size); clear hb3))
        go_ret
        refine ⟨⟨(n : Int), rfl, by omega, by omega, ?_⟩, H3.out⟩
        exact ⟨fun _ => List.any_eq_true.2 ⟨W, HWM.out, HPW.out.symm⟩, fun _ => hn0⟩
      | false =>
        go_wp2_with (first | (have hgo := HWA.out; clear hgo; refine wpList_load_wrt 15 (by rfl) (by rfl) _ (by rfl) b (o + n * 18) (by rfl) W KW.out HWA.out ?_) | (go_at_call 106; refine CG.out.mono ?_; rintro e w3 ⟨rfl, hb3⟩; have H3 : Hid (IdxSk w w3 P l (n + 1)) := ⟨HS.out.below.trans (hb3.mono HS.out.below.size), fun V hV => by rw [HT.out] at hV; rcases List.mem_append.1 hV with e | e; exact HS.out.none V e; simp at e; rw [e]; exact HPW.out.symm⟩; clear hb3))
        go_roundw
        case rel => exact ⟨n + 1, by omega, by go_num, H3⟩
        case measure => simp [intOf]; omega
    · obtain rfl : n = N := by omega
      have HT : Hid (l.take n = l) := List.take_of_length_le (by rw [HL.out]; exact Nat.le_refl _)
      go_wp2
      go_ret
      refine ⟨⟨-1, rfl, by omega, by omega, fun e => by omega, fun e => ?_⟩, HS.out.below⟩
      obtain ⟨W, hW, e2⟩ := List.any_eq_true.1 e
      rw [HS.out.none W (by rw [HT.out]; exact hW)] at e2
      cases e2
theorem pacb_any (a : Option Addr) (N cap : Nat) (l : List Wrt) (P : Wrt → Bool) (x1 x2 : Nat) (w : World) (hl : l.length = N) (hc : N ≤ cap) (hN : N ≤ 1000000) (hat : WrtsAt w a l)
    (hcc : ∀ W ∈ l, ∀ u, Below w.heap.size w u → Calls Tryz.prog 106 #[wv W, .pointer (some ⟨x1, 0, none⟩), .pointer (some ⟨x2, 0, none⟩)] u fun e w' => e = .returned (.bool (P W)) ∧ Below u.heap.size u w') :
    Calls Tryz.prog 83 #[.slice a N cap, .func (.func 106) #[] #[.pointer (some ⟨x1, 0, none⟩), .pointer (some ⟨x2, 0, none⟩)]] w fun e w' => e = .returned (.bool (l.any P)) ∧ Below w.heap.size w w' := by
  have CI : Hid (Calls Tryz.prog 124 #[.slice a N cap, .func (.func 106) #[] #[.pointer (some ⟨x1, 0, none⟩), .pointer (some ⟨x2, 0, none⟩)]] w fun e w' => (∃ i : Int, e = .returned (.int .i64 i) ∧ -1 ≤ i ∧ i ≤ 1000000 ∧ (0 ≤ i ↔ l.any P = true)) ∧ Below w.heap.size w w') := paib_any a N cap l P x1 x2 w hl hc hN hat hcc
  obtain ⟨R, hR⟩ : ∃ R, R = l.any P := ⟨_, rfl⟩
  rw [← hR] at CI ⊢
  clear hl hat hcc hR
  go_enter Tryz.func83, Tryz.ntmps83
  go_wp2_with (go_at_call 124; refine CI.out.mono ?_; rintro e w1 ⟨⟨i, rfl, hi1, hi2, hi3⟩, hb1⟩; have HI : Hid (0 ≤ i ↔ R = true) := hi3; have HB : Hid (Below w.heap.size w w1) := hb1; clear hi3 hb1)
  go_ret
  refine ⟨?_, HB.out⟩
  by_cases h : 0 ≤ i
  · rw [HI.out.1 h]; simp [h]
  · have : R = false := by
      cases hR : R with
      | false => rfl
      | true => exact absurd (HI.out.2 hR) h
    rw [this]; simp [h]
set_option maxHeartbeats 2000000 in
theorem paic_any (a : Option Addr) (N cap : Nat) (l : List Wrt) (P : Wrt → Bool) (x1 x2 : Nat) (w : World) (hl : l.length = N) (hc : N ≤ cap) (hN : N ≤ 1000000) (hat : WrtsAt w a l)
    (hcc : ∀ W ∈ l, ∀ u, Below w.heap.size w u → Calls Tryz.prog 84 #[wv W, .pointer (some ⟨x1, 0, none⟩), .pointer (some ⟨x2, 0, none⟩)] u fun e w' => e = .returned (.bool (P W)) ∧ Below u.heap.size u w') :
    Calls Tryz.prog 124 #[.slice a N cap, .func (.func 84) #[] #[.pointer (some ⟨x1, 0, none⟩), .pointer (some ⟨x2, 0, none⟩)]] w fun e w' => (∃ i : Int, e = .returned (.int .i64 i) ∧ -1 ≤ i ∧ i ≤ 1000000 ∧ (0 ≤ i ↔ l.any P = true)) ∧ Below w.heap.size w w' := by
  have HL : Hid (l.length = N) := hl
  have HA : Hid (WrtsAt w a l) := hat
  have HC : Hid (∀ W ∈ l, ∀ u, Below w.heap.size w u → Calls Tryz.prog 84 #[wv W, .pointer (some ⟨x1, 0, none⟩), .pointer (some ⟨x2, 0, none⟩)] u fun e w' => e = .returned (.bool (P W)) ∧ Below u.heap.size u w') := hcc
  clear hl hat hcc
  go_enter Tryz.func124, Tryz.ntmps124
  go_wp2
  go_loopw [8] (fun i wr => ∃ n : Nat, n ≤ N ∧ i = .int .i64 n ∧ Hid (IdxSk w wr P l n)) (fun i _ => N - (intOf i).toNat)
  case atStart => exact ⟨0, Nat.zero_le _, rfl, ⟨Below.refl _ _, fun W hW => by simp at hW⟩⟩
  case round =>
    obtain ⟨n, hn, rfl, HS⟩ := hrel
    have hn0 : (0 : Int) ≤ (n : Int) := by omega
    by_cases hlt : n < N
    · have h1 : (n : Int) < (N : Int) := by omega
      obtain ⟨W, hW⟩ : ∃ W, l[n]? = some W := ⟨_, List.getElem?_eq_getElem (by rw [HL.out]; exact hlt)⟩
      obtain ⟨b, o, rfl, hwa, hwo⟩ := (HA.out.past (w' := wr) HS.out.below).wrt hW
      have HWA : Hid (WrtAt wr b (o + n * 18) W) := hwa
      have HT : Hid (l.take (n + 1) = l.take n ++ [W]) := by show _ = _; rw [List.take_add_one, hW]; rfl
      have HWM : Hid (W ∈ l) := List.mem_of_getElem? hW
      have KW : Hid (Ky W.k) := hwo.key
      have CG0 := HC.out W HWM.out wr HS.out.below
      obtain ⟨pw, hpw⟩ : ∃ x, x = P W := ⟨_, rfl⟩
      have HPW : Hid (pw = P W) := hpw
      rw [← hpw] at CG0
      have CG : Hid (Calls Tryz.prog 84 #[wv W, .pointer (some ⟨x1, 0, none⟩), .pointer (some ⟨x2, 0, none⟩)] wr fun e w' => e = .returned (.bool pw) ∧ Below wr.heap.size wr w') := CG0
      clear hwa hwo hW CG0 hpw
      cases pw with
      | true =>
        go_wp2_with (first | (have hgo := HWA.out; clear hgo; refine wpList_load_wrt 15 (by rfl) (by rfl) _ (by rfl) b (o + n * 18) (by rfl) W KW.out HWA.out ?_) | (go_at_call 84; refine CG.out.mono ?_; rintro e w3 ⟨rfl, hb3⟩; have H3 : Hid (Below w.heap.size w w3) := HS.out.below.trans (hb3.mono HS.out.below.size); clear hb3))
        go_ret
        refine ⟨⟨(n : Int), rfl, by omega, by omega, ?_⟩, H3.out⟩
        exact ⟨fun _ => List.any_eq_true.2 ⟨W, HWM.out, HPW.out.symm⟩, fun _ => hn0⟩
      | false =>
        go_wp2_with (first | (have hgo := HWA.out; clear hgo; refine wpList_load_wrt 15 (by rfl) (by rfl) _ (by rfl) b (o + n * 18) (by rfl) W KW.out HWA.out ?_) | (go_at_call 84; refine CG.out.mono ?_; rintro e w3 ⟨rfl, hb3⟩; have H3 : Hid (IdxSk w w3 P l (n + 1)) := ⟨HS.out.below.trans (hb3.mono HS.out.below.size), fun V hV => by rw [HT.out] at hV; rcases List.mem_append.1 hV with e | e; exact HS.out.none V e; simp at e; rw [e]; exact HPW.out.symm⟩; clear hb3))
        go_roundw
        case rel => exact ⟨n + 1, by omega, by go_num, H3⟩
        case measure => simp [intOf]; omega
    · obtain rfl : n = N := by omega
      have HT : Hid (l.take n = l) := List.take_of_length_le (by rw [HL.out]; exact Nat.le_refl _)
      go_wp2
      go_ret
      refine ⟨⟨-1, rfl, by omega, by omega, fun e => by omega, fun e => ?_⟩, HS.out.below⟩
      obtain ⟨W, hW, e2⟩ := List.any_eq_true.1 e
      rw [HS.out.none W (by rw [HT.out]; exact hW)] at e2
      cases e2
theorem pacc_any (a : Option Addr) (N cap : Nat) (l : List Wrt) (P : Wrt → Bool) (x1 x2 : Nat) (w : World) (hl : l.length = N) (hc : N ≤ cap) (hN : N ≤ 1000000) (hat : WrtsAt w a l)
    (hcc : ∀ W ∈ l, ∀ u, Below w.heap.size w u → Calls Tryz.prog 84 #[wv W, .pointer (some ⟨x1, 0, none⟩), .pointer (some ⟨x2, 0, none⟩)] u fun e w' => e = .returned (.bool (P W)) ∧ Below u.heap.size u w') :
    Calls Tryz.prog 83 #[.slice a N cap, .func (.func 84) #[] #[.pointer (some ⟨x1, 0, none⟩), .pointer (some ⟨x2, 0, none⟩)]] w fun e w' => e = .returned (.bool (l.any P)) ∧ Below w.heap.size w w' := by
  have CI : Hid (Calls Tryz.prog 124 #[.slice a N cap, .func (.func 84) #[] #[.pointer (some ⟨x1, 0, none⟩), .pointer (some ⟨x2, 0, none⟩)]] w fun e w' => (∃ i : Int, e = .returned (.int .i64 i) ∧ -1 ≤ i ∧ i ≤ 1000000 ∧ (0 ≤ i ↔ l.any P = true)) ∧ Below w.heap.size w w') := paic_any a N cap l P x1 x2 w hl hc hN hat hcc
  obtain ⟨R, hR⟩ : ∃ R, R = l.any P := ⟨_, rfl⟩
  rw [← hR] at CI ⊢
  clear hl hat hcc hR
  go_enter Tryz.func83, Tryz.ntmps83
  go_wp2_with (go_at_call 124; refine CI.out.mono ?_; rintro e w1 ⟨⟨i, rfl, hi1, hi2, hi3⟩, hb1⟩; have HI : Hid (0 ≤ i ↔ R = true) := hi3; have HB : Hid (Below w.heap.size w w1) := hb1; clear hi3 hb1)
  go_ret
  refine ⟨?_, HB.out⟩
  by_cases h : 0 ≤ i
  · rw [HI.out.1 h]; simp [h]
  · have : R = false := by
      cases hR : R with
      | false => rfl
      | true => exact absurd (HI.out.2 hR) h
    rw [this]; simp [h]
set_option maxHeartbeats 2000000 in
theorem paif_any (a : Option Addr) (N cap : Nat) (l : List Wrt) (P : Wrt → Bool) (x1 : Nat) (w : World) (hl : l.length = N) (hc : N ≤ cap) (hN : N ≤ 1000000) (hat : WrtsAt w a l)
    (hcc : ∀ W ∈ l, ∀ u, Below w.heap.size w u → Calls Tryz.prog 87 #[wv W, .pointer (some ⟨x1, 0, none⟩)] u fun e w' => e = .returned (.bool (P W)) ∧ Below u.heap.size u w') :
    Calls Tryz.prog 124 #[.slice a N cap, .func (.func 87) #[] #[.pointer (some ⟨x1, 0, none⟩)]] w fun e w' => (∃ i : Int, e = .returned (.int .i64 i) ∧ -1 ≤ i ∧ i ≤ 1000000 ∧ (0 ≤ i ↔ l.any P = true)) ∧ Below w.heap.size w w' := by
  have HL : Hid (l.length = N) := hl
  have HA : Hid (WrtsAt w a l) := hat
  have HC : Hid (∀ W ∈ l, ∀ u, Below w.heap.size w u → Calls Tryz.prog 87 #[wv W, .pointer (some ⟨x1, 0, none⟩)] u fun e w' => e = .returned (.bool (P W)) ∧ Below u.heap.size u w') := hcc
  clear hl hat hcc
  go_enter Tryz.func124, Tryz.ntmps124
  go_wp2
  go_loopw [8] (fun i wr => ∃ n : Nat, n ≤ N ∧ i = .int .i64 n ∧ Hid (IdxSk w wr P l n)) (fun i _ => N - (intOf i).toNat)
  case atStart => exact ⟨0, Nat.zero_le _, rfl, ⟨Below.refl _ _, fun W hW => by simp at hW⟩⟩
  case round =>
    obtain ⟨n, hn, rfl, HS⟩ := hrel
    have hn0 : (0 : Int) ≤ (n : Int) := by omega
    by_cases hlt : n < N
    · have h1 : (n : Int) < (N : Int) := by omega
      obtain ⟨W, hW⟩ : ∃ W, l[n]? = some W := ⟨_, List.getElem?_eq_getElem (by rw [HL.out]; exact hlt)⟩
      obtain ⟨b, o, rfl, hwa, hwo⟩ := (HA.out.past (w' := wr) HS.out.below).wrt hW
      have HWA : Hid (WrtAt wr b (o + n * 18) W) := hwa
      have HT : Hid (l.take (n + 1) = l.take n ++ [W]) := by show _ = _; rw [List.take_add_one, hW]; rfl
      have HWM : Hid (W ∈ l) := List.mem_of_getElem? hW
      have KW : Hid (Ky W.k) := hwo.key
      have CG0 := HC.out W HWM.out wr HS.out.below
      obtain ⟨pw, hpw⟩ : ∃ x, x = P W := ⟨_, rfl⟩
      have HPW : Hid (pw = P W) := hpw
      rw [← hpw] at CG0
      have CG : Hid (Calls Tryz.prog 87 #[wv W, .pointer (some ⟨x1, 0, none⟩)] wr fun e w' => e = .returned (.bool pw) ∧ Below wr.heap.size wr w') := CG0
      clear hwa hwo hW CG0 hpw
      cases pw with
      | true =>
        go_wp2_with (first | (have hgo := HWA.out; clear hgo; refine wpList_load_wrt 15 (by rfl) (by rfl) _ (by rfl) b (o + n * 18) (by rfl) W KW.out HWA.out ?_) | (go_at_call 87; refine CG.out.mono ?_; rintro e w3 ⟨rfl, hb3⟩; have H3 : Hid (Below w.heap.size w w3) := HS.out.below.trans (hb3.mono HS.out.below.size); clear hb3))
        go_ret
        refine ⟨⟨(n : Int), rfl, by omega, by omega, ?_⟩, H3.out⟩
        exact ⟨fun _ => List.any_eq_true.2 ⟨W, HWM.out, HPW.out.symm⟩, fun _ => hn0⟩
      | false =>
        go_wp2_with (first | (have hgo := HWA.out; clear hgo; refine wpList_load_wrt 15 (by rfl) (by rfl) _ (by rfl) b (o + n * 18) (by rfl) W KW.out HWA.out ?_) | (go_at_call 87; refine CG.out.mono ?_; rintro e w3 ⟨rfl, hb3⟩; have H3 : Hid (IdxSk w w3 P l (n + 1)) := ⟨HS.out.below.trans (hb3.mono HS.out.below.size), fun V hV => by rw [HT.out] at hV; rcases List.mem_append.1 hV with e | e; exact HS.out.none V e; simp at e; rw [e]; exact HPW.out.symm⟩; clear hb3))
        go_roundw
        case rel => exact ⟨n + 1, by omega, by go_num, H3⟩
        case measure => simp [intOf]; omega
    · obtain rfl : n = N := by omega
      have HT : Hid (l.take n = l) := List.take_of_length_le (by rw [HL.out]; exact Nat.le_refl _)
      go_wp2
      go_ret
      refine ⟨⟨-1, rfl, by omega, by omega, fun e => by omega, fun e => ?_⟩, HS.out.below⟩
      obtain ⟨W, hW, e2⟩ := List.any_eq_true.1 e
      rw [HS.out.none W (by rw [HT.out]; exact hW)] at e2
      cases e2
theorem pacf_any (a : Option Addr) (N cap : Nat) (l : List Wrt) (P : Wrt → Bool) (x1 : Nat) (w : World) (hl : l.length = N) (hc : N ≤ cap) (hN : N ≤ 1000000) (hat : WrtsAt w a l)
    (hcc : ∀ W ∈ l, ∀ u, Below w.heap.size w u → Calls Tryz.prog 87 #[wv W, .pointer (some ⟨x1, 0, none⟩)] u fun e w' => e = .returned (.bool (P W)) ∧ Below u.heap.size u w') :
    Calls Tryz.prog 83 #[.slice a N cap, .func (.func 87) #[] #[.pointer (some ⟨x1, 0, none⟩)]] w fun e w' => e = .returned (.bool (l.any P)) ∧ Below w.heap.size w w' := by
  have CI : Hid (Calls Tryz.prog 124 #[.slice a N cap, .func (.func 87) #[] #[.pointer (some ⟨x1, 0, none⟩)]] w fun e w' => (∃ i : Int, e = .returned (.int .i64 i) ∧ -1 ≤ i ∧ i ≤ 1000000 ∧ (0 ≤ i ↔ l.any P = true)) ∧ Below w.heap.size w w') := paif_any a N cap l P x1 w hl hc hN hat hcc
  obtain ⟨R, hR⟩ : ∃ R, R = l.any P := ⟨_, rfl⟩
  rw [← hR] at CI ⊢
  clear hl hat hcc hR
  go_enter Tryz.func83, Tryz.ntmps83
  go_wp2_with (go_at_call 124; refine CI.out.mono ?_; rintro e w1 ⟨⟨i, rfl, hi1, hi2, hi3⟩, hb1⟩; have HI : Hid (0 ≤ i ↔ R = true) := hi3; have HB : Hid (Below w.heap.size w w1) := hb1; clear hi3 hb1)
  go_ret
  refine ⟨?_, HB.out⟩
  by_cases h : 0 ≤ i
  · rw [HI.out.1 h]; simp [h]
  · have : R = false := by
      cases hR : R with
      | false => rfl
      | true => exact absurd (HI.out.2 hR) h
    rw [this]; simp [h]
set_option maxHeartbeats 4000000 in
theorem paie_any (a : Option Addr) (N cap : Nat) (M : List EntM) (P : EntM → Bool) (x1 x2 x3 : Nat) (w : World) (hl : M.length = N) (hc : N ≤ cap) (hN : N ≤ 1000000) (hrow : Hid (∀ u, Below w.heap.size w u → ∀ i x, M[i]? = some x → ∃ g, a = some ⟨g, 0, none⟩ ∧ EntAt u g (i * 6) x))
    (hcc : ∀ x ∈ M, ∀ u, Below w.heap.size w u → Calls Tryz.prog 105 #[ev x, .pointer (some ⟨x1, 0, none⟩), .pointer (some ⟨x2, 0, none⟩), .pointer (some ⟨x3, 0, none⟩)] u fun e w' => e = .returned (.bool (P x)) ∧ Below u.heap.size u w') :
    Calls Tryz.prog 141 #[.slice a N cap, .func (.func 105) #[] #[.pointer (some ⟨x1, 0, none⟩), .pointer (some ⟨x2, 0, none⟩), .pointer (some ⟨x3, 0, none⟩)]] w fun e w' => (∃ i : Int, e = .returned (.int .i64 i) ∧ -1 ≤ i ∧ i ≤ 1000000 ∧ (0 ≤ i ↔ M.any P = true)) ∧ Below w.heap.size w w' := by
  have HL : Hid (M.length = N) := hl
  have HC : Hid (∀ x ∈ M, ∀ u, Below w.heap.size w u → Calls Tryz.prog 105 #[ev x, .pointer (some ⟨x1, 0, none⟩), .pointer (some ⟨x2, 0, none⟩), .pointer (some ⟨x3, 0, none⟩)] u fun e w' => e = .returned (.bool (P x)) ∧ Below u.heap.size u w') := hcc
  have HROW := hrow
  clear hl hcc hrow
  go_enter Tryz.func141, Tryz.ntmps141
  go_wp2
  go_loopw [8] (fun i wr => ∃ n : Nat, n ≤ N ∧ i = .int .i64 n ∧ Hid (Below w.heap.size w wr) ∧ Hid (∀ x ∈ M.take n, P x = false)) (fun i _ => N - (intOf i).toNat)
  case atStart => exact ⟨0, Nat.zero_le _, rfl, Below.refl _ _, fun x h => by simp at h⟩
  case round =>
    obtain ⟨n, hn, rfl, HS, HJ⟩ := hrel
    have hn0 : (0 : Int) ≤ (n : Int) := by omega
    by_cases hlt : n < N
    · have h1 : (n : Int) < (N : Int) := by omega
      obtain ⟨x, hx⟩ : ∃ x, M[n]? = some x := ⟨_, List.getElem?_eq_getElem (by rw [HL.out]; exact hlt)⟩
      obtain ⟨g, hag, hea⟩ := HROW.out wr HS.out n x hx
      subst hag
      have FE : Hid (EntAt wr g (n * 6) x) := hea
      have HT : Hid (M.take (n + 1) = M.take n ++ [x]) := by show _ = _; rw [List.take_add_one, hx]; rfl
      have HXM : Hid (x ∈ M) := List.mem_of_getElem? hx
      have CG0 := HC.out x HXM.out wr HS.out
      obtain ⟨pw, hpw⟩ : ∃ z, z = P x := ⟨_, rfl⟩
      have HPW : Hid (pw = P x) := hpw
      rw [← hpw] at CG0
      have CG : Hid (Calls Tryz.prog 105 #[ev x, .pointer (some ⟨x1, 0, none⟩), .pointer (some ⟨x2, 0, none⟩), .pointer (some ⟨x3, 0, none⟩)] wr fun e w' => e = .returned (.bool pw) ∧ Below wr.heap.size wr w') := CG0
      clear hea hx CG0 hpw
      cases pw with
      | true =>
        go_wp2_with (first | ((with_reducible show wpList _ _ _ (Oper.mk (some 15) _ _ _ _ _ :: _) _ _); refine wpList_load_pent 15 (by rfl) (by rfl) _ (by rfl) g (n * 6) (by rfl) x FE.out ?_) | (go_at_call 105; refine CG.out.mono ?_; rintro e w3 ⟨rfl, hb3⟩; have H3 : Hid (Below w.heap.size w w3) := HS.out.trans (hb3.mono HS.out.size); clear hb3))
        go_ret
        refine ⟨⟨(n : Int), rfl, by omega, by omega, ?_⟩, H3.out⟩
        exact ⟨fun _ => List.any_eq_true.2 ⟨x, HXM.out, HPW.out.symm⟩, fun _ => hn0⟩
      | false =>
        have HJ2 : Hid (∀ y ∈ M.take (n + 1), P y = false) := fun y hy => by
          rw [HT.out] at hy
          rcases List.mem_append.1 hy with e | e
          · exact HJ.out y e
          · simp at e; rw [e]; exact HPW.out.symm
        go_wp2_with (first | ((with_reducible show wpList _ _ _ (Oper.mk (some 15) _ _ _ _ _ :: _) _ _); refine wpList_load_pent 15 (by rfl) (by rfl) _ (by rfl) g (n * 6) (by rfl) x FE.out ?_) | (go_at_call 105; refine CG.out.mono ?_; rintro e w3 ⟨rfl, hb3⟩; have H3 : Hid (Below w.heap.size w w3) := HS.out.trans (hb3.mono HS.out.size); clear hb3))
        go_roundw
        case rel => exact ⟨n + 1, by omega, by go_num, H3, HJ2⟩
        case measure => simp [intOf]; omega
    · obtain rfl : n = N := by omega
      have HT : Hid (M.take n = M) := List.take_of_length_le (by rw [HL.out]; exact Nat.le_refl _)
      go_wp2
      go_ret
      refine ⟨⟨-1, rfl, by omega, by omega, fun e => by omega, fun e => ?_⟩, HS.out⟩
      obtain ⟨x, hx, e2⟩ := List.any_eq_true.1 e
      rw [HJ.out x (by rw [HT.out]; exact hx)] at e2
      cases e2
theorem pace_any (a : Option Addr) (N cap : Nat) (M : List EntM) (P : EntM → Bool) (x1 x2 x3 : Nat) (w : World) (hl : M.length = N) (hc : N ≤ cap) (hN : N ≤ 1000000) (hrow : Hid (∀ u, Below w.heap.size w u → ∀ i x, M[i]? = some x → ∃ g, a = some ⟨g, 0, none⟩ ∧ EntAt u g (i * 6) x))
    (hcc : ∀ x ∈ M, ∀ u, Below w.heap.size w u → Calls Tryz.prog 105 #[ev x, .pointer (some ⟨x1, 0, none⟩), .pointer (some ⟨x2, 0, none⟩), .pointer (some ⟨x3, 0, none⟩)] u fun e w' => e = .returned (.bool (P x)) ∧ Below u.heap.size u w') :
    Calls Tryz.prog 104 #[.slice a N cap, .func (.func 105) #[] #[.pointer (some ⟨x1, 0, none⟩), .pointer (some ⟨x2, 0, none⟩), .pointer (some ⟨x3, 0, none⟩)]] w fun e w' => e = .returned (.bool (M.any P)) ∧ Below w.heap.size w w' := by
  have CI : Hid (Calls Tryz.prog 141 #[.slice a N cap, .func (.func 105) #[] #[.pointer (some ⟨x1, 0, none⟩), .pointer (some ⟨x2, 0, none⟩), .pointer (some ⟨x3, 0, none⟩)]] w fun e w' => (∃ i : Int, e = .returned (.int .i64 i) ∧ -1 ≤ i ∧ i ≤ 1000000 ∧ (0 ≤ i ↔ M.any P = true)) ∧ Below w.heap.size w w') := paie_any a N cap M P x1 x2 x3 w hl hc hN hrow hcc
  obtain ⟨R, hR⟩ : ∃ R, R = M.any P := ⟨_, rfl⟩
  rw [← hR] at CI ⊢
  clear hl hrow hcc hR
  go_enter Tryz.func104, Tryz.ntmps104
  go_wp2_with (go_at_call 141; refine CI.out.mono ?_; rintro e w1 ⟨⟨i, rfl, hi1, hi2, hi3⟩, hb1⟩; have HI : Hid (0 ≤ i ↔ R = true) := hi3; have HB : Hid (Below w.heap.size w w1) := hb1; clear hi3 hb1)
  go_ret
  refine ⟨?_, HB.out⟩
  by_cases h : 0 ≤ i
  · rw [HI.out.1 h]; simp [h]
  · have : R = false := by
      cases hR : R with
      | false => rfl
      | true => exact absurd (HI.out.2 hR) h
    rw [this]; simp [h]
end Go.Proofs.YtileidbdmpeciaaGreat

namespace Go.Proofs.YtileidbdmpeciaaGreat
open Go.RowKit
set_option linter.unusedVariables false
set_option linter.unusedSimpArgs false

theorem apply_fail {L : List Ver} {t n : Int} {l : List Wrt} (h : (applyV L t n l).1 ≠ 0) : (applyV L t n l).2 = L := by
  unfold applyV at h ⊢
  split
  · rfl
  · rename_i h1
    rw [if_neg h1] at h
    split
    · rfl
    · rename_i h2
      rw [if_neg h2] at h
      split
      · rfl
      · rename_i h3
        rw [if_neg h3] at h
        exact absurd rfl h
theorem hasM_mem {M : List EntM} {id : Int} {x : EntM} (h : hasM M id = some x) : x ∈ M := List.mem_of_find?_eq_some h
/-- What State may say. -/
theorem state_cases {S : List Ver} {M : List EntM} {O : List (Int × Int)} (hh : ∀ x ∈ O, x.2 = 2 ∨ x.2 = 3) (id : Int) : (stateP ⟨S, ents M, O⟩ id = 2 ∨ stateP ⟨S, ents M, O⟩ id = 3) ∨ (stateP ⟨S, ents M, O⟩ id = 0 ∧ hasM M id = none) ∨ (stateP ⟨S, ents M, O⟩ id = 1 ∧ ∃ x, hasM M id = some x) := by
  unfold stateP
  cases e : overP O id with
  | some y =>
    unfold overP at e
    cases e2 : O.find? (fun z => decide (z.1 = id)) with
    | none => rw [e2] at e; cases e
    | some z =>
      rw [e2] at e
      injection e with e
      have h5 := hh z (List.mem_of_find?_eq_some e2)
      rw [← e]
      exact .inl h5
  | none =>
    have hm := hasM_e M id
    cases e2 : hasM M id with
    | none => rw [e2] at hm; refine .inr (.inl ⟨?_, rfl⟩); simp only; rw [← hm]; rfl
    | some x => rw [e2] at hm; refine .inr (.inr ⟨?_, x, rfl⟩); simp only; rw [← hm]; rfl
theorem ent5 {w3 w4 : World} {a0 a1 a2 a3 a4 v5 : Value} {T : TypeId} (hb : Below (w3.alloc (.cells #[a0, a1, a2, a3, a4, v5] T)).heap.size (w3.alloc (.cells #[a0, a1, a2, a3, a4, v5] T)) w4) : w4.cell? ⟨w3.heap.size, 5, none⟩ = some v5 := by
  refine (hb.cell (p := ⟨w3.heap.size, 5, none⟩) (by show w3.heap.size < _; simp)).trans ?_
  rw [World.cell?_alloc_new]
  rfl
theorem newer_e (S : List Ver) (k : List Int) (s m : Int) : newerV S k s m = ((newestV S k).isSome && decide (0 < cmpS (newT (newestV S k)) (newN (newestV S k)) s m)) := by
  unfold newerV
  cases newestV S k <;> rfl
/-- Is a write of one that waits held, or newer in the store? -/
def cfW (S : List Ver) (T : List Ent) (s m : Int) (W : Wrt) : Bool := (holdT T W.k).isSome || newerV S W.k s m
theorem take_map_next {l : List Wrt} {i : Nat} {W : Wrt} (h : l[i]? = some W) : (l.take (i + 1)).map (fun W => W.k) = (l.take i).map (fun W => W.k) ++ [W.k] := by
  rw [List.take_add_one, h, List.map_append]
  rfl
theorem keysT_next {M : List EntM} {i : Nat} {x : EntM} (h : M[i]? = some x) : keysT (ents (M.take (i + 1))) = keysT (ents (M.take i)) ++ x.e.l.map (fun W => W.k) := by
  unfold keysT ents
  rw [List.take_add_one, h, List.map_append, List.flatMap_append]
  simp [keysE]
theorem keysT_pre (M : List EntM) (i : Nat) : (keysT (ents (M.take i))).length ≤ (keysT (ents M)).length := by
  unfold keysT ents
  obtain ⟨r, hr⟩ := List.take_prefix i M
  have e : M.map (fun x => x.e) = (M.take i).map (fun x => x.e) ++ r.map (fun x => x.e) := by rw [← List.map_append, hr]
  rw [e, List.flatMap_append, List.length_append]
  omega
theorem kys_writes {w : World} {a : Option Addr} {l : List Wrt} (h : WrtsAt w a l) : Kys (l.map (fun W => W.k)) := fun k hk => by
  obtain ⟨W, hW, rfl⟩ := List.mem_map.1 hk
  exact (h.oks W hW).key
theorem take_any {α : Type} {l : List α} {p : α → Bool} {z : Nat} {W : α} (h : l[z]? = some W) : (l.take (z + 1)).any p = ((l.take z).any p || p W) := by
  rw [List.take_add_one, h, List.any_append]
  simp
theorem state_three {P : PSt} {id : Int} (h : stateP P id = 3) : overP P.O id = some 3 := by
  unfold stateP at h
  cases e : overP P.O id with
  | some y => rw [e] at h; rw [show y = 3 from h]
  | none =>
    rw [e] at h
    simp only at h
    split at h <;> omega
theorem drop_over {P : PSt} (K : PstK P) {id x : Int} (h : overP P.O id = some x) : dropT P.T id = P.T := by
  unfold dropT
  refine List.filter_eq_self.2 (fun e he => ?_)
  refine decide_eq_true (fun e2 => ?_)
  have := K.opn e he
  rw [e2, h] at this
  cases this
end Go.Proofs.YtileidbdmpeciaaGreat

namespace Go.Proofs.YtileidbdmpeciaaGreat
open Go.RowKit
set_option linter.unusedVariables false

/-- A part of one cell laid into a row of cells. -/
theorem fill_cell (place : Nat → Option (Nat × Nat)) (C : List Value) (i off : Nat) (v : Value) (hp : place i = some (off, 1)) (hv : v.cells = #[v]) (hs : off < C.length) (rest : List (Nat × Value)) :
    Instr.fill place C.toArray ((i, v) :: rest) = Instr.fill place (C.set off v).toArray rest := by
  conv => lhs; unfold Instr.fill
  have h0 : ¬ (decide (v.cells.size ≠ 1) || decide (off + v.cells.size > C.toArray.size)) = true := by rw [hv]; simp; omega
  simp only [hp]
  rw [if_neg h0, hv]
  simp
/-- A write is made of its parts. -/
theorem encW_zero_len : (encW zeroW).length = 18 := encW_len zeroW_ky
theorem fill_key0 (place : Nat → Option (Nat × Nat)) (hp : place 0 = some (0, 16)) (k : List Int) (hk : Ky k) (rest : List (Nat × Value)) : Instr.fill place (encW zeroW).toArray ((0, kv k) :: rest) = Instr.fill place (encW ⟨k, [], false⟩).toArray rest := by
  show Instr.fill place (encW zeroW).toArray ((0, .agg (kc k).toArray) :: rest) = _
  rw [fill_step place (encW zeroW) 0 0 16 (kc k) hp (kc_len hk) (by rw [encW_zero_len]; omega)]
  congr 2
theorem run_build_w2 (w : World) (k v : List Int) (hk : Ky k) : (Instr.build 80 #[(0, kv k), (1, .string (strOfNums v))]).run Tryz.prog w = .ok (wv ⟨k, v, false⟩) w := by
  have hf : Instr.fill (fun x => [(0, 16), (16, 1), (17, 1)][x]?) (encW zeroW).toArray [(0, kv k), (1, .string (strOfNums v))] = some (encW ⟨k, v, false⟩).toArray := by
    rw [fill_key0 _ rfl k hk, fill_cell (fun x => [(0, 16), (16, 1), (17, 1)][x]?) _ 1 16 (.string (strOfNums v)) rfl rfl (by rw [encW_len (W := ⟨k, [], false⟩) hk]; omega)]
    show some _ = some _
    congr 2
    unfold encW
    rw [List.set_append_right _ _ (by rw [kc_len hk]; exact Nat.le_refl _), kc_len hk]
    rfl
  simp [Instr.build, run_underlying Tryz.underlying80]
  have hf2 : Instr.fill (fun x => [(0, 16), (16, 1), (17, 1)][x]?) (Value.agg #[.int .u8 0, .int .u8 0, .int .u8 0, .int .u8 0, .int .u8 0, .int .u8 0, .int .u8 0, .int .u8 0, .int .u8 0, .int .u8 0, .int .u8 0, .int .u8 0, .int .u8 0, .int .u8 0, .int .u8 0, .int .u8 0, .string ⟨#[]⟩, .bool false]).cells [(0, kv k), (1, .string (strOfNums v))] = some (encW ⟨k, v, false⟩).toArray := hf
  rw [hf2]
  rfl
theorem wpList_build_w2 (d : Tmp) {ops : Array Oper} {rest : List Oper} {op : Oper} {a : Act} {w : World} {Q : Exit → Act → World → Prop} (hd : op.dst = some d) (hgd : op.guard = none) (x y : Operand) (ho : op.op = .build 80 #[(0, x), (1, y)])
    (k v : List Int) (hk : Ky k) (hx : a.eval x = kv k) (hy : a.eval y = .string (strOfNums v)) (h : wpList Tryz.prog ops Q rest (a.put op.dst (wv ⟨k, v, false⟩)) w) : wpList Tryz.prog ops Q (op :: rest) a w := by
  refine wpList_plain hgd fun K hK => ?_
  have hrun := run_build_w2 w k v hk
  unfold Oper.wp
  simp only [execOp, ho, List.map_toArray, List.map_cons, List.map_nil, hx, hy, Sem.run_bind, hrun, Result.andThen]
  exact hK _ _ h
/-- Lists of one, two, three writes are made. -/
theorem run_build_ws1 (w : World) (A : Wrt) (hA : Ky A.k) :
    (Instr.buildSlice 29 1 #[(0, wv A)]).run Tryz.prog w = .ok (.slice (some ⟨w.heap.size, 0, none⟩) 1 1) (w.alloc (.cells (encW A).toArray 80)) := by
  have hf : Instr.fill (fun i => some (i * 18, 18)) (encW zeroW).toArray [(0, wv A)] = some (encW A).toArray := by
    rw [fill_step _ (encW zeroW) 0 0 18 (encW A) rfl (encW_len hA) (by rw [encW_zero_len]; omega)]
    show some _ = some _
    congr 2
    rw [List.drop_eq_nil_of_le (by rw [encW_zero_len]; omega)]
    simp
  simp [Instr.buildSlice, run_underlying Tryz.underlying29]
  generalize hz : Array.map _ (Array.range 18) = Z
  have hz2 : Z = (encW zeroW).toArray := by rw [← hz]; kernel_rfl
  rw [hz2, hf]
  simp [newRow]
theorem wrts_made (w : World) (l : List Wrt) (h : ∀ W ∈ l, WrtOk W) : WrtsAt (w.alloc (.cells (l.flatMap encW).toArray 80)) (some ⟨w.heap.size, 0, none⟩) l := by
  refine ⟨.inr ⟨w.heap.size, 0, rfl, fun i W hW => ⟨?_⟩⟩, h⟩
  have hl := lies_made w (l.flatMap encW).toArray 80
  rw [List.toList_toArray] at hl
  exact hl.el (fun V hV => encW_len (h V hV).key) hW
theorem wpList_build_ws1 (d : Tmp) {ops : Array Oper} {rest : List Oper} {op : Oper} {a : Act} {w : World} {Q : Exit → Act → World → Prop} (hd : op.dst = some d) (hgd : op.guard = none) (x : Operand) (ho : op.op = .buildSlice 29 1 #[(0, x)])
    (A : Wrt) (hA : Ky A.k) (ex : a.eval x = wv A)
    (h : wpList Tryz.prog ops Q rest (a.put op.dst (.slice (some ⟨w.heap.size, 0, none⟩) 1 1)) (w.alloc (.cells (encW A).toArray 80))) : wpList Tryz.prog ops Q (op :: rest) a w := by
  refine wpList_plain hgd fun K hK => ?_
  have hrun := run_build_ws1 w A hA
  unfold Oper.wp
  simp only [execOp, ho, List.map_toArray, List.map_cons, List.map_nil, ex, Sem.run_bind, hrun, Result.andThen]
  exact hK _ _ h
end Go.Proofs.YtileidbdmpeciaaGreat

