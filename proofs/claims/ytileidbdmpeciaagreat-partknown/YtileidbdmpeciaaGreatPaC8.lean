/-
  What the landed parts answer and leave: Play, Prepared (package part).
-/
import Derived.Test.YtileidbdmpeciaaGreatPaC4
import Derived.Test.YtileidbdmpeciaaGreatAu73
import Derived.Test.YtileidbdmpeciaaGreatRecL7
namespace Go.Proofs.YtileidbdmpeciaaGreat
open Go.RowKit
set_option linter.unusedVariables false
set_option linter.unusedSimpArgs false

theorem goodE_okP {e : Ent} (h : goodE e = true) : (-9223372036854775808 ≤ e.s ∧ e.s ≤ 9223372036854775807) ∧ (-9223372036854775808 ≤ e.t ∧ e.t ≤ 9223372036854775807) := by
  unfold goodE at h
  simp only [Bool.and_eq_true, decide_eq_true_eq] at h
  have h1 := h.1.1.1.2
  have h2 := h.1.1.2
  unfold okS at h1 h2
  omega
set_option maxHeartbeats 8000000 in
set_option maxRecDepth 8000 in
theorem pplay_any {q s tb mm : Nat} {P : PSt} {M : List EntM} {XS XT : Foot} (x : RcM) (w : World) (h : ParI w q s tb mm P M XS XT) (K : PstK P) (hO : P.O.length ≤ 1000000) (he : RcW w x) :
    Calls Tryz.prog 18 #[.pointer (some ⟨q, 0, none⟩), rcv x] w fun e w' => e = .returned (.int .i64 (playP P x.r).1) ∧ ParL w w' q s tb mm M XS XT (playP P x.r).2 := by
  obtain ⟨Z, hZ⟩ : ∃ Z, Z = playP P x.r := ⟨_, rfl⟩
  rw [← hZ]
  have hgood := fun u (hu : Below w.heap.size w u) => lgood_any x u (he.past hu)
  obtain ⟨⟨kd, id, es, em, t, n, l, y, ps⟩, a, c, pa, pc⟩ := x
  obtain ⟨N, hN⟩ : ∃ N, N = l.length := ⟨_, rfl⟩
  obtain ⟨NP, hNP⟩ : ∃ NP, NP = ps.length := ⟨_, rfl⟩
  obtain ⟨gd, hgd⟩ : ∃ g, g = goodR ⟨kd, id, es, em, t, n, l, y, ps⟩ := ⟨_, rfl⟩
  have hEW : goodE ⟨id, es, em, t, n, l⟩ = true → EntW w ⟨(⟨id, es, em, t, n, l⟩ : Ent), a, c⟩ := fun hg => by
    obtain ⟨g1, g2⟩ := goodE_okP hg
    exact ⟨he.wr, he.room, Nat.le_trans he.few (by omega), ⟨⟨he.ok.id0, he.ok.id1⟩, g1, ⟨he.ok.m0, he.ok.m1⟩, g2, ⟨he.ok.n0, he.ok.n1⟩⟩⟩
  have hGE : gd = true → kd = 1 → goodE ⟨id, es, em, t, n, l⟩ = true := fun e1 e2 => by
    rw [hgd] at e1
    unfold goodR at e1
    rw [if_pos e2] at e1
    simp only [Bool.and_eq_true] at e1
    exact e1.1.1
  have hid : I64 id := ⟨he.ok.id0, he.ok.id1⟩
  have hn2 : 0 ≤ n ∧ n ≤ 255 := ⟨he.ok.n0, he.ok.n1⟩
  have e1 : rcv ⟨⟨kd, id, es, em, t, n, l, y, ps⟩, a, c, pa, pc⟩ = .agg #[.int .i64 kd, .int .i64 id, .int .i64 es, .int .u8 em, .int .i64 t, .int .u8 n, .slice a N c, .bool y, .slice pa NP pc] := by rw [hN, hNP]; rfl
  rw [e1]
  simp only [e1] at hgood
  obtain ⟨W0, hW0⟩ : ∃ u, u = w.alloc (.cells #[.int .i64 kd, .int .i64 id, .int .i64 es, .int .u8 em, .int .i64 t, .int .u8 n, .slice a N c, .bool y, .slice pa NP pc] 47) := ⟨_, rfl⟩
  have hb0 : Below w.heap.size w W0 := by rw [hW0]; exact (Below.refl _ _).alloc (Nat.le_refl _) _
  have e0 : W0.heap.size = w.heap.size + 1 := by rw [hW0]; simp
  have HB0 : Hid (Below w.heap.size w W0) := hb0
  have HW0 : Hid (w.alloc (.cells #[.int .i64 kd, .int .i64 id, .int .i64 es, .int .u8 em, .int .i64 t, .int .u8 n, .slice a N c, .bool y, .slice pa NP pc] 47) = W0) := hW0.symm
  have hcell : ∀ o, W0.cell? ⟨w.heap.size, o, none⟩ = (#[.int .i64 kd, .int .i64 id, .int .i64 es, .int .u8 em, .int .i64 t, .int .u8 n, .slice a N c, .bool y, .slice pa NP pc] : Array Value)[o]? := fun o => by rw [hW0, World.cell?_alloc_new]
  have FR : Hid (∀ u, Below W0.heap.size W0 u → Below w.heap.size w u ∧ u.cell? ⟨w.heap.size, 0, none⟩ = some (.int .i64 kd) ∧ u.cell? ⟨w.heap.size, 1, none⟩ = some (.int .i64 id) ∧ u.cell? ⟨w.heap.size, 2, none⟩ = some (.int .i64 es) ∧ u.cell? ⟨w.heap.size, 3, none⟩ = some (.int .u8 em) ∧ u.cell? ⟨w.heap.size, 4, none⟩ = some (.int .i64 t) ∧ u.cell? ⟨w.heap.size, 5, none⟩ = some (.int .u8 n) ∧ u.cell? ⟨w.heap.size, 6, none⟩ = some (.slice a N c)) := fun u hu => by
    have f : ∀ o, u.cell? ⟨w.heap.size, o, none⟩ = W0.cell? ⟨w.heap.size, o, none⟩ := fun o => hu.cell (p := ⟨w.heap.size, o, none⟩) (by show w.heap.size < _; omega)
    exact ⟨hb0.trans (hu.mono hb0.size), (f 0).trans (hcell 0), (f 1).trans (hcell 1), (f 2).trans (hcell 2), (f 3).trans (hcell 3), (f 4).trans (hcell 4), (f 5).trans (hcell 5), (f 6).trans (hcell 6)⟩
  have CG : Hid (∀ u, Below w.heap.size w u → Calls Tryz.prog 58 #[.agg #[.int .i64 kd, .int .i64 id, .int .i64 es, .int .u8 em, .int .i64 t, .int .u8 n, .slice a N c, .bool y, .slice pa NP pc]] u fun e w' => e = .returned (.bool gd) ∧ Below u.heap.size u w') := fun u hu => by rw [hgd]; exact hgood u hu
  have HP : Hid (ParI w q s tb mm P M XS XT) := h
  have CP : Hid (gd = true → kd = 1 → ∀ u, Below w.heap.size w u → Calls Tryz.prog 10 #[.pointer (some ⟨q, 0, none⟩), .agg #[.int .i64 id, .int .i64 es, .int .u8 em, .int .i64 t, .int .u8 n, .slice a N c]] u fun e w' => e = .returned (.int .i64 (prepP P ⟨id, es, em, t, n, l⟩).1) ∧ ParL w w' q s tb mm M XS XT (prepP P ⟨id, es, em, t, n, l⟩).2) := fun e1 e2 u hu => by
    refine (pprep_any id es em t n a N c l u (h.past hu) K hN.symm ((hEW (hGE e1 e2)).past hu)).mono ?_
    rintro e w' ⟨rfl, d⟩
    exact ⟨rfl, ParL.since h hu d⟩
  have CC : Hid (∀ u, Below w.heap.size w u → Calls Tryz.prog 12 #[.pointer (some ⟨q, 0, none⟩), .int .i64 id, .agg #[.int .i64 t, .int .u8 n]] u fun e w' => e = .returned (.int .i64 (commitP P id t n).1) ∧ ParL w w' q s tb mm M XS XT (commitP P id t n).2) := fun u hu => by
    refine (pcommit_any id t n hid hn2 u (h.past hu) K hO).mono ?_
    rintro e w' ⟨rfl, d⟩
    exact ⟨rfl, ParL.since h hu d⟩
  have CA : Hid (∀ u, Below w.heap.size w u → Calls Tryz.prog 17 #[.pointer (some ⟨q, 0, none⟩), .int .i64 id] u fun e w' => e = .returned (.int .i64 (abortP P id).1) ∧ ParL w w' q s tb mm M XS XT (abortP P id).2) := fun u hu => by
    refine (pabort_any id hid u (h.past hu) K hO).mono ?_
    rintro e w' ⟨rfl, d⟩
    exact ⟨rfl, ParL.since h hu d⟩
  have HZ : Hid (Z = if gd = false then (3, P) else if kd = 1 then prepP P ⟨id, es, em, t, n, l⟩ else if kd = 2 then commitP P id t n else if kd = 3 then abortP P id else (0, P)) := by
    show _ = _
    rw [hZ, hgd]
    rfl
  have HZ2 := HZ.out
  clear h K hO he hid hZ hgood hN hNP hgd hEW hGE hn2 e1 hW0 hb0 e0 hcell
  cases gd with
  | false =>
    have HF : Hid (Z = (3, P)) := by rw [if_pos rfl] at HZ2; exact HZ2
    clear HZ2
    go_enter Tryz.func18, Tryz.ntmps18
    go_wp2_with (first | (go_at_call 58; rw [HW0.out]; refine (CG.out _ HB0.out).mono ?_; rintro e w1 ⟨rfl, hb⟩; have H1 : Hid (Below W0.heap.size W0 w1) := hb; clear hb))
    go_ret
    exact ⟨by rw [HF.out]; rfl, by rw [HF.out]; exact HP.out.stay (FR.out _ H1.out).1⟩
  | true =>
  rw [if_neg (by decide)] at HZ2
  by_cases h1 : kd = 1
  · have HF : Hid (Z = prepP P ⟨id, es, em, t, n, l⟩) := by rw [if_pos h1] at HZ2; exact HZ2
    clear HZ2 HZ
    subst h1
    have CP1 : Hid (∀ u, Below w.heap.size w u → Calls Tryz.prog 10 #[.pointer (some ⟨q, 0, none⟩), .agg #[.int .i64 id, .int .i64 es, .int .u8 em, .int .i64 t, .int .u8 n, .slice a N c]] u fun e w' => e = .returned (.int .i64 (prepP P ⟨id, es, em, t, n, l⟩).1) ∧ ParL w w' q s tb mm M XS XT (prepP P ⟨id, es, em, t, n, l⟩).2) := CP.out rfl rfl
    go_enter Tryz.func18, Tryz.ntmps18
    go_wp2_with (first | (have hgo := H1.out; clear hgo; go_at_call 10; refine (CP1.out _ (FR.out _ H1.out).1).mono ?_; rintro e w2 ⟨rfl, hd⟩; have HD : Hid (ParL w w2 q s tb mm M XS XT (prepP P ⟨id, es, em, t, n, l⟩).2) := hd; clear hd) | (go_at_call 58; rw [HW0.out]; refine (CG.out _ HB0.out).mono ?_; rintro e w1 ⟨rfl, hb⟩; have H1 : Hid (Below W0.heap.size W0 w1) := hb; obtain ⟨_, z0, z1, z2, z3, z4, z5, z6⟩ := FR.out w1 hb; clear hb))
    go_ret
    exact ⟨by rw [HF.out]; rfl, by rw [HF.out]; exact HD.out⟩
  by_cases h2 : kd = 2
  · have HF : Hid (Z = commitP P id t n) := by rw [if_neg h1, if_pos h2] at HZ2; exact HZ2
    clear HZ2 HZ
    subst h2
    go_enter Tryz.func18, Tryz.ntmps18
    go_wp2_with (first | (have hgo := H1.out; clear hgo; go_at_call 12; refine (CC.out _ (FR.out _ H1.out).1).mono ?_; rintro e w2 ⟨rfl, hd⟩; have HD : Hid (ParL w w2 q s tb mm M XS XT (commitP P id t n).2) := hd; clear hd) | (go_at_call 58; rw [HW0.out]; refine (CG.out _ HB0.out).mono ?_; rintro e w1 ⟨rfl, hb⟩; have H1 : Hid (Below W0.heap.size W0 w1) := hb; obtain ⟨_, z0, z1, z2, z3, z4, z5, z6⟩ := FR.out w1 hb; clear hb))
    go_ret
    exact ⟨by rw [HF.out]; rfl, by rw [HF.out]; exact HD.out⟩
  by_cases h3 : kd = 3
  · have HF : Hid (Z = abortP P id) := by rw [if_neg h1, if_neg h2, if_pos h3] at HZ2; exact HZ2
    clear HZ2 HZ
    subst h3
    go_enter Tryz.func18, Tryz.ntmps18
    go_wp2_with (first | (have hgo := H1.out; clear hgo; go_at_call 17; refine (CA.out _ (FR.out _ H1.out).1).mono ?_; rintro e w2 ⟨rfl, hd⟩; have HD : Hid (ParL w w2 q s tb mm M XS XT (abortP P id).2) := hd; clear hd) | (go_at_call 58; rw [HW0.out]; refine (CG.out _ HB0.out).mono ?_; rintro e w1 ⟨rfl, hb⟩; have H1 : Hid (Below W0.heap.size W0 w1) := hb; obtain ⟨_, z0, z1, z2, z3, z4, z5, z6⟩ := FR.out w1 hb; clear hb))
    go_ret
    exact ⟨by rw [HF.out]; rfl, by rw [HF.out]; exact HD.out⟩
  have HF : Hid (Z = (0, P)) := by rw [if_neg h1, if_neg h2, if_neg h3] at HZ2; exact HZ2
  have b1 : (kd == 1) = false := by simpa using h1
  have b2 : (kd == 2) = false := by simpa using h2
  have b3 : (kd == 3) = false := by simpa using h3
  clear HZ2 HZ h1 h2 h3
  go_enter Tryz.func18, Tryz.ntmps18
  go_wp2_with (first | (go_at_call 58; rw [HW0.out]; refine (CG.out _ HB0.out).mono ?_; rintro e w1 ⟨rfl, hb⟩; have H1 : Hid (Below W0.heap.size W0 w1) := hb; obtain ⟨_, z0, z1, z2, z3, z4, z5, z6⟩ := FR.out w1 hb; clear hb))
  go_ret
  exact ⟨by rw [HF.out]; rfl, by rw [HF.out]; exact HP.out.stay (FR.out _ H1.out).1⟩
theorem i64El : ElT 49 2 1 8 := ElT.mk' (z := .int .i64 0) Tryz.underlying49 (by kernel_rfl) (by kernel_rfl) (by decide) (by decide)
def idsV (T : List Ent) : List Int := T.map (fun e => e.id)
theorem ids_next {L : List EntM} {i : Nat} {x : EntM} (h : L[i]? = some x) : (idsV (ents (L.take (i + 1)))).map (Value.int .i64) = (idsV (ents (L.take i))).map (Value.int .i64) ++ [.int .i64 x.e.id] := by
  rw [List.take_add_one, h]
  simp [idsV, ents]
set_option maxHeartbeats 4000000 in
set_option maxRecDepth 4000 in
theorem pprepared_any {q s tb mm : Nat} {P : PSt} {M : List EntM} {XS XT : Foot} (w : World) (h : ParI w q s tb mm P M XS XT) :
    Calls Tryz.prog 20 #[.pointer (some ⟨q, 0, none⟩)] w fun e w' => ∃ a c, e = .returned (.slice a M.length c) ∧ OwnB 2 1 w w' (.slice a M.length c) M.length ((idsV P.T).map (Value.int .i64)) := by
  obtain ⟨N, hN⟩ : ∃ n, n = M.length := ⟨_, rfl⟩
  have hN9 : N ≤ 100 := by rw [hN]; exact h.tab.few
  have CA : Hid (Calls Tryz.prog 59 #[.pointer (some ⟨tb, 0, none⟩)] w fun e w' => (∃ la lc L, e = .returned (.slice la N lc) ∧ AllOf w' w.heap.size (.slice la N lc) L P.T) ∧ Below w.heap.size w w') := by rw [hN, ← h.is]; exact pall_any tb M XT w h.tab
  have q1 := h.c1
  rw [← hN]
  clear h hN
  go_enter Tryz.func20, Tryz.ntmps20
  go_wp2_with (first
    | (go_at_call 59; refine CA.out.mono ?_; rintro e w3 ⟨⟨la, lc, L, rfl, hA⟩, hb⟩; have HAL : Hid (AllOf w3 w.heap.size (.slice la N lc) L P.T) := hA; have HB3 : Hid (Below w.heap.size w w3) := hb; clear hb hA q1 CA))
  obtain ⟨hNL, hNc, hel⟩ := HAL.out.open
  have HLN : Hid (L.length = N) := hNL.symm
  have HEL : Hid (∀ i y, L[i]? = some y → ∃ g, la = some ⟨g, 0, none⟩ ∧ Hid (∀ v, Below w3.heap.size w3 v → EntAt v g (i * 6) y ∧ EntW v y)) := hel
  have HIS : Hid (ents L = P.T) := HAL.out.is
  clear hel hNL HAL
  go_loopw [3, 12] (fun rv iv wr => ∃ (i : Nat) (ra : Option Addr) (rc : Nat), iv = .int .i64 i ∧ rv = .slice ra i rc ∧ i ≤ N ∧ Hid (OwnB 2 1 w3 wr (.slice ra i rc) i ((idsV (ents (L.take i))).map (Value.int .i64)))) (fun _ iv _ => N - (intOf iv).toNat)
  case atStart => exact ⟨0, none, 0, rfl, rfl, Nat.zero_le _, ⟨World.ownsRow_nil _ _ _ _, Below.refl _ _⟩⟩
  case round =>
    obtain ⟨i, ra, rc, rfl, rfl, hi, HO⟩ := hrel
    have HB : Hid (Below w3.heap.size w3 wr) := HO.out.below
    have hi0 : (0 : Int) ≤ (i : Int) := by omega
    by_cases hlt : i < N
    · have h1 : (i : Int) < (N : Int) := by omega
      obtain ⟨x, hx⟩ : ∃ x, L[i]? = some x := ⟨_, List.getElem?_eq_getElem (by rw [HLN.out]; exact hlt)⟩
      obtain ⟨g, hag, HG⟩ := HEL.out i x hx
      subst hag
      have FE : Hid (EntAt wr g (i * 6) x) := (HG.out wr HB.out).1
      have HNX : Hid _ := ids_next hx
      have hm1 : i + 1 ≤ 1000000 := by omega
      have hmi := EntMine.made wr 31 zeroE
      rw [zeroE_cells] at hmi
      have HMI : Hid _ := hmi
      obtain ⟨id, hid⟩ : ∃ z, z = x.e.id := ⟨_, rfl⟩
      rw [← hid] at HNX
      have HX0 : Hid (∀ u b, EntMine u b x → u.cell? ⟨b, 0, none⟩ = some (.int .i64 id)) := fun u b hm => by rw [hid]; exact hm.at_.cells.1
      clear hx hmi hid
      go_wp2_with (first
        | ((with_reducible show wpList _ _ _ (Oper.mk (some 15) _ _ _ _ _ :: _) _ _); refine wpList_load_pent 15 (by rfl) (by rfl) _ (by rfl) g (i * 6) (by rfl) x FE.out ?_)
        | (have hgo := HMI.out; clear hgo; refine wpList_store_pent (.tmp 5) (by rfl) _ (by rfl) wr.heap.size zeroE x (by rfl) (by rfl) HMI.out ?_; intro u2 hu; have HX2 : Hid (EntMine u2 wr.heap.size x) := hu ▸ HMI.out.store; have HB4 : Hid (Below wr.heap.size wr u2) := hu ▸ below_cells (Nat.le_refl _) ((Below.refl _ _).alloc (Nat.le_refl _) _); have z0 := HX0.out u2 wr.heap.size HX2.out; have HO2 : Hid (OwnB 2 1 w3 u2 (.slice ra i rc) i ((idsV (ents (L.take i))).map (Value.int .i64))) := HO.out.past HB4.out; clear hu HMI)
        | (have hgo := HO2.out; clear hgo; at_builtin; refine wpList_own i64El (w0 := w3) rfl (.tmp 16) (.tmp 19) rfl _ i _ [.int .i64 id] rfl (HO2.out.alloc _) _ _ _ rfl rfl (lies_made _ _ _) (by intro u hu; simp at hu; rw [hu]; rfl) (fun h => by cases h) (i + 1) rfl hm1 ((idsV (ents (L.take (i + 1)))).map (Value.int .i64)) HNX.out.symm ?_; intro a6 c6 w6 h1 h2; have O6 : Hid (OwnB 2 1 w3 w6 (.slice a6 (i + 1) c6) (i + 1) ((idsV (ents (L.take (i + 1)))).map (Value.int .i64))) := h1; have G6 : Hid ((u2.alloc (.cells #[.int .i64 id] 2)).grownBy w6 (Value.slice ra i rc).ownBlock) := h2; clear h1 h2))
      go_roundw
      case rel => exact ⟨i + 1, a6, c6, by go_num, rfl, by omega, O6⟩
      case measure => simp [intOf]; omega
    · obtain rfl : i = N := by omega
      have HT : Hid (idsV (ents (L.take i)) = idsV P.T) := by show _ = _; rw [List.take_of_length_le (by rw [HLN.out]; exact Nat.le_refl _), HIS.out]
      go_wp2
      go_ret
      refine ⟨ra, rc, rfl, ?_⟩
      have := HO.out
      rw [HT.out] at this
      exact ⟨own_downT this.own HB3.out.size, HB3.out.trans (this.below.mono HB3.out.size)⟩
end Go.Proofs.YtileidbdmpeciaaGreat
