/-
  What the document's own tables answer: Add (hourglassref10: Table).
-/
import Derived.Test.YtileidbdmpeciaaGreatAu117
namespace Go.Proofs.YtileidbdmpeciaaGreat
open Go.RowKit
set_option linter.unusedVariables false

theorem own_rawT (e : TypeId) (size : Nat) (w : World) : OwnB e size w (w.alloc (.cells #[] e)) (.slice (some ⟨w.heap.size, 0, none⟩) 0 0) 0 [] :=
  ⟨World.ownsRow_made w #[] 0 (Nat.le_refl _) (by unfold maxLen; omega) (by simp), (Below.refl _ _).alloc (Nat.le_refl _) _⟩
/-- What is in a table now was there, or its writes lie in memory that is new. -/
def NewW (w : World) (M M' : List EntM) : Prop := ∀ x ∈ M', x ∈ M ∨ (x.e.l ≠ [] → ∀ b o, x.a = some ⟨b, o, none⟩ → w.heap.size ≤ b)
theorem and4 {A B C D : Prop} (d : D) (h : A ∧ B ∧ C) : A ∧ B ∧ C ∧ D := ⟨h.1, h.2.1, h.2.2, d⟩
/-- A list that is all new is laid into the table. -/
theorem TabR.set {w u : World} {B q : Nat} {M M' : List EntM} (h : TabR w B q M) (hB : B ≤ w.heap.size) (hb : Below w.heap.size w u) {a : Option Addr} {N c b : Nat} (hN : M'.length = N) (hrow : u.ownsRow b 58 6 (.slice a N c) N (M'.flatMap encE)) (hbw : w.heap.size ≤ b) (hw : ∀ x ∈ M', EntW u x) (hf : ∀ x ∈ M', x.e.l ≠ [] → ∀ b o, x.a = some ⟨b, o, none⟩ → b ≠ q) (hfew : M'.length ≤ 1000) :
    TabR (u.setCell ⟨q, 0, none⟩ (.slice a N c)) B q M' ∧ Chg w (u.setCell ⟨q, 0, none⟩ (.slice a N c)) (fun k => k = q) ∧ RowedT w (u.setCell ⟨q, 0, none⟩ (.slice a N c)) q := by
  subst hN
  have hlt := h.lt
  obtain ⟨a0, c0, h1, _, _⟩ := h.list
  have hq := (hb.cell (p := ⟨q, 0, none⟩) h.lt).trans h1
  have hk : ∀ k, k ≠ q → (u.setCell ⟨q, 0, none⟩ (.slice a M'.length c)).heap[k]? = u.heap[k]? := fun k hne => Below.heap_setCell _ ⟨q, 0, none⟩ _ k hne
  have hcs := World.cell?_setCell_same u ⟨q, 0, none⟩ (.slice a M'.length c) hq
  refine ⟨⟨by rw [World.size_setCell]; exact Nat.lt_of_lt_of_le hlt hb.size, h.lo, ⟨a, c, hcs, row_keptT (own_downT hrow (by omega)) (fun k e => hk k (by have := (hrow.lt k e).1; omega)), fun k e => by have := (hrow.lt k e).1; omega⟩, by rw [World.frozen?_setCell]; exact (hb.frozen (p := ⟨q, 0, none⟩) h.lt).trans h.free, fun x hx => (hw x hx).kept (fun hl b o e => hk b (hf x hx hl b o e)), hf, hfew⟩, (Chg.of_below hb _).trans (Chg.set u ⟨q, 0, none⟩ _ (X := fun k => k = q) rfl) (fun _ _ x => x), fun v hv g hg => .inl ?_⟩
  rw [hcs] at hv
  injection hv with hv
  rw [← hv] at hg
  have := (hrow.lt g hg).1
  omega
/-- The entry with its writes copied, ahead of its being put in. -/
structure AddU (w V0 Y0 U : World) (Y : EntM) : Prop where
  below : Below w.heap.size w U
  at_ : EntAt U w.heap.size 0 Y
  ent : EntW U Y
  far : Y.e.l ≠ [] → ∀ b o, Y.a = some ⟨b, o, none⟩ → w.heap.size < b
theorem addU_made {w V0 Y0 w7 : World} {id s m t n : Int} {a a7 : Option Addr} {N c c7 : Nat} {l : List Wrt} (hw : Below w.heap.size w V0) (hY : Below V0.heap.size V0 Y0) (ho : OwnB 80 18 Y0 w7 (.slice a7 N c7) N (l.flatMap encW)) (hE : EBox w7 w.heap.size id s m t n a N c) (hs : V0.heap.size = w.heap.size + 1) (hl : l.length = N) (hk : ∀ W ∈ l, WrtOk W) (hN : N ≤ 1000000) (hok : EntOk ⟨id, s, m, t, n, l⟩) :
    AddU w V0 Y0 (w7.setCell ⟨w.heap.size, 5, none⟩ (.slice a7 N c7)) ⟨⟨id, s, m, t, n, l⟩, a7, c7⟩ := by
  subst hl
  obtain ⟨h1, h2, h3⟩ := own_wrts ho.own rfl hk
  have hb7 : Below w.heap.size w w7 := (hw.trans (hY.mono hw.size)).trans (ho.below.mono (Nat.le_trans hw.size hY.size))
  have hother : ∀ o, o ≠ 5 → (w7.setCell ⟨w.heap.size, 5, none⟩ (.slice a7 l.length c7)).cell? ⟨w.heap.size, o, none⟩ = w7.cell? ⟨w.heap.size, o, none⟩ := fun o hne => World.cell?_setCell_other _ _ _ _ (by intro e; injection e with e1 e2; exact hne e2.symm)
  have hsame := World.cell?_setCell_same w7 ⟨w.heap.size, 5, none⟩ (.slice a7 l.length c7) hE.c5
  refine ⟨hb7.setCell (Nat.le_refl _) _, ⟨lies_of fun j u hj => ?_⟩, ⟨h2.keptP (fun hne b o e => Below.heap_setCell _ ⟨w.heap.size, 5, none⟩ _ b (fun e2 => ?_)), h1, hN, hok⟩, fun hne b o e => ?_⟩
  · rw [Nat.zero_add]
    have hj6 : j < 6 := by have := (List.getElem?_eq_some_iff.1 hj).1; rwa [encE_len] at this
    have hj' : j = 0 ∨ j = 1 ∨ j = 2 ∨ j = 3 ∨ j = 4 ∨ j = 5 := by omega
    rcases hj' with rfl | rfl | rfl | rfl | rfl | rfl <;> (injection hj with hj; rw [← hj])
    · rw [hother 0 (by omega)]; exact hE.c0
    · rw [hother 1 (by omega)]; exact hE.c1
    · rw [hother 2 (by omega)]; exact hE.c2
    · rw [hother 3 (by omega)]; exact hE.c3
    · rw [hother 4 (by omega)]; exact hE.c4
    · exact hsame
  · have e3 : b = w.heap.size := e2
    have := h3 hne b o e
    have := hY.size
    omega
  · have := h3 hne b o e
    have := hY.size
    omega
theorem heldT_no {M : List EntM} {l : List Wrt} (h : ∀ j W, j < l.length → l[j]? = some W → (holdM M W.k).isSome = false) : heldT (ents M) l = false := by
  unfold heldT
  refine List.any_eq_false.2 (fun W hW => ?_)
  obtain ⟨j, hj, rfl⟩ := List.mem_iff_getElem.1 hW
  have := h j _ hj (List.getElem?_eq_getElem hj)
  rw [← holdM_e, Option.isSome_map, this]
  simp
theorem heldT_yes {M : List EntM} {l : List Wrt} {j : Nat} {W : Wrt} (hW : l[j]? = some W) (h : (holdM M W.k).isSome = true) : heldT (ents M) l = true := by
  unfold heldT
  refine List.any_eq_true.2 ⟨W, List.mem_of_getElem? hW, ?_⟩
  rw [← holdM_e, Option.isSome_map, h]
theorem placeT_e {M : List EntM} {id : Int} {J : Nat} (hJ : J ≤ M.length) (h : ∀ j (y : EntM), j < J → M[j]? = some y → y.e.id < id) (hx : J = M.length ∨ ∃ y : EntM, M[J]? = some y ∧ ¬ y.e.id < id) : placeT (ents M) id = J :=
  place_is (by rw [List.length_map]; exact hJ) (fun j e hj he => by
    rw [List.getElem?_map] at he
    cases hy : M[j]? with
    | none => rw [hy] at he; cases he
    | some y => rw [hy] at he; injection he with he; rw [← he]; exact h j y hj hy) (hx.imp (fun e => by rw [List.length_map]; exact e) (fun ⟨y, h1, h2⟩ => ⟨y.e, by rw [List.getElem?_map, h1]; rfl, h2⟩))
set_option maxHeartbeats 16000000 in
set_option maxRecDepth 8000 in
theorem radd_any (B q : Nat) (M : List EntM) (id s m t n : Int) (a : Option Addr) (N c : Nat) (l : List Wrt) (w : World) (h : TabR w B q M) (hB : B ≤ w.heap.size) (hM : M.length ≤ 100) (hl : l.length = N) (he : EntW w ⟨(⟨id, s, m, t, n, l⟩ : Ent), a, c⟩) :
    Calls Tryz.prog 66 #[.pointer (some ⟨q, 0, none⟩), .agg #[.int .i64 id, .int .i64 s, .int .u8 m, .int .i64 t, .int .u8 n, .slice a N c]] w fun e w' => e = .returned (.int .i64 (addT (ents M) (⟨id, s, m, t, n, l⟩ : Ent)).1) ∧ ∃ M', ents M' = (addT (ents M) (⟨id, s, m, t, n, l⟩ : Ent)).2 ∧ TabR w' B q M' ∧ Chg w w' (fun k => k = q) ∧ RowedT w w' q ∧ NewW w M M' := by
  obtain ⟨hwr, hroom, hfewN, hEO⟩ := he
  have hroom : N ≤ c := by rw [← hl]; exact hroom
  have hN6 : N ≤ 1000000 := by rw [← hl]; exact hfewN
  have hwr : WrtsAt w a l := hwr
  obtain ⟨V0, hV0⟩ : ∃ V0, V0 = w.alloc (.cells #[.int .i64 id, .int .i64 s, .int .u8 m, .int .i64 t, .int .u8 n, .slice a N c] 58) := ⟨_, rfl⟩
  have HBW : Hid (Below w.heap.size w V0) := by rw [hV0]; exact (Below.refl _ _).alloc (Nat.le_refl _) _
  have hsz : V0.heap.size = w.heap.size + 1 := by rw [hV0]; simp
  have HV0 : Hid (w.alloc (.cells #[.int .i64 id, .int .i64 s, .int .u8 m, .int .i64 t, .int .u8 n, .slice a N c] 58) = V0) := hV0.symm
  have FE : Hid (∀ u, Below V0.heap.size V0 u → EBox u w.heap.size id s m t n a N c) := fun u hb => (by rw [hV0]; exact EBox.made w 58 id s m t n a N c : EBox V0 w.heap.size id s m t n a N c).past hb
  have FF : Hid (∀ u, Below V0.heap.size V0 u → ∀ i, i < 6 → u.frozen? ⟨w.heap.size, i, none⟩ = false) := fun u hb i hi => by
    rw [hb.frozen (p := ⟨w.heap.size, i, none⟩) (by rw [hsz]; exact Nat.lt_succ_self _), hV0]
    exact World.frozen?_alloc_new _ _ _ _
  obtain ⟨a0, c0, hcap, hnil, hA0, hcell, hli, hs⟩ := h.src
  obtain ⟨N0, hN0⟩ : ∃ N0, N0 = M.length := ⟨_, rfl⟩
  rw [← hN0] at hcap hnil hcell hM
  have HN0 : Hid (M.length = N0) := hN0.symm
  have HTB : Hid (TabR w B q M) := h
  have HBB : Hid (B ≤ w.heap.size) := hB
  have HCE : Hid (∀ v, Below w.heap.size w v → v.cell? ⟨q, 0, none⟩ = some (.slice a0 N0 c0)) := hcell
  have HLI : Hid (∀ v, Below w.heap.size w v → Lies v a0 (M.flatMap encE)) := hli
  have HA0 : Hid (∀ ad, a0 = some ad → ∃ bb, ad = ⟨bb, 0, none⟩) := hA0
  have HS : Hid (∀ i x, M[i]? = some x → ∃ g, a0 = some ⟨g, 0, none⟩ ∧ Hid (∀ v, Below w.heap.size w v → EntAt v g (i * 6) x)) := hs
  have HWX : Hid (WrtsAt w a l) := hwr
  have HWO : Hid (∀ W ∈ l, WrtOk W) := hwr.oks
  have HLN : Hid (l.length = N) := hl
  have HEO : Hid (EntOk (⟨id, s, m, t, n, l⟩ : Ent)) := hEO
  have HLW : Hid ((l.flatMap encW).length = N * 18) := by show _ = _; rw [flat_len l (fun W hW => encW_len (hwr.oks W hW).key), hl]
  have HWL : Hid (∀ v, Below w.heap.size w v → Lies v a (l.flatMap encW)) := fun v hb => (hwr.past hb).lies
  have HOLD : Hid (∀ u, Below w.heap.size w u → ∃ M', ents M' = ents M ∧ TabR u B q M' ∧ Chg w u (fun k => k = q) ∧ RowedT w u q ∧ NewW w M M') := fun u hb => ⟨M, rfl, h.past hb, Chg.of_below hb _, fun v hv g hg => .inr ⟨v, (hb.cell (p := ⟨q, 0, none⟩) h.lt).symm.trans hv, hg⟩, fun x hx => .inl hx⟩
  obtain ⟨R, hR⟩ : ∃ R, R = addT (ents M) (⟨id, s, m, t, n, l⟩ : Ent) := ⟨_, rfl⟩
  obtain ⟨g, hg⟩ : ∃ g, g = goodE (⟨id, s, m, t, n, l⟩ : Ent) := ⟨_, rfl⟩
  obtain ⟨X, hX⟩ : ∃ X, X = orE (hasM M id) := ⟨_, rfl⟩
  obtain ⟨ok, hok⟩ : ∃ x, x = (hasM M id).isSome := ⟨_, rfl⟩
  have hap : R = if g = false then (1, ents M) else if ok = true then (5, ents M) else if heldT (ents M) l = true then (9, ents M) else if 100 ≤ N0 then (6, ents M) else (0, (ents M).take (placeT (ents M) id) ++ (⟨id, s, m, t, n, l⟩ : Ent) :: (ents M).drop (placeT (ents M) id)) := by
    have e1 : (hasT (ents M) id).isSome = (hasM M id).isSome := by rw [← hasM_e, Option.isSome_map]
    have e2 : (ents M).length = M.length := List.length_map _
    rw [hR, hg, hok, hN0, ← e1, ← e2]
    rfl
  have CG : Hid (∀ u, Below w.heap.size w u → Calls Tryz.prog 60 #[.agg #[.int .i64 id, .int .i64 s, .int .u8 m, .int .i64 t, .int .u8 n, .slice a N c]] u fun e w' => e = .returned (.bool g) ∧ Below u.heap.size u w') := fun u hb => by rw [hg]; exact rgoode_any id s m t n a N c l u hl hroom hN6 (hwr.past hb)
  have CH : Hid (∀ u, Below w.heap.size w u → Calls Tryz.prog 68 #[.pointer (some ⟨q, 0, none⟩), .int .i64 id] u fun e w' => e = .returned (.tuple #[ev X, .bool ok]) ∧ Below u.heap.size u w') := fun u hb => by rw [hX, hok]; exact rhas_any B q M id u (h.past hb)
  have HG1 : Hid (g = true → 1 ≤ N) := fun e => by
    rw [hg] at e
    unfold goodE at e
    simp only [Bool.and_eq_true] at e
    have := (may_fit.1 e.2).1.1
    rw [hl] at this
    exact this
  rw [← hR]
  clear hV0 h hcell hli hs hwr hR hg hX hok hl hA0 hEO hfewN hB hN0
  cases g with
  | false =>
    have HR : Hid (R = (1, ents M)) := hap
    clear hap HG1
    go_enter Tryz.func66, Tryz.ntmps66
    go_wp2_with (go_at_call 60; rw [HV0.out]; refine (CG.out _ HBW.out).mono ?_; rintro e u1 ⟨rfl, hb1⟩; have B1 : Hid (Below V0.heap.size V0 u1) := hb1; obtain ⟨y0, y1, y2, y3, y4, y5⟩ := FE.out _ B1.out; clear hb1)
    go_ret
    rw [HR.out]
    exact ⟨rfl, HOLD.out _ (HBW.out.trans (B1.out.mono HBW.out.size))⟩
  | true =>
    have hN1 : 1 ≤ N := HG1.out rfl
    clear HG1
    cases ok with
    | true =>
      have HR : Hid (R = (5, ents M)) := hap
      clear hap
      go_enter Tryz.func66, Tryz.ntmps66
      go_wp2_with (first | (go_at_call 60; rw [HV0.out]; refine (CG.out _ HBW.out).mono ?_; rintro e u1 ⟨rfl, hb1⟩; have B1 : Hid (Below V0.heap.size V0 u1) := hb1; obtain ⟨y0, y1, y2, y3, y4, y5⟩ := FE.out _ B1.out; clear hb1) | (go_at_call 68; refine (CH.out _ (HBW.out.trans (B1.out.mono HBW.out.size))).mono ?_; rintro e u2 ⟨rfl, hb2⟩; have B2 : Hid (Below V0.heap.size V0 u2) := B1.out.trans (hb2.mono B1.out.size); have hmi := EntMine.made u2 58 zeroE; rw [zeroE_cells] at hmi; have HMI : Hid _ := hmi; clear hmi hb2) | (have hgo := HMI.out; clear hgo; refine wpList_store_ent (.tmp 5) (by rfl) _ (by rfl) u2.heap.size zeroE X (by rfl) (by rfl) HMI.out ?_; intro u3 hu; have B3 : Hid (Below V0.heap.size V0 u3) := hu ▸ below_cells B2.out.size (B2.out.alloc B2.out.size _); clear hu HMI B1 B2))
      go_ret
      rw [HR.out]
      exact ⟨rfl, HOLD.out _ (HBW.out.trans (B3.out.mono HBW.out.size))⟩
    | false =>
      have HAP : Hid (R = if heldT (ents M) l = true then (9, ents M) else if 100 ≤ N0 then (6, ents M) else (0, (ents M).take (placeT (ents M) id) ++ (⟨id, s, m, t, n, l⟩ : Ent) :: (ents M).drop (placeT (ents M) id))) := hap
      have HNW : Hid (a = none → N = 0 ∧ c = 0) := fun e => by
        exfalso
        rcases HWX.out.cells with h1 | ⟨b, o, h1, _⟩
        · have := HLN.out; rw [h1] at this; simp at this; omega
        · rw [e] at h1; cases h1
      clear hap
      go_enter Tryz.func66, Tryz.ntmps66
      go_wp2_with (first | (go_at_call 60; rw [HV0.out]; refine (CG.out _ HBW.out).mono ?_; rintro e u1 ⟨rfl, hb1⟩; have B1 : Hid (Below V0.heap.size V0 u1) := hb1; obtain ⟨y0, y1, y2, y3, y4, y5⟩ := FE.out _ B1.out; clear hb1) | (go_at_call 68; refine (CH.out _ (HBW.out.trans (B1.out.mono HBW.out.size))).mono ?_; rintro e u2 ⟨rfl, hb2⟩; have B2 : Hid (Below V0.heap.size V0 u2) := B1.out.trans (hb2.mono B1.out.size); have hmi := EntMine.made u2 58 zeroE; rw [zeroE_cells] at hmi; have HMI : Hid _ := hmi; clear hmi hb2) | (have hgo := HMI.out; clear hgo; refine wpList_store_ent (.tmp 5) (by rfl) _ (by rfl) u2.heap.size zeroE X (by rfl) (by rfl) HMI.out ?_; intro u3 hu; have B3 : Hid (Below V0.heap.size V0 u3) := hu ▸ below_cells B2.out.size (B2.out.alloc B2.out.size _); clear hu HMI B1 B2))
      clear CG CH y0 y1 y2 y3 y4 y5
      go_loopw [7] (fun iv wr => ∃ i : Nat, iv = .int .i64 i ∧ i ≤ N ∧ Hid (Below V0.heap.size V0 wr) ∧ Hid (∀ j W, j < i → l[j]? = some W → (holdM M W.k).isSome = false)) (fun iv _ => N - (intOf iv).toNat)
      case atStart => exact ⟨0, rfl, Nat.zero_le _, B3, fun j W hj => absurd hj (Nat.not_lt_zero _)⟩
      case round =>
        obtain ⟨i, rfl, hi, HB, HJ⟩ := hrel
        have hi0 : (0 : Int) ≤ (i : Int) := by omega
        obtain ⟨y0, y1, y2, y3, y4, y5⟩ := FE.out wr HB.out
        clear y0 y1 y2 y3 y4
        have HWB : Hid (Below w.heap.size w wr) := HBW.out.trans (HB.out.mono HBW.out.size)
        by_cases hlt : i < N
        · have h1 : (i : Int) < (N : Int) := by omega
          obtain ⟨W, hW⟩ : ∃ W, l[i]? = some W := ⟨_, List.getElem?_eq_getElem (by rw [HLN.out]; exact hlt)⟩
          have HWI : Hid (l[i]? = some W) := hW
          obtain ⟨b, o, hab, hwa, hwo⟩ := HWX.out.wrt hW
          obtain ⟨k, hk⟩ : ∃ k, k = W.k := ⟨_, rfl⟩
          have HKW : Hid (k = W.k) := hk
          have KY : Hid (Ky k) := by rw [hk]; exact hwo.key
          have FK : Hid (KeyAt wr b (o + i * 18) k) := by rw [hk]; exact (hwa.past HWB.out).key hwo.key
          rw [hab] at y5
          obtain ⟨hx, hhx⟩ : ∃ z, z = (orE (holdM M k)).e.id := ⟨_, rfl⟩
          obtain ⟨hd, hhd⟩ : ∃ z, z = (holdM M k).isSome := ⟨_, rfl⟩
          have CD : Hid (Calls Tryz.prog 63 #[.pointer (some ⟨q, 0, none⟩), kv k] wr fun e w' => e = .returned (.tuple #[.int .i64 hx, .bool hd]) ∧ Below wr.heap.size wr w') := by rw [hhx, hhd]; exact rHolder_any B q M k KY.out wr (HTB.out.past HWB.out)
          have HHD : Hid (hd = (holdM M W.k).isSome) := by rw [hhd, hk]; rfl
          clear hW hwa hwo hk hhx hhd hab
          cases hd with
          | true =>
            have HR : Hid (R = (9, ents M)) := by show R = _; rw [HAP.out, if_pos (heldT_yes HWI.out HHD.out.symm)]
            go_wp2_with (first | ((with_reducible show wpList _ _ _ (Oper.mk (some 36) _ _ _ _ _ :: _) _ _); refine wpList_load_keyD 36 (by rfl) (by rfl) _ (by rfl) b (o + i * 18) (by rfl) k KY.out FK.out ?_) | (go_at_call 63; refine CD.out.mono ?_; rintro e u5 ⟨rfl, hb5⟩; have B5 : Hid (Below V0.heap.size V0 u5) := HB.out.trans (hb5.mono HB.out.size); clear hb5))
            go_ret
            rw [HR.out]
            exact ⟨rfl, HOLD.out _ (HBW.out.trans (B5.out.mono HBW.out.size))⟩
          | false =>
            have HJ2 : Hid (∀ j W, j < i + 1 → l[j]? = some W → (holdM M W.k).isSome = false) := fun j W' hj hW' => by
              by_cases e : j < i
              · exact HJ.out j W' e hW'
              · obtain rfl : j = i := by omega
                rw [HWI.out] at hW'
                obtain rfl := Option.some.inj hW'
                exact HHD.out.symm
            go_wp2_with (first | ((with_reducible show wpList _ _ _ (Oper.mk (some 36) _ _ _ _ _ :: _) _ _); refine wpList_load_keyD 36 (by rfl) (by rfl) _ (by rfl) b (o + i * 18) (by rfl) k KY.out FK.out ?_) | (go_at_call 63; refine CD.out.mono ?_; rintro e u5 ⟨rfl, hb5⟩; have B5 : Hid (Below V0.heap.size V0 u5) := HB.out.trans (hb5.mono HB.out.size); clear hb5))
            go_roundw
            case rel => exact ⟨i + 1, by go_num, by omega, B5, HJ2⟩
            case measure => simp [intOf]; omega
        · have hni : ¬ (i : Int) < (N : Int) := by omega
          have HHF : Hid (heldT (ents M) l = false) := heldT_no (fun j W hj hW => HJ.out j W (by have := HLN.out; omega) hW)
          have q0 := HCE.out wr HWB.out
          by_cases h100 : 100 ≤ N0
          · have d1 : (100 : Int) ≤ (N0 : Int) := by omega
            have HR : Hid (R = (6, ents M)) := by show R = _; rw [HAP.out, if_neg (by rw [HHF.out]; simp), if_pos h100]
            go_wp2
            go_ret
            rw [HR.out]
            exact ⟨rfl, HOLD.out _ HWB.out⟩
          · have d1 : ¬ (100 : Int) ≤ (N0 : Int) := by omega
            have HA2 : Hid (R = (0, (ents M).take (placeT (ents M) id) ++ (⟨id, s, m, t, n, l⟩ : Ent) :: (ents M).drop (placeT (ents M) id))) := by show R = _; rw [HAP.out, if_neg (by rw [HHF.out]; simp), if_neg h100]
            clear HAP HHF HJ HWB
            go_wp2
            clear q0 y5
            go_loopw [10] (fun kv wr => ∃ J : Nat, kv = .int .i64 J ∧ J ≤ N0 ∧ Hid (Below V0.heap.size V0 wr) ∧ Hid (∀ j (y : EntM), j < J → M[j]? = some y → y.e.id < id)) (fun kv _ => N0 - (intOf kv).toNat)
            case atStart => exact ⟨0, rfl, Nat.zero_le _, HB, fun j y hj => absurd hj (Nat.not_lt_zero _)⟩
            case round =>
              clear HB
              obtain ⟨J, rfl, hJ, HB, HJ⟩ := hrel
              have hJ0 : (0 : Int) ≤ (J : Int) := by omega
              have HWB : Hid (Below w.heap.size w wr) := HBW.out.trans (HB.out.mono HBW.out.size)
              have FBX : Hid (∀ u, Below wr.heap.size wr u → EBox u w.heap.size id s m t n a N c) := fun u hb => FE.out u (HB.out.trans (hb.mono HB.out.size))
              by_cases hlt2 : J < N0
              · have h2 : (J : Int) < (N0 : Int) := by omega
                obtain ⟨x, hx⟩ : ∃ x, M[J]? = some x := ⟨_, List.getElem?_eq_getElem (by rw [HN0.out]; exact hlt2)⟩
                obtain ⟨g, hag, HGG⟩ := HS.out J x hx
                have HXI : Hid (M[J]? = some x) := hx
                obtain ⟨xi, hxi⟩ : ∃ z, z = x.e.id := ⟨_, rfl⟩
                have HXE : Hid (xi = x.e.id) := hxi
                have FQ : Hid (∀ u, Below wr.heap.size wr u → u.cell? ⟨q, 0, none⟩ = some (.slice (some ⟨g, 0, none⟩) N0 c0)) := fun u hb => by rw [← hag]; exact HCE.out u (HWB.out.trans (hb.mono HWB.out.size))
                have FI : Hid (∀ u, Below wr.heap.size wr u → u.cell? ⟨g, J * 6, none⟩ = some (.int .i64 xi)) := fun u hb => by rw [hxi]; exact (HGG.out u (HWB.out.trans (hb.mono HWB.out.size))).cells.1
                clear hx hxi
                by_cases hlx : xi < id
                · have bl : decide (xi < id) = true := decide_eq_true hlx
                  have HJ2 : Hid (∀ j (y : EntM), j < J + 1 → M[j]? = some y → y.e.id < id) := fun j y hj hy => by
                    by_cases e : j < J
                    · exact HJ.out j y e hy
                    · obtain rfl : j = J := by omega
                      rw [HXI.out] at hy
                      obtain rfl := Option.some.inj hy
                      rw [← HXE.out]; exact hlx
                  clear hlx hag
                  go_wp2
                  refine wp_region_noPanic ?_
                  refine wp_region_held_drew (S := fun u => Below wr.heap.size wr u) (by kernel_rfl) ?_ (fun hHeld => ?_)
                  · exact (Below.refl _ _).drew
                  refine wpAnyH_take (i := 0) (v := ?_) rfl (by kernel_rfl) (by kernel_rfl) (by kernel_rfl) (fun _ _ _ h => h) (Or.inl ⟨by rfl, ?_⟩) hHeld ?_
                  rotate_left
                  · intro u hSu
                    (go_simp) <;> (with_reducible rfl)
                  change wpAnyH _ _ _ _ _ _ _ (Act.put _ (some 47) _) _
                  simp only [Act.put, List.setIfInBounds_toArray, List.set_cons_zero, List.set_cons_succ]
                  refine wpAnyH_take (i := 1) (v := ?_) rfl (by kernel_rfl) (by kernel_rfl) (by kernel_rfl) (fun _ _ _ h => h) (Or.inl ⟨by rfl, ?_⟩) hHeld ?_
                  rotate_left
                  · intro u hSu
                    (go_simp) <;> (with_reducible rfl)
                  change wpAnyH _ _ _ _ _ _ _ (Act.put _ (some 48) _) _
                  simp only [Act.put, List.setIfInBounds_toArray, List.set_cons_zero, List.set_cons_succ]
                  refine wpAnyH_take (i := 2) (v := ?_) rfl (by kernel_rfl) (by kernel_rfl) (by kernel_rfl) (fun _ _ _ h => h) (Or.inl ⟨by rfl, ?_⟩) hHeld ?_
                  rotate_left
                  · intro u hSu
                    (go_simp) <;> (with_reducible rfl)
                  change wpAnyH _ _ _ _ _ _ _ (Act.put _ (some 49) _) _
                  simp only [Act.put, List.setIfInBounds_toArray, List.set_cons_zero, List.set_cons_succ]
                  refine wpAnyH_take (i := 3) (v := ?_) rfl (by kernel_rfl) (by kernel_rfl) (by kernel_rfl) (fun _ _ _ h => h) (Or.inl ⟨by rfl, ?_⟩) hHeld ?_
                  rotate_left
                  · intro u hSu
                    (go_simp) <;> (with_reducible rfl)
                  change wpAnyH _ _ _ _ _ _ _ (Act.put _ (some 50) _) _
                  simp only [Act.put, List.setIfInBounds_toArray, List.set_cons_zero, List.set_cons_succ]
                  refine wpAnyH_take (i := 4) (v := ?_) rfl (by kernel_rfl) (by kernel_rfl) (by kernel_rfl) (fun _ _ _ h => h) (Or.inl ⟨by rfl, ?_⟩) hHeld ?_
                  rotate_left
                  · intro u hSu
                    have r0 := FQ.out u hSu
                    (go_simp) <;> (with_reducible rfl)
                  change wpAnyH _ _ _ _ _ _ _ (Act.put _ (some 51) _) _
                  simp only [Act.put, List.setIfInBounds_toArray, List.set_cons_zero, List.set_cons_succ]
                  refine wpAnyH_take (i := 5) (v := ?_) rfl (by kernel_rfl) (by kernel_rfl) (by kernel_rfl) (fun _ _ _ h => h) (Or.inl ⟨by rfl, ?_⟩) hHeld ?_
                  rotate_left
                  · intro u hSu
                    (go_simp) <;> (with_reducible rfl)
                  change wpAnyH _ _ _ _ _ _ _ (Act.put _ (some 52) _) _
                  simp only [Act.put, List.setIfInBounds_toArray, List.set_cons_zero, List.set_cons_succ]
                  refine wpAnyH_take (i := 6) (v := ?_) rfl (by kernel_rfl) (by kernel_rfl) (by kernel_rfl) (fun _ _ _ h => h) (Or.inl ⟨by rfl, ?_⟩) hHeld ?_
                  rotate_left
                  · intro u hSu
                    (go_simp) <;> (with_reducible rfl)
                  change wpAnyH _ _ _ _ _ _ _ (Act.put _ (some 53) _) _
                  simp only [Act.put, List.setIfInBounds_toArray, List.set_cons_zero, List.set_cons_succ]
                  refine wpAnyH_take (i := 7) (v := ?_) rfl (by kernel_rfl) (by kernel_rfl) (by kernel_rfl) (fun _ _ _ h => h) (Or.inl ⟨by rfl, ?_⟩) hHeld ?_
                  rotate_left
                  · intro u hSu
                    (go_simp) <;> (with_reducible rfl)
                  change wpAnyH _ _ _ _ _ _ _ (Act.put _ (some 54) _) _
                  simp only [Act.put, List.setIfInBounds_toArray, List.set_cons_zero, List.set_cons_succ]
                  refine wpAnyH_take (i := 8) (v := ?_) rfl (by kernel_rfl) (by kernel_rfl) (by kernel_rfl) (fun _ _ _ h => h) (Or.inl ⟨by rfl, ?_⟩) hHeld ?_
                  rotate_left
                  · intro u hSu
                    (go_simp) <;> (with_reducible rfl)
                  change wpAnyH _ _ _ _ _ _ _ (Act.put _ (some 55) _) _
                  simp only [Act.put, List.setIfInBounds_toArray, List.set_cons_zero, List.set_cons_succ]
                  refine wpAnyH_take (i := 9) (v := ?_) rfl (by kernel_rfl) (by kernel_rfl) (by kernel_rfl) (fun _ _ _ h => h) (Or.inl ⟨by rfl, ?_⟩) hHeld ?_
                  rotate_left
                  · intro u hSu
                    (go_simp) <;> (with_reducible rfl)
                  change wpAnyH _ _ _ _ _ _ _ (Act.put _ (some 56) _) _
                  simp only [Act.put, List.setIfInBounds_toArray, List.set_cons_zero, List.set_cons_succ]
                  refine wpAnyH_take (i := 10) (v := ?_) rfl (by kernel_rfl) (by kernel_rfl) (by kernel_rfl) (fun _ _ _ h => h) (Or.inl ⟨by rfl, ?_⟩) hHeld ?_
                  rotate_left
                  · intro u hSu
                    (go_simp) <;> (with_reducible rfl)
                  change wpAnyH _ _ _ _ _ _ _ (Act.put _ (some 57) _) _
                  simp only [Act.put, List.setIfInBounds_toArray, List.set_cons_zero, List.set_cons_succ]
                  refine wpAnyH_take (i := 11) (v := ?_) rfl (by kernel_rfl) (by kernel_rfl) (by kernel_rfl) (fun _ _ _ h => h) (Or.inl ⟨by rfl, ?_⟩) hHeld ?_
                  rotate_left
                  · intro u hSu
                    have r0 := FQ.out u hSu
                    (go_simp) <;> (with_reducible rfl)
                  change wpAnyH _ _ _ _ _ _ _ (Act.put _ (some 58) _) _
                  simp only [Act.put, List.setIfInBounds_toArray, List.set_cons_zero, List.set_cons_succ]
                  refine wpAnyH_take (i := 12) (v := ?_) rfl (by kernel_rfl) (by kernel_rfl) (by kernel_rfl) (fun _ _ _ h => h) (Or.inl ⟨by rfl, ?_⟩) hHeld ?_
                  rotate_left
                  · intro u hSu
                    (go_simp) <;> (with_reducible rfl)
                  change wpAnyH _ _ _ _ _ _ _ (Act.put _ (some 59) _) _
                  simp only [Act.put, List.setIfInBounds_toArray, List.set_cons_zero, List.set_cons_succ]
                  refine wpAnyH_take (i := 13) (v := ?_) rfl (by kernel_rfl) (by kernel_rfl) (by kernel_rfl) (fun _ _ _ h => h) (Or.inl ⟨by rfl, ?_⟩) hHeld ?_
                  rotate_left
                  · intro u hSu
                    (go_simp) <;> (with_reducible rfl)
                  change wpAnyH _ _ _ _ _ _ _ (Act.put _ (some 60) _) _
                  simp only [Act.put, List.setIfInBounds_toArray, List.set_cons_zero, List.set_cons_succ]
                  refine wpAnyH_take (i := 14) (v := ?_) rfl (by kernel_rfl) (by kernel_rfl) (by kernel_rfl) (fun _ _ _ h => h) (Or.inl ⟨by rfl, ?_⟩) hHeld ?_
                  rotate_left
                  · intro u hSu
                    (go_simp) <;> (with_reducible rfl)
                  change wpAnyH _ _ _ _ _ _ _ (Act.put _ (some 61) _) _
                  simp only [Act.put, List.setIfInBounds_toArray, List.set_cons_zero, List.set_cons_succ]
                  refine wpAnyH_take (i := 15) (v := ?_) rfl (by kernel_rfl) (by kernel_rfl) (by kernel_rfl) (fun _ _ _ h => h) (Or.inl ⟨by rfl, ?_⟩) hHeld ?_
                  rotate_left
                  · intro u hSu
                    have r0 := FI.out u hSu
                    (go_simp) <;> (with_reducible rfl)
                  change wpAnyH _ _ _ _ _ _ _ (Act.put _ (some 62) _) _
                  simp only [Act.put, List.setIfInBounds_toArray, List.set_cons_zero, List.set_cons_succ]
                  refine wpAnyH_take (i := 16) (v := ?_) rfl (by kernel_rfl) (by kernel_rfl) (by kernel_rfl) (fun _ _ _ h => h) (Or.inl ⟨by rfl, ?_⟩) hHeld ?_
                  rotate_left
                  · intro u hSu
                    (go_simp) <;> (with_reducible rfl)
                  change wpAnyH _ _ _ _ _ _ _ (Act.put _ (some 63) _) _
                  simp only [Act.put, List.setIfInBounds_toArray, List.set_cons_zero, List.set_cons_succ]
                  refine wpAnyH_take (i := 17) (v := ?_) rfl (by kernel_rfl) (by kernel_rfl) (by kernel_rfl) (fun _ _ _ h => h) (Or.inl ⟨by rfl, ?_⟩) hHeld ?_
                  rotate_left
                  · intro u hSu
                    obtain ⟨r0, _⟩ := FBX.out u hSu
                    (go_simp) <;> (with_reducible rfl)
                  change wpAnyH _ _ _ _ _ _ _ (Act.put _ (some 64) _) _
                  simp only [Act.put, List.setIfInBounds_toArray, List.set_cons_zero, List.set_cons_succ]
                  refine wpAnyH_take (i := 18) (v := ?_) rfl (by kernel_rfl) (by kernel_rfl) (by kernel_rfl) (fun _ _ _ h => h) (Or.inl ⟨by rfl, ?_⟩) hHeld ?_
                  rotate_left
                  · intro u hSu
                    (go_simp) <;> (with_reducible rfl)
                  change wpAnyH _ _ _ _ _ _ _ (Act.put _ (some 65) _) _
                  simp only [Act.put, List.setIfInBounds_toArray, List.set_cons_zero, List.set_cons_succ]
                  refine wpAnyH_take (i := 19) (v := ?_) rfl (by kernel_rfl) (by kernel_rfl) (by kernel_rfl) (fun _ _ _ h => h) (Or.inl ⟨by rfl, ?_⟩) hHeld ?_
                  rotate_left
                  · intro u hSu
                    (go_simp) <;> (with_reducible rfl)
                  change wpAnyH _ _ _ _ _ _ _ (Act.put _ (some 66) _) _
                  simp only [Act.put, List.setIfInBounds_toArray, List.set_cons_zero, List.set_cons_succ]
                  refine wpAnyH_done (by kernel_rfl) ?_ _
                  refine NoPanic.normal ?_
                  go_wp2
                  go_roundw
                  case rel => exact ⟨J + 1, by go_num, by omega, HB.out.drew, HJ2⟩
                  case measure => simp [intOf]; omega
                · have bl : decide (xi < id) = false := decide_eq_false hlx
                  have HE : Hid (R = (0, (ents M).take J ++ (⟨id, s, m, t, n, l⟩ : Ent) :: (ents M).drop J)) := by show R = _; rw [HA2.out, placeT_e (by rw [HN0.out]; exact hJ) HJ.out (.inr ⟨x, HXI.out, by rw [← HXE.out]; exact hlx⟩)]
                  clear hlx hag HA2
                  go_wp2
                  refine wp_region_noPanic ?_
                  refine wp_region_held_drew (S := fun u => Below wr.heap.size wr u) (by kernel_rfl) ?_ (fun hHeld => ?_)
                  · exact (Below.refl _ _).drew
                  refine wpAnyH_take (i := 0) (v := ?_) rfl (by kernel_rfl) (by kernel_rfl) (by kernel_rfl) (fun _ _ _ h => h) (Or.inl ⟨by rfl, ?_⟩) hHeld ?_
                  rotate_left
                  · intro u hSu
                    (go_simp) <;> (with_reducible rfl)
                  change wpAnyH _ _ _ _ _ _ _ (Act.put _ (some 47) _) _
                  simp only [Act.put, List.setIfInBounds_toArray, List.set_cons_zero, List.set_cons_succ]
                  refine wpAnyH_take (i := 1) (v := ?_) rfl (by kernel_rfl) (by kernel_rfl) (by kernel_rfl) (fun _ _ _ h => h) (Or.inl ⟨by rfl, ?_⟩) hHeld ?_
                  rotate_left
                  · intro u hSu
                    (go_simp) <;> (with_reducible rfl)
                  change wpAnyH _ _ _ _ _ _ _ (Act.put _ (some 48) _) _
                  simp only [Act.put, List.setIfInBounds_toArray, List.set_cons_zero, List.set_cons_succ]
                  refine wpAnyH_take (i := 2) (v := ?_) rfl (by kernel_rfl) (by kernel_rfl) (by kernel_rfl) (fun _ _ _ h => h) (Or.inl ⟨by rfl, ?_⟩) hHeld ?_
                  rotate_left
                  · intro u hSu
                    (go_simp) <;> (with_reducible rfl)
                  change wpAnyH _ _ _ _ _ _ _ (Act.put _ (some 49) _) _
                  simp only [Act.put, List.setIfInBounds_toArray, List.set_cons_zero, List.set_cons_succ]
                  refine wpAnyH_take (i := 3) (v := ?_) rfl (by kernel_rfl) (by kernel_rfl) (by kernel_rfl) (fun _ _ _ h => h) (Or.inl ⟨by rfl, ?_⟩) hHeld ?_
                  rotate_left
                  · intro u hSu
                    (go_simp) <;> (with_reducible rfl)
                  change wpAnyH _ _ _ _ _ _ _ (Act.put _ (some 50) _) _
                  simp only [Act.put, List.setIfInBounds_toArray, List.set_cons_zero, List.set_cons_succ]
                  refine wpAnyH_take (i := 4) (v := ?_) rfl (by kernel_rfl) (by kernel_rfl) (by kernel_rfl) (fun _ _ _ h => h) (Or.inl ⟨by rfl, ?_⟩) hHeld ?_
                  rotate_left
                  · intro u hSu
                    have r0 := FQ.out u hSu
                    (go_simp) <;> (with_reducible rfl)
                  change wpAnyH _ _ _ _ _ _ _ (Act.put _ (some 51) _) _
                  simp only [Act.put, List.setIfInBounds_toArray, List.set_cons_zero, List.set_cons_succ]
                  refine wpAnyH_take (i := 5) (v := ?_) rfl (by kernel_rfl) (by kernel_rfl) (by kernel_rfl) (fun _ _ _ h => h) (Or.inl ⟨by rfl, ?_⟩) hHeld ?_
                  rotate_left
                  · intro u hSu
                    (go_simp) <;> (with_reducible rfl)
                  change wpAnyH _ _ _ _ _ _ _ (Act.put _ (some 52) _) _
                  simp only [Act.put, List.setIfInBounds_toArray, List.set_cons_zero, List.set_cons_succ]
                  refine wpAnyH_take (i := 6) (v := ?_) rfl (by kernel_rfl) (by kernel_rfl) (by kernel_rfl) (fun _ _ _ h => h) (Or.inl ⟨by rfl, ?_⟩) hHeld ?_
                  rotate_left
                  · intro u hSu
                    (go_simp) <;> (with_reducible rfl)
                  change wpAnyH _ _ _ _ _ _ _ (Act.put _ (some 53) _) _
                  simp only [Act.put, List.setIfInBounds_toArray, List.set_cons_zero, List.set_cons_succ]
                  refine wpAnyH_take (i := 7) (v := ?_) rfl (by kernel_rfl) (by kernel_rfl) (by kernel_rfl) (fun _ _ _ h => h) (Or.inl ⟨by rfl, ?_⟩) hHeld ?_
                  rotate_left
                  · intro u hSu
                    (go_simp) <;> (with_reducible rfl)
                  change wpAnyH _ _ _ _ _ _ _ (Act.put _ (some 54) _) _
                  simp only [Act.put, List.setIfInBounds_toArray, List.set_cons_zero, List.set_cons_succ]
                  refine wpAnyH_take (i := 8) (v := ?_) rfl (by kernel_rfl) (by kernel_rfl) (by kernel_rfl) (fun _ _ _ h => h) (Or.inl ⟨by rfl, ?_⟩) hHeld ?_
                  rotate_left
                  · intro u hSu
                    (go_simp) <;> (with_reducible rfl)
                  change wpAnyH _ _ _ _ _ _ _ (Act.put _ (some 55) _) _
                  simp only [Act.put, List.setIfInBounds_toArray, List.set_cons_zero, List.set_cons_succ]
                  refine wpAnyH_take (i := 9) (v := ?_) rfl (by kernel_rfl) (by kernel_rfl) (by kernel_rfl) (fun _ _ _ h => h) (Or.inl ⟨by rfl, ?_⟩) hHeld ?_
                  rotate_left
                  · intro u hSu
                    (go_simp) <;> (with_reducible rfl)
                  change wpAnyH _ _ _ _ _ _ _ (Act.put _ (some 56) _) _
                  simp only [Act.put, List.setIfInBounds_toArray, List.set_cons_zero, List.set_cons_succ]
                  refine wpAnyH_take (i := 10) (v := ?_) rfl (by kernel_rfl) (by kernel_rfl) (by kernel_rfl) (fun _ _ _ h => h) (Or.inl ⟨by rfl, ?_⟩) hHeld ?_
                  rotate_left
                  · intro u hSu
                    (go_simp) <;> (with_reducible rfl)
                  change wpAnyH _ _ _ _ _ _ _ (Act.put _ (some 57) _) _
                  simp only [Act.put, List.setIfInBounds_toArray, List.set_cons_zero, List.set_cons_succ]
                  refine wpAnyH_take (i := 11) (v := ?_) rfl (by kernel_rfl) (by kernel_rfl) (by kernel_rfl) (fun _ _ _ h => h) (Or.inl ⟨by rfl, ?_⟩) hHeld ?_
                  rotate_left
                  · intro u hSu
                    have r0 := FQ.out u hSu
                    (go_simp) <;> (with_reducible rfl)
                  change wpAnyH _ _ _ _ _ _ _ (Act.put _ (some 58) _) _
                  simp only [Act.put, List.setIfInBounds_toArray, List.set_cons_zero, List.set_cons_succ]
                  refine wpAnyH_take (i := 12) (v := ?_) rfl (by kernel_rfl) (by kernel_rfl) (by kernel_rfl) (fun _ _ _ h => h) (Or.inl ⟨by rfl, ?_⟩) hHeld ?_
                  rotate_left
                  · intro u hSu
                    (go_simp) <;> (with_reducible rfl)
                  change wpAnyH _ _ _ _ _ _ _ (Act.put _ (some 59) _) _
                  simp only [Act.put, List.setIfInBounds_toArray, List.set_cons_zero, List.set_cons_succ]
                  refine wpAnyH_take (i := 13) (v := ?_) rfl (by kernel_rfl) (by kernel_rfl) (by kernel_rfl) (fun _ _ _ h => h) (Or.inl ⟨by rfl, ?_⟩) hHeld ?_
                  rotate_left
                  · intro u hSu
                    (go_simp) <;> (with_reducible rfl)
                  change wpAnyH _ _ _ _ _ _ _ (Act.put _ (some 60) _) _
                  simp only [Act.put, List.setIfInBounds_toArray, List.set_cons_zero, List.set_cons_succ]
                  refine wpAnyH_take (i := 14) (v := ?_) rfl (by kernel_rfl) (by kernel_rfl) (by kernel_rfl) (fun _ _ _ h => h) (Or.inl ⟨by rfl, ?_⟩) hHeld ?_
                  rotate_left
                  · intro u hSu
                    (go_simp) <;> (with_reducible rfl)
                  change wpAnyH _ _ _ _ _ _ _ (Act.put _ (some 61) _) _
                  simp only [Act.put, List.setIfInBounds_toArray, List.set_cons_zero, List.set_cons_succ]
                  refine wpAnyH_take (i := 15) (v := ?_) rfl (by kernel_rfl) (by kernel_rfl) (by kernel_rfl) (fun _ _ _ h => h) (Or.inl ⟨by rfl, ?_⟩) hHeld ?_
                  rotate_left
                  · intro u hSu
                    have r0 := FI.out u hSu
                    (go_simp) <;> (with_reducible rfl)
                  change wpAnyH _ _ _ _ _ _ _ (Act.put _ (some 62) _) _
                  simp only [Act.put, List.setIfInBounds_toArray, List.set_cons_zero, List.set_cons_succ]
                  refine wpAnyH_take (i := 16) (v := ?_) rfl (by kernel_rfl) (by kernel_rfl) (by kernel_rfl) (fun _ _ _ h => h) (Or.inl ⟨by rfl, ?_⟩) hHeld ?_
                  rotate_left
                  · intro u hSu
                    (go_simp) <;> (with_reducible rfl)
                  change wpAnyH _ _ _ _ _ _ _ (Act.put _ (some 63) _) _
                  simp only [Act.put, List.setIfInBounds_toArray, List.set_cons_zero, List.set_cons_succ]
                  refine wpAnyH_take (i := 17) (v := ?_) rfl (by kernel_rfl) (by kernel_rfl) (by kernel_rfl) (fun _ _ _ h => h) (Or.inl ⟨by rfl, ?_⟩) hHeld ?_
                  rotate_left
                  · intro u hSu
                    obtain ⟨r0, _⟩ := FBX.out u hSu
                    (go_simp) <;> (with_reducible rfl)
                  change wpAnyH _ _ _ _ _ _ _ (Act.put _ (some 64) _) _
                  simp only [Act.put, List.setIfInBounds_toArray, List.set_cons_zero, List.set_cons_succ]
                  refine wpAnyH_take (i := 18) (v := ?_) rfl (by kernel_rfl) (by kernel_rfl) (by kernel_rfl) (fun _ _ _ h => h) (Or.inl ⟨by rfl, ?_⟩) hHeld ?_
                  rotate_left
                  · intro u hSu
                    (go_simp) <;> (with_reducible rfl)
                  change wpAnyH _ _ _ _ _ _ _ (Act.put _ (some 65) _) _
                  simp only [Act.put, List.setIfInBounds_toArray, List.set_cons_zero, List.set_cons_succ]
                  refine wpAnyH_take (i := 19) (v := ?_) rfl (by kernel_rfl) (by kernel_rfl) (by kernel_rfl) (fun _ _ _ h => h) (Or.inl ⟨by rfl, ?_⟩) hHeld ?_
                  rotate_left
                  · intro u hSu
                    (go_simp) <;> (with_reducible rfl)
                  change wpAnyH _ _ _ _ _ _ _ (Act.put _ (some 66) _) _
                  simp only [Act.put, List.setIfInBounds_toArray, List.set_cons_zero, List.set_cons_succ]
                  refine wpAnyH_done (by kernel_rfl) ?_ _
                  refine NoPanic.normal ?_
                  have HBY : Hid (Below V0.heap.size V0 wr.drew) := HB.out.drew
                  obtain ⟨Y0, hY0⟩ : ∃ Y0, Y0 = wr.drew := ⟨_, rfl⟩
                  rw [← hY0] at HBY ⊢
                  clear hY0 FQ FBX FI
                  have HWY : Hid (Below w.heap.size w Y0) := HBW.out.trans (HBY.out.mono HBW.out.size)
                  have hVs : V0.heap.size ≤ Y0.heap.size := HBY.out.size
                  obtain ⟨y0, y1, y2, y3, y4, y5⟩ := FE.out (Y0.alloc (.cells #[] 80)) (HBY.out.alloc HBY.out.size _)
                  clear y0 y1 y2 y3 y4
                  go_wp2_with (at_builtin; refine wpList_own wrtEl (w0 := Y0) rfl (.tmp 69) (.tmp 71) rfl _ 0 [] (l.flatMap encW) rfl (own_rawT _ _ Y0) _ _ _ rfl HLW.out (HWL.out _ (HWY.out.alloc HWY.out.size _)) (encWs_one l) HNW.out N (Nat.zero_add _) (by omega) _ (List.nil_append _) ?_; intro a7 c7 w7 h1 h2; have O7 : Hid (OwnB 80 18 Y0 w7 (.slice a7 N c7) N (l.flatMap encW)) := h1; have B7 : Hid (Below V0.heap.size V0 w7) := HBY.out.trans (h1.below.mono HBY.out.size); obtain ⟨_, _, _, _, _, z5⟩ := FE.out w7 B7.out; have f5 := FF.out w7 B7.out 5 (by omega); clear h1 h2 y5)
                  have HUF : Hid (AddU w V0 Y0 (w7.setCell ⟨w.heap.size, 5, none⟩ (.slice a7 N c7)) ⟨(⟨id, s, m, t, n, l⟩ : Ent), a7, c7⟩) := addU_made HBW.out HBY.out O7.out (FE.out w7 B7.out) hsz HLN.out HWO.out hN6 HEO.out
                  clear z5 f5 O7 B7
                  generalize w7.setCell ⟨w.heap.size, 5, none⟩ (.slice a7 N c7) = U at HUF ⊢
                  obtain ⟨Y, hY⟩ : ∃ Y : EntM, Y = ⟨(⟨id, s, m, t, n, l⟩ : Ent), a7, c7⟩ := ⟨_, rfl⟩
                  rw [← hY] at HUF
                  have HYE : Hid (Y.e = (⟨id, s, m, t, n, l⟩ : Ent)) := by rw [hY]; rfl
                  clear hY
                  have HWU : Hid (Below w.heap.size w U) := HUF.out.below
                  have HKU : Hid (∀ u, Below U.heap.size U u → u.cell? ⟨q, 0, none⟩ = some (.slice a0 N0 c0) ∧ u.frozen? ⟨q, 0, none⟩ = false) := fun u hb => by
                    have hb' := HWU.out.trans (hb.mono HWU.out.size)
                    exact ⟨HCE.out u hb', (hb'.frozen (p := ⟨q, 0, none⟩) HTB.out.lt).trans HTB.out.free⟩
                  have FVV : Hid (∀ u, Below U.heap.size U u → EntAt u w.heap.size 0 Y) := fun u hb => HUF.out.at_.past hb
                  have hsT : ∀ u, (Instr.slice 69 (.slice a0 N0 c0) none (some (.int .i64 (J : Int))) none).run Tryz.prog u = .ok (.slice a0 J c0) u := fun u => slice_entsT u _ HA0.out N0 c0 J (by omega) (fun e => (hnil e).1) (fun e => (hnil e).2)
                  obtain ⟨A2, hA2⟩ : ∃ A2, A2 = dropE a0 c0 J := ⟨_, rfl⟩
                  have hsL : ∀ u, (Instr.slice 69 (.slice a0 N0 c0) (some (.int .i64 (J : Int))) none none).run Tryz.prog u = .ok (.slice A2 (N0 - J) (c0 - J)) u := fun u => by rw [hA2]; exact slice_entsL u _ HA0.out N0 c0 J (by omega) hcap (fun e => (hnil e).1)
                  obtain ⟨AA, hAA⟩ : ∃ AA, AA = (M.take J).flatMap encE := ⟨_, rfl⟩
                  obtain ⟨BB, hBB⟩ : ∃ BB, BB = (M.drop J).flatMap encE := ⟨_, rfl⟩
                  have LA : Hid (AA.length = J * 6) := by show _ = _; rw [hAA, flat_len (enc := encE) (size := 6) _ (fun x hx => encE_len x), List.length_take, HN0.out]; omega
                  have LB : Hid (BB.length = (N0 - J) * 6) := by show _ = _; rw [hBB, flat_len (enc := encE) (size := 6) _ (fun x hx => encE_len x), List.length_drop, HN0.out]
                  have HLV : Hid ((encE Y).length = 1 * 6) := encE_len Y
                  have S1 : Hid (∀ u, Below U.heap.size U u → Lies u a0 AA) := fun u hb => by rw [hAA]; exact lies_takeE HA0.out (HLI.out u (HWU.out.trans (hb.mono HWU.out.size)))
                  have S2 : Hid (∀ u, Below U.heap.size U u → Lies u A2 BB) := fun u hb => by rw [hBB, hA2]; exact lies_dropE HA0.out (HLI.out u (HWU.out.trans (hb.mono HWU.out.size))) (by rw [HN0.out]; exact hcap)
                  have O1 : Hid (∀ u ∈ AA, u.oneCell' = true) := by rw [hAA]; exact encEs_one _
                  have O2 : Hid (∀ u ∈ BB, u.oneCell' = true) := by rw [hBB]; exact encEs_one _
                  have OV : Hid (∀ u ∈ encE Y, u.oneCell' = true) := encE_one Y
                  have N1 : Hid (a0 = none → J = 0 ∧ c0 = 0) := fun e => ⟨by have := (hnil e).2; omega, (hnil e).1⟩
                  have N2 : Hid (A2 = none → N0 - J = 0 ∧ c0 - J = 0) := fun e => by
                    have e' : a0 = none := dropE_none (by rw [← hA2]; exact e)
                    have h1 := hnil e'; omega
                  have HEND : Hid (∀ (w5 : World) (a5 : Option Addr) (c5 : Nat), OwnB 58 6 U w5 (.slice a5 (J + 1 + (N0 - J)) c5) (J + 1 + (N0 - J)) (AA ++ encE Y ++ BB) → Ending.returned (.int .i64 0) = .returned (.int .i64 R.1) ∧ ∃ M', ents M' = R.2 ∧ TabR (w5.setCell ⟨q, 0, none⟩ (.slice a5 (J + 1 + (N0 - J)) c5)) B q M' ∧ Chg w (w5.setCell ⟨q, 0, none⟩ (.slice a5 (J + 1 + (N0 - J)) c5)) (fun k => k = q) ∧ RowedT w (w5.setCell ⟨q, 0, none⟩ (.slice a5 (J + 1 + (N0 - J)) c5)) q ∧ NewW w M M') := fun w5 a5 c5 ho => by
                    have hb5 : Below w.heap.size w w5 := HWU.out.trans (ho.below.mono HWU.out.size)
                    have ho' := ho.own
                    have he : AA ++ encE Y ++ BB = (M.take J ++ Y :: M.drop J).flatMap encE := by rw [hAA, hBB]; simp
                    rw [he] at ho'
                    rw [HE.out]
                    have hnew : NewW w M (M.take J ++ Y :: M.drop J) := fun x hx => by
                      rcases List.mem_append.1 hx with e | e
                      · exact .inl (List.mem_of_mem_take e)
                      · rcases List.mem_cons.1 e with rfl | e
                        · exact .inr (fun h1 b o e => Nat.le_of_lt (HUF.out.far h1 b o e))
                        · exact .inl (List.mem_of_mem_drop e)
                    refine ⟨rfl, M.take J ++ Y :: M.drop J, by rw [← HYE.out]; simp [ents], and4 hnew (HTB.out.set HBB.out hb5 (by rw [List.length_append, List.length_cons, List.length_take, List.length_drop, HN0.out]; omega) ho' HWU.out.size (fun x hx => ?_) (fun x hx => ?_) (by rw [List.length_append, List.length_cons, List.length_take, List.length_drop, HN0.out]; omega))⟩
                    · rcases List.mem_append.1 hx with e | e
                      · exact (HTB.out.wrs x (List.mem_of_mem_take e)).past hb5
                      · rcases List.mem_cons.1 e with rfl | e
                        · exact HUF.out.ent.past ho.below
                        · exact (HTB.out.wrs x (List.mem_of_mem_drop e)).past hb5
                    · rcases List.mem_append.1 hx with e | e
                      · exact HTB.out.far x (List.mem_of_mem_take e)
                      · rcases List.mem_cons.1 e with rfl | e
                        · exact fun h1 b o e => by have h8 := HUF.out.far h1 b o e; have h9 := HTB.out.lt; omega
                        · exact HTB.out.far x (List.mem_of_mem_drop e)
                  clear hAA hBB hA2
                  go_wp2
                  refine wp_region_noPanic ?_
                  refine region_till 21 (fun u => Below U.heap.size U u) (by kernel_rfl) ?_ (fun hHeld => ?_)
                  · exact (Below.refl _ _).drew
                  refine till_take (i := 0) (v := ?_) 0 (by kernel_rfl) (Or.inl rfl) (by kernel_rfl) rfl (by kernel_rfl) (by kernel_rfl) (by kernel_rfl) (fun _ _ _ h => h) (Or.inl ⟨by rfl, ?_⟩) hHeld ?_
                  rotate_left
                  · intro u hSu
                    (go_simp) <;> (with_reducible rfl)
                  change wpTill _ _ _ _ _ _ _ _ (Act.put _ (some 74) _) _
                  simp only [Act.put, List.setIfInBounds_toArray, List.set_cons_zero, List.set_cons_succ]
                  refine till_take (i := 2) (v := ?_) 2 (by kernel_rfl) (Or.inl rfl) (by kernel_rfl) rfl (by kernel_rfl) (by kernel_rfl) (by kernel_rfl) (fun _ _ _ h => h) (Or.inl ⟨by rfl, ?_⟩) hHeld ?_
                  rotate_left
                  · intro u hSu
                    (go_simp) <;> (with_reducible rfl)
                  change wpTill _ _ _ _ _ _ _ _ (Act.put _ (some 76) _) _
                  simp only [Act.put, List.setIfInBounds_toArray, List.set_cons_zero, List.set_cons_succ]
                  refine till_take (i := 3) (v := ?_) 3 (by kernel_rfl) (Or.inl rfl) (by kernel_rfl) rfl (by kernel_rfl) (by kernel_rfl) (by kernel_rfl) (fun _ _ _ h => h) (Or.inl ⟨by rfl, ?_⟩) hHeld ?_
                  rotate_left
                  · intro u hSu
                    (go_simp) <;> (with_reducible rfl)
                  change wpTill _ _ _ _ _ _ _ _ (Act.put _ (some 77) _) _
                  simp only [Act.put, List.setIfInBounds_toArray, List.set_cons_zero, List.set_cons_succ]
                  refine till_take (i := 4) (v := ?_) 4 (by kernel_rfl) (Or.inl rfl) (by kernel_rfl) rfl (by kernel_rfl) (by kernel_rfl) (by kernel_rfl) (fun _ _ _ h => h) (Or.inl ⟨by rfl, ?_⟩) hHeld ?_
                  rotate_left
                  · intro u hSu
                    (go_simp) <;> (with_reducible rfl)
                  change wpTill _ _ _ _ _ _ _ _ (Act.put _ (some 78) _) _
                  simp only [Act.put, List.setIfInBounds_toArray, List.set_cons_zero, List.set_cons_succ]
                  refine till_take (i := 5) (v := ?_) 5 (by kernel_rfl) (Or.inl rfl) (by kernel_rfl) rfl (by kernel_rfl) (by kernel_rfl) (by kernel_rfl) (fun _ _ _ h => h) (Or.inl ⟨by rfl, ?_⟩) hHeld ?_
                  rotate_left
                  · intro u hSu
                    obtain ⟨q1, q5⟩ := HKU.out u hSu
                    (go_simp) <;> (with_reducible rfl)
                  change wpTill _ _ _ _ _ _ _ _ (Act.put _ (some 79) _) _
                  simp only [Act.put, List.setIfInBounds_toArray, List.set_cons_zero, List.set_cons_succ]
                  refine till_take (i := 6) (v := ?_) 6 (by kernel_rfl) (Or.inl rfl) (by kernel_rfl) rfl (by kernel_rfl) (by kernel_rfl) (by kernel_rfl) (fun _ _ _ h => h) (Or.inl ⟨by rfl, ?_⟩) hHeld ?_
                  rotate_left
                  · intro u hSu
                    (go_simp) <;> (with_reducible rfl)
                  change wpTill _ _ _ _ _ _ _ _ (Act.put _ (some 80) _) _
                  simp only [Act.put, List.setIfInBounds_toArray, List.set_cons_zero, List.set_cons_succ]
                  refine till_take (i := 7) (v := ?_) 7 (by kernel_rfl) (Or.inl rfl) (by kernel_rfl) rfl (by kernel_rfl) (by kernel_rfl) (by kernel_rfl) (fun _ _ _ h => h) (Or.inl ⟨by rfl, ?_⟩) hHeld ?_
                  rotate_left
                  · intro u hSu
                    have q := hsT u
                    (go_simp) <;> (with_reducible rfl)
                  change wpTill _ _ _ _ _ _ _ _ (Act.put _ (some 81) _) _
                  simp only [Act.put, List.setIfInBounds_toArray, List.set_cons_zero, List.set_cons_succ]
                  refine till_take (i := 9) (v := ev Y) 9 (by kernel_rfl) (Or.inl rfl) (by kernel_rfl) rfl (by kernel_rfl) (by kernel_rfl) (by kernel_rfl) (fun _ _ _ h => h) (yieldsIf_load_mid (by rfl) _ _ rfl _ _ rfl (encE Y) _ (fun u hu => (FVV.out u hu).lies.range) Tryz.underlying58 rfl (by rw [info_ent, encE_len])) hHeld ?_
                  change wpTill _ _ _ _ _ _ _ _ (Act.put _ (some 83) _) _
                  simp only [Act.put, List.setIfInBounds_toArray, List.set_cons_zero, List.set_cons_succ]
                  refine till_take (i := 12) (v := ?_) 12 (by kernel_rfl) (Or.inl rfl) (by kernel_rfl) rfl (by kernel_rfl) (by kernel_rfl) (by kernel_rfl) (fun _ _ _ h => h) (Or.inl ⟨by rfl, ?_⟩) hHeld ?_
                  rotate_left
                  · intro u hSu
                    (go_simp) <;> (with_reducible rfl)
                  change wpTill _ _ _ _ _ _ _ _ (Act.put _ (some 86) _) _
                  simp only [Act.put, List.setIfInBounds_toArray, List.set_cons_zero, List.set_cons_succ]
                  refine till_take (i := 13) (v := ?_) 13 (by kernel_rfl) (Or.inl rfl) (by kernel_rfl) rfl (by kernel_rfl) (by kernel_rfl) (by kernel_rfl) (fun _ _ _ h => h) (Or.inl ⟨by rfl, ?_⟩) hHeld ?_
                  rotate_left
                  · intro u hSu
                    (go_simp) <;> (with_reducible rfl)
                  change wpTill _ _ _ _ _ _ _ _ (Act.put _ (some 87) _) _
                  simp only [Act.put, List.setIfInBounds_toArray, List.set_cons_zero, List.set_cons_succ]
                  refine till_take (i := 14) (v := ?_) 14 (by kernel_rfl) (Or.inl rfl) (by kernel_rfl) rfl (by kernel_rfl) (by kernel_rfl) (by kernel_rfl) (fun _ _ _ h => h) (Or.inl ⟨by rfl, ?_⟩) hHeld ?_
                  rotate_left
                  · intro u hSu
                    (go_simp) <;> (with_reducible rfl)
                  change wpTill _ _ _ _ _ _ _ _ (Act.put _ (some 88) _) _
                  simp only [Act.put, List.setIfInBounds_toArray, List.set_cons_zero, List.set_cons_succ]
                  refine till_take (i := 15) (v := ?_) 15 (by kernel_rfl) (Or.inl rfl) (by kernel_rfl) rfl (by kernel_rfl) (by kernel_rfl) (by kernel_rfl) (fun _ _ _ h => h) (Or.inl ⟨by rfl, ?_⟩) hHeld ?_
                  rotate_left
                  · intro u hSu
                    obtain ⟨q1, q5⟩ := HKU.out u hSu
                    (go_simp) <;> (with_reducible rfl)
                  change wpTill _ _ _ _ _ _ _ _ (Act.put _ (some 89) _) _
                  simp only [Act.put, List.setIfInBounds_toArray, List.set_cons_zero, List.set_cons_succ]
                  refine till_take (i := 16) (v := ?_) 16 (by kernel_rfl) (Or.inl rfl) (by kernel_rfl) rfl (by kernel_rfl) (by kernel_rfl) (by kernel_rfl) (fun _ _ _ h => h) (Or.inl ⟨by rfl, ?_⟩) hHeld ?_
                  rotate_left
                  · intro u hSu
                    (go_simp) <;> (with_reducible rfl)
                  change wpTill _ _ _ _ _ _ _ _ (Act.put _ (some 90) _) _
                  simp only [Act.put, List.setIfInBounds_toArray, List.set_cons_zero, List.set_cons_succ]
                  refine till_take (i := 17) (v := ?_) 17 (by kernel_rfl) (Or.inl rfl) (by kernel_rfl) rfl (by kernel_rfl) (by kernel_rfl) (by kernel_rfl) (fun _ _ _ h => h) (Or.inl ⟨by rfl, ?_⟩) hHeld ?_
                  rotate_left
                  · intro u hSu
                    have q := hsL u
                    (go_simp) <;> (with_reducible rfl)
                  change wpTill _ _ _ _ _ _ _ _ (Act.put _ (some 91) _) _
                  simp only [Act.put, List.setIfInBounds_toArray, List.set_cons_zero, List.set_cons_succ]
                  refine till_ready (rs := [1, 10]) (by kernel_rfl) (by simp) ?_
                  refine AllTill.cons rfl (fun K hK => ?_) ?_
                  · go_simp
                    refine hK.out _ _ ?_ (fun hHeld2 => ?_)
                    · exact hHeld.alloc hHeld.size _
                    clear hK K hHeld
                    have hHeld := hHeld2
                    clear hHeld2
                    refine till_ready (rs := [8, 10]) (by kernel_rfl) (by simp) ?_
                    refine AllTill.cons rfl (fun K hK => ?_) ?_
                    · refine step_own entEl (w0 := U) rfl (.tmp 75) (.tmp 81) rfl _ 0 [] AA rfl (own_one 58 6 U) _ _ _ rfl LA.out (S1.out _ (own_one 58 6 U).below) O1.out N1.out J (Nat.zero_add _) (by omega) AA (List.nil_append _) ?_
                      intro a3 c3 w3 h1 h2
                      have HO3 : Hid (OwnB 58 6 U w3 (.slice a3 J c3) J AA) := h1
                      clear h1 h2
                      refine hK.out _ _ ?_ (fun hHeld2 => ?_)
                      · exact HO3.out.below
                      clear hK K hHeld
                      have hHeld := hHeld2
                      clear hHeld2
                      change wpTill _ _ _ _ _ _ _ _ (Act.put _ (some 82) _) _
                      simp only [Act.put, List.setIfInBounds_toArray, List.set_cons_zero, List.set_cons_succ]
                      refine till_ready (rs := [10]) (by kernel_rfl) (by simp) ?_
                      refine AllTill.cons rfl (fun K hK => ?_) AllTill.nil
                      refine step_build_ent rfl (.tmp 83) rfl Y rfl ?_
                      refine hK.out _ _ ?_ (fun hHeld2 => ?_)
                      · exact hHeld.alloc hHeld.size _
                      clear hK K hHeld
                      have hHeld := hHeld2
                      clear hHeld2
                      change wpTill _ _ _ _ _ _ _ _ (Act.put _ (some 84) _) _
                      simp only [Act.put, List.setIfInBounds_toArray, List.set_cons_zero, List.set_cons_succ]
                      refine till_ready (rs := [11]) (by kernel_rfl) (by simp) ?_
                      refine AllTill.cons rfl (fun K hK => ?_) AllTill.nil
                      refine step_own entEl (w0 := U) rfl (.tmp 82) (.tmp 84) rfl _ J AA (encE Y) rfl (HO3.out.alloc _) _ _ _ rfl HLV.out (lies_made _ _ _) OV.out (fun h => by cases h) (J + 1) rfl (by omega) (AA ++ encE Y) rfl ?_
                      intro a4 c4 w4 h1 h2
                      have HO4 : Hid (OwnB 58 6 U w4 (.slice a4 (J + 1) c4) (J + 1) (AA ++ encE Y)) := h1
                      clear h1 h2 HO3
                      refine hK.out _ _ ?_ (fun hHeld2 => ?_)
                      · exact HO4.out.below
                      clear hK K hHeld
                      have hHeld := hHeld2
                      clear hHeld2
                      change wpTill _ _ _ _ _ _ _ _ (Act.put _ (some 85) _) _
                      simp only [Act.put, List.setIfInBounds_toArray, List.set_cons_zero, List.set_cons_succ]
                      refine till_ready (rs := [18]) (by kernel_rfl) (by simp) ?_
                      refine AllTill.cons rfl (fun K hK => ?_) AllTill.nil
                      refine step_own entEl (w0 := U) rfl (.tmp 85) (.tmp 91) rfl _ (J + 1) (AA ++ encE Y) BB rfl HO4.out _ _ _ rfl LB.out (S2.out _ HO4.out.below) O2.out N2.out (J + 1 + (N0 - J)) rfl (by omega) (AA ++ encE Y ++ BB) rfl ?_
                      intro a5 c5 w5 h1 h2
                      have HO5 : Hid (OwnB 58 6 U w5 (.slice a5 (J + 1 + (N0 - J)) c5) (J + 1 + (N0 - J)) (AA ++ encE Y ++ BB)) := h1
                      clear h1 h2 HO4
                      refine hK.out _ _ ?_ (fun hHeld2 => ?_)
                      · exact HO5.out.below
                      clear hK K hHeld
                      have hHeld := hHeld2
                      clear hHeld2
                      change wpTill _ _ _ _ _ _ _ _ (Act.put _ (some 92) _) _
                      simp only [Act.put, List.setIfInBounds_toArray, List.set_cons_zero, List.set_cons_succ]
                      refine till_take (i := 19) (v := ?_) 20 (by kernel_rfl) (Or.inr (by kernel_rfl)) (by kernel_rfl) rfl (by kernel_rfl) (by kernel_rfl) (by kernel_rfl) (fun _ _ _ h => h) (Or.inl ⟨by rfl, ?_⟩) hHeld ?_
                      rotate_left
                      · intro u hSu
                        (go_simp) <;> (with_reducible rfl)
                      change wpTill _ _ _ _ _ _ _ _ (Act.put _ (some 93) _) _
                      simp only [Act.put, List.setIfInBounds_toArray, List.set_cons_zero, List.set_cons_succ]
                      refine till_take (i := 20) (v := ?_) 20 (by kernel_rfl) (Or.inl rfl) (by kernel_rfl) rfl (by kernel_rfl) (by kernel_rfl) (by kernel_rfl) (fun _ _ _ h => h) (Or.inl ⟨by rfl, ?_⟩) hHeld ?_
                      rotate_left
                      · intro u hSu
                        (go_simp) <;> (with_reducible rfl)
                      change wpTill _ _ _ _ _ _ _ _ (Act.put _ (some 94) _) _
                      simp only [Act.put, List.setIfInBounds_toArray, List.set_cons_zero, List.set_cons_succ]
                      refine till_last (by kernel_rfl) (by kernel_rfl) rfl (fun K hK => ?_)
                      obtain ⟨q1, q5⟩ := HKU.out w5 HO5.out.below
                      go_simp
                      refine hK.out _ _ ?_
                      refine NoPanic.normal ?_
                      clear hK K hHeld q1 q5
                      go_wp2
                      go_ret
                      exact HEND.out w5 a5 c5 HO5.out
                    refine AllTill.cons rfl (fun K hK => ?_) AllTill.nil
                    refine step_build_ent rfl (.tmp 83) rfl Y rfl ?_
                    refine hK.out _ _ ?_ (fun hHeld2 => ?_)
                    · exact hHeld.alloc hHeld.size _
                    clear hK K hHeld
                    have hHeld := hHeld2
                    clear hHeld2
                    change wpTill _ _ _ _ _ _ _ _ (Act.put _ (some 84) _) _
                    simp only [Act.put, List.setIfInBounds_toArray, List.set_cons_zero, List.set_cons_succ]
                    refine till_ready (rs := [8]) (by kernel_rfl) (by simp) ?_
                    refine AllTill.cons rfl (fun K hK => ?_) AllTill.nil
                    refine step_own entEl (w0 := U) rfl (.tmp 75) (.tmp 81) rfl _ 0 [] AA rfl (own_two 58 6 U _) _ _ _ rfl LA.out (S1.out _ (own_two 58 6 U _).below) O1.out N1.out J (Nat.zero_add _) (by omega) AA (List.nil_append _) ?_
                    intro a3 c3 w3 h1 h2
                    have HO3 : Hid (OwnB 58 6 U w3 (.slice a3 J c3) J AA) := h1
                    have HX3 : Hid (Lies w3 (some ⟨(U.alloc (Obj.cells #[] 58)).drew.heap.size, 0, none⟩) (encE Y)) := (by rw [show (U.alloc (Obj.cells #[] 58)).drew.heap.size = U.heap.size + 1 from by simp]; exact (made_two U 58 58 #[] _ _ _).step (v' := .slice none 0 0) h2)
                    clear h1 h2
                    refine hK.out _ _ ?_ (fun hHeld2 => ?_)
                    · exact HO3.out.below
                    clear hK K hHeld
                    have hHeld := hHeld2
                    clear hHeld2
                    change wpTill _ _ _ _ _ _ _ _ (Act.put _ (some 82) _) _
                    simp only [Act.put, List.setIfInBounds_toArray, List.set_cons_zero, List.set_cons_succ]
                    refine till_ready (rs := [11]) (by kernel_rfl) (by simp) ?_
                    refine AllTill.cons rfl (fun K hK => ?_) AllTill.nil
                    refine step_own entEl (w0 := U) rfl (.tmp 82) (.tmp 84) rfl _ J AA (encE Y) rfl (HO3.out) _ _ _ rfl HLV.out (HX3.out) OV.out (fun h => by cases h) (J + 1) rfl (by omega) (AA ++ encE Y) rfl ?_
                    intro a4 c4 w4 h1 h2
                    have HO4 : Hid (OwnB 58 6 U w4 (.slice a4 (J + 1) c4) (J + 1) (AA ++ encE Y)) := h1
                    clear h1 h2 HO3
                    refine hK.out _ _ ?_ (fun hHeld2 => ?_)
                    · exact HO4.out.below
                    clear hK K hHeld
                    have hHeld := hHeld2
                    clear hHeld2
                    change wpTill _ _ _ _ _ _ _ _ (Act.put _ (some 85) _) _
                    simp only [Act.put, List.setIfInBounds_toArray, List.set_cons_zero, List.set_cons_succ]
                    refine till_ready (rs := [18]) (by kernel_rfl) (by simp) ?_
                    refine AllTill.cons rfl (fun K hK => ?_) AllTill.nil
                    refine step_own entEl (w0 := U) rfl (.tmp 85) (.tmp 91) rfl _ (J + 1) (AA ++ encE Y) BB rfl HO4.out _ _ _ rfl LB.out (S2.out _ HO4.out.below) O2.out N2.out (J + 1 + (N0 - J)) rfl (by omega) (AA ++ encE Y ++ BB) rfl ?_
                    intro a5 c5 w5 h1 h2
                    have HO5 : Hid (OwnB 58 6 U w5 (.slice a5 (J + 1 + (N0 - J)) c5) (J + 1 + (N0 - J)) (AA ++ encE Y ++ BB)) := h1
                    clear h1 h2 HO4
                    refine hK.out _ _ ?_ (fun hHeld2 => ?_)
                    · exact HO5.out.below
                    clear hK K hHeld
                    have hHeld := hHeld2
                    clear hHeld2
                    change wpTill _ _ _ _ _ _ _ _ (Act.put _ (some 92) _) _
                    simp only [Act.put, List.setIfInBounds_toArray, List.set_cons_zero, List.set_cons_succ]
                    refine till_take (i := 19) (v := ?_) 20 (by kernel_rfl) (Or.inr (by kernel_rfl)) (by kernel_rfl) rfl (by kernel_rfl) (by kernel_rfl) (by kernel_rfl) (fun _ _ _ h => h) (Or.inl ⟨by rfl, ?_⟩) hHeld ?_
                    rotate_left
                    · intro u hSu
                      (go_simp) <;> (with_reducible rfl)
                    change wpTill _ _ _ _ _ _ _ _ (Act.put _ (some 93) _) _
                    simp only [Act.put, List.setIfInBounds_toArray, List.set_cons_zero, List.set_cons_succ]
                    refine till_take (i := 20) (v := ?_) 20 (by kernel_rfl) (Or.inl rfl) (by kernel_rfl) rfl (by kernel_rfl) (by kernel_rfl) (by kernel_rfl) (fun _ _ _ h => h) (Or.inl ⟨by rfl, ?_⟩) hHeld ?_
                    rotate_left
                    · intro u hSu
                      (go_simp) <;> (with_reducible rfl)
                    change wpTill _ _ _ _ _ _ _ _ (Act.put _ (some 94) _) _
                    simp only [Act.put, List.setIfInBounds_toArray, List.set_cons_zero, List.set_cons_succ]
                    refine till_last (by kernel_rfl) (by kernel_rfl) rfl (fun K hK => ?_)
                    obtain ⟨q1, q5⟩ := HKU.out w5 HO5.out.below
                    go_simp
                    refine hK.out _ _ ?_
                    refine NoPanic.normal ?_
                    clear hK K hHeld q1 q5
                    go_wp2
                    go_ret
                    exact HEND.out w5 a5 c5 HO5.out
                  refine AllTill.cons rfl (fun K hK => ?_) AllTill.nil
                  refine step_build_ent rfl (.tmp 83) rfl Y rfl ?_
                  refine hK.out _ _ ?_ (fun hHeld2 => ?_)
                  · exact hHeld.alloc hHeld.size _
                  clear hK K hHeld
                  have hHeld := hHeld2
                  clear hHeld2
                  change wpTill _ _ _ _ _ _ _ _ (Act.put _ (some 84) _) _
                  simp only [Act.put, List.setIfInBounds_toArray, List.set_cons_zero, List.set_cons_succ]
                  refine till_ready (rs := [1]) (by kernel_rfl) (by simp) ?_
                  refine AllTill.cons rfl (fun K hK => ?_) AllTill.nil
                  go_simp
                  refine hK.out _ _ ?_ (fun hHeld2 => ?_)
                  · exact hHeld.alloc hHeld.size _
                  clear hK K hHeld
                  have hHeld := hHeld2
                  clear hHeld2
                  refine till_ready (rs := [8]) (by kernel_rfl) (by simp) ?_
                  refine AllTill.cons rfl (fun K hK => ?_) AllTill.nil
                  refine step_own entEl (w0 := U) rfl (.tmp 75) (.tmp 81) rfl _ 0 [] AA rfl (own_behind 58 6 U _) _ _ _ rfl LA.out (S1.out _ (own_behind 58 6 U _).below) O1.out N1.out J (Nat.zero_add _) (by omega) AA (List.nil_append _) ?_
                  intro a3 c3 w3 h1 h2
                  have HO3 : Hid (OwnB 58 6 U w3 (.slice a3 J c3) J AA) := h1
                  have HX3 : Hid (Lies w3 (some ⟨U.heap.size, 0, none⟩) (encE Y)) := (made_ahead U 58 58 #[] _ _ _).step (v' := .slice none 0 0) h2
                  clear h1 h2
                  refine hK.out _ _ ?_ (fun hHeld2 => ?_)
                  · exact HO3.out.below
                  clear hK K hHeld
                  have hHeld := hHeld2
                  clear hHeld2
                  change wpTill _ _ _ _ _ _ _ _ (Act.put _ (some 82) _) _
                  simp only [Act.put, List.setIfInBounds_toArray, List.set_cons_zero, List.set_cons_succ]
                  refine till_ready (rs := [11]) (by kernel_rfl) (by simp) ?_
                  refine AllTill.cons rfl (fun K hK => ?_) AllTill.nil
                  refine step_own entEl (w0 := U) rfl (.tmp 82) (.tmp 84) rfl _ J AA (encE Y) rfl (HO3.out) _ _ _ rfl HLV.out (HX3.out) OV.out (fun h => by cases h) (J + 1) rfl (by omega) (AA ++ encE Y) rfl ?_
                  intro a4 c4 w4 h1 h2
                  have HO4 : Hid (OwnB 58 6 U w4 (.slice a4 (J + 1) c4) (J + 1) (AA ++ encE Y)) := h1
                  clear h1 h2 HO3
                  refine hK.out _ _ ?_ (fun hHeld2 => ?_)
                  · exact HO4.out.below
                  clear hK K hHeld
                  have hHeld := hHeld2
                  clear hHeld2
                  change wpTill _ _ _ _ _ _ _ _ (Act.put _ (some 85) _) _
                  simp only [Act.put, List.setIfInBounds_toArray, List.set_cons_zero, List.set_cons_succ]
                  refine till_ready (rs := [18]) (by kernel_rfl) (by simp) ?_
                  refine AllTill.cons rfl (fun K hK => ?_) AllTill.nil
                  refine step_own entEl (w0 := U) rfl (.tmp 85) (.tmp 91) rfl _ (J + 1) (AA ++ encE Y) BB rfl HO4.out _ _ _ rfl LB.out (S2.out _ HO4.out.below) O2.out N2.out (J + 1 + (N0 - J)) rfl (by omega) (AA ++ encE Y ++ BB) rfl ?_
                  intro a5 c5 w5 h1 h2
                  have HO5 : Hid (OwnB 58 6 U w5 (.slice a5 (J + 1 + (N0 - J)) c5) (J + 1 + (N0 - J)) (AA ++ encE Y ++ BB)) := h1
                  clear h1 h2 HO4
                  refine hK.out _ _ ?_ (fun hHeld2 => ?_)
                  · exact HO5.out.below
                  clear hK K hHeld
                  have hHeld := hHeld2
                  clear hHeld2
                  change wpTill _ _ _ _ _ _ _ _ (Act.put _ (some 92) _) _
                  simp only [Act.put, List.setIfInBounds_toArray, List.set_cons_zero, List.set_cons_succ]
                  refine till_take (i := 19) (v := ?_) 20 (by kernel_rfl) (Or.inr (by kernel_rfl)) (by kernel_rfl) rfl (by kernel_rfl) (by kernel_rfl) (by kernel_rfl) (fun _ _ _ h => h) (Or.inl ⟨by rfl, ?_⟩) hHeld ?_
                  rotate_left
                  · intro u hSu
                    (go_simp) <;> (with_reducible rfl)
                  change wpTill _ _ _ _ _ _ _ _ (Act.put _ (some 93) _) _
                  simp only [Act.put, List.setIfInBounds_toArray, List.set_cons_zero, List.set_cons_succ]
                  refine till_take (i := 20) (v := ?_) 20 (by kernel_rfl) (Or.inl rfl) (by kernel_rfl) rfl (by kernel_rfl) (by kernel_rfl) (by kernel_rfl) (fun _ _ _ h => h) (Or.inl ⟨by rfl, ?_⟩) hHeld ?_
                  rotate_left
                  · intro u hSu
                    (go_simp) <;> (with_reducible rfl)
                  change wpTill _ _ _ _ _ _ _ _ (Act.put _ (some 94) _) _
                  simp only [Act.put, List.setIfInBounds_toArray, List.set_cons_zero, List.set_cons_succ]
                  refine till_last (by kernel_rfl) (by kernel_rfl) rfl (fun K hK => ?_)
                  obtain ⟨q1, q5⟩ := HKU.out w5 HO5.out.below
                  go_simp
                  refine hK.out _ _ ?_
                  refine NoPanic.normal ?_
                  clear hK K hHeld q1 q5
                  go_wp2
                  go_ret
                  exact HEND.out w5 a5 c5 HO5.out
              · have hnj : ¬ (J : Int) < (N0 : Int) := by omega
                have HE : Hid (R = (0, (ents M).take J ++ (⟨id, s, m, t, n, l⟩ : Ent) :: (ents M).drop J)) := by show R = _; rw [HA2.out, placeT_e (by rw [HN0.out]; exact hJ) HJ.out (.inl (by have := HN0.out; omega))]
                have FQ : Hid (∀ u, Below wr.heap.size wr u → u.cell? ⟨q, 0, none⟩ = some (.slice a0 N0 c0)) := fun u hb => HCE.out u (HWB.out.trans (hb.mono HWB.out.size))
                clear HA2
                go_wp2
                refine wp_region_noPanic ?_
                refine wp_region_held_drew (S := fun u => Below wr.heap.size wr u) (by kernel_rfl) ?_ (fun hHeld => ?_)
                · exact (Below.refl _ _).drew
                refine wpAnyH_take (i := 0) (v := ?_) rfl (by kernel_rfl) (by kernel_rfl) (by kernel_rfl) (fun _ _ _ h => h) (Or.inl ⟨by rfl, ?_⟩) hHeld ?_
                rotate_left
                · intro u hSu
                  (go_simp) <;> (with_reducible rfl)
                change wpAnyH _ _ _ _ _ _ _ (Act.put _ (some 47) _) _
                simp only [Act.put, List.setIfInBounds_toArray, List.set_cons_zero, List.set_cons_succ]
                refine wpAnyH_take (i := 1) (v := ?_) rfl (by kernel_rfl) (by kernel_rfl) (by kernel_rfl) (fun _ _ _ h => h) (Or.inl ⟨by rfl, ?_⟩) hHeld ?_
                rotate_left
                · intro u hSu
                  (go_simp) <;> (with_reducible rfl)
                change wpAnyH _ _ _ _ _ _ _ (Act.put _ (some 48) _) _
                simp only [Act.put, List.setIfInBounds_toArray, List.set_cons_zero, List.set_cons_succ]
                refine wpAnyH_take (i := 2) (v := ?_) rfl (by kernel_rfl) (by kernel_rfl) (by kernel_rfl) (fun _ _ _ h => h) (Or.inl ⟨by rfl, ?_⟩) hHeld ?_
                rotate_left
                · intro u hSu
                  (go_simp) <;> (with_reducible rfl)
                change wpAnyH _ _ _ _ _ _ _ (Act.put _ (some 49) _) _
                simp only [Act.put, List.setIfInBounds_toArray, List.set_cons_zero, List.set_cons_succ]
                refine wpAnyH_take (i := 3) (v := ?_) rfl (by kernel_rfl) (by kernel_rfl) (by kernel_rfl) (fun _ _ _ h => h) (Or.inl ⟨by rfl, ?_⟩) hHeld ?_
                rotate_left
                · intro u hSu
                  (go_simp) <;> (with_reducible rfl)
                change wpAnyH _ _ _ _ _ _ _ (Act.put _ (some 50) _) _
                simp only [Act.put, List.setIfInBounds_toArray, List.set_cons_zero, List.set_cons_succ]
                refine wpAnyH_take (i := 4) (v := ?_) rfl (by kernel_rfl) (by kernel_rfl) (by kernel_rfl) (fun _ _ _ h => h) (Or.inl ⟨by rfl, ?_⟩) hHeld ?_
                rotate_left
                · intro u hSu
                  have r0 := FQ.out u hSu
                  (go_simp) <;> (with_reducible rfl)
                change wpAnyH _ _ _ _ _ _ _ (Act.put _ (some 51) _) _
                simp only [Act.put, List.setIfInBounds_toArray, List.set_cons_zero, List.set_cons_succ]
                refine wpAnyH_take (i := 5) (v := ?_) rfl (by kernel_rfl) (by kernel_rfl) (by kernel_rfl) (fun _ _ _ h => h) (Or.inl ⟨by rfl, ?_⟩) hHeld ?_
                rotate_left
                · intro u hSu
                  (go_simp) <;> (with_reducible rfl)
                change wpAnyH _ _ _ _ _ _ _ (Act.put _ (some 52) _) _
                simp only [Act.put, List.setIfInBounds_toArray, List.set_cons_zero, List.set_cons_succ]
                refine wpAnyH_take (i := 6) (v := ?_) rfl (by kernel_rfl) (by kernel_rfl) (by kernel_rfl) (fun _ _ _ h => h) (Or.inl ⟨by rfl, ?_⟩) hHeld ?_
                rotate_left
                · intro u hSu
                  (go_simp) <;> (with_reducible rfl)
                change wpAnyH _ _ _ _ _ _ _ (Act.put _ (some 53) _) _
                simp only [Act.put, List.setIfInBounds_toArray, List.set_cons_zero, List.set_cons_succ]
                refine wpAnyH_take (i := 7) (v := ?_) rfl (by kernel_rfl) (by kernel_rfl) (by kernel_rfl) (fun _ _ _ h => h) (Or.inl ⟨by rfl, ?_⟩) hHeld ?_
                rotate_left
                · intro u hSu
                  (go_simp) <;> (with_reducible rfl)
                change wpAnyH _ _ _ _ _ _ _ (Act.put _ (some 54) _) _
                simp only [Act.put, List.setIfInBounds_toArray, List.set_cons_zero, List.set_cons_succ]
                refine wpAnyH_take (i := 8) (v := undef) rfl (by kernel_rfl) (by kernel_rfl) (by kernel_rfl) (fun _ _ _ h => h) (Or.inr ⟨by rfl, rfl⟩) hHeld ?_
                change wpAnyH _ _ _ _ _ _ _ (Act.put _ (some 55) _) _
                simp only [Act.put, List.setIfInBounds_toArray, List.set_cons_zero, List.set_cons_succ]
                refine wpAnyH_take (i := 9) (v := undef) rfl (by kernel_rfl) (by kernel_rfl) (by kernel_rfl) (fun _ _ _ h => h) (Or.inr ⟨by rfl, rfl⟩) hHeld ?_
                change wpAnyH _ _ _ _ _ _ _ (Act.put _ (some 56) _) _
                simp only [Act.put, List.setIfInBounds_toArray, List.set_cons_zero, List.set_cons_succ]
                refine wpAnyH_take (i := 10) (v := undef) rfl (by kernel_rfl) (by kernel_rfl) (by kernel_rfl) (fun _ _ _ h => h) (Or.inr ⟨by rfl, rfl⟩) hHeld ?_
                change wpAnyH _ _ _ _ _ _ _ (Act.put _ (some 57) _) _
                simp only [Act.put, List.setIfInBounds_toArray, List.set_cons_zero, List.set_cons_succ]
                refine wpAnyH_take (i := 11) (v := undef) rfl (by kernel_rfl) (by kernel_rfl) (by kernel_rfl) (fun _ _ _ h => h) (Or.inr ⟨by rfl, rfl⟩) hHeld ?_
                change wpAnyH _ _ _ _ _ _ _ (Act.put _ (some 58) _) _
                simp only [Act.put, List.setIfInBounds_toArray, List.set_cons_zero, List.set_cons_succ]
                refine wpAnyH_take (i := 12) (v := undef) rfl (by kernel_rfl) (by kernel_rfl) (by kernel_rfl) (fun _ _ _ h => h) (Or.inr ⟨by rfl, rfl⟩) hHeld ?_
                change wpAnyH _ _ _ _ _ _ _ (Act.put _ (some 59) _) _
                simp only [Act.put, List.setIfInBounds_toArray, List.set_cons_zero, List.set_cons_succ]
                refine wpAnyH_take (i := 13) (v := undef) rfl (by kernel_rfl) (by kernel_rfl) (by kernel_rfl) (fun _ _ _ h => h) (Or.inr ⟨by rfl, rfl⟩) hHeld ?_
                change wpAnyH _ _ _ _ _ _ _ (Act.put _ (some 60) _) _
                simp only [Act.put, List.setIfInBounds_toArray, List.set_cons_zero, List.set_cons_succ]
                refine wpAnyH_take (i := 14) (v := undef) rfl (by kernel_rfl) (by kernel_rfl) (by kernel_rfl) (fun _ _ _ h => h) (Or.inr ⟨by rfl, rfl⟩) hHeld ?_
                change wpAnyH _ _ _ _ _ _ _ (Act.put _ (some 61) _) _
                simp only [Act.put, List.setIfInBounds_toArray, List.set_cons_zero, List.set_cons_succ]
                refine wpAnyH_take (i := 15) (v := undef) rfl (by kernel_rfl) (by kernel_rfl) (by kernel_rfl) (fun _ _ _ h => h) (Or.inr ⟨by rfl, rfl⟩) hHeld ?_
                change wpAnyH _ _ _ _ _ _ _ (Act.put _ (some 62) _) _
                simp only [Act.put, List.setIfInBounds_toArray, List.set_cons_zero, List.set_cons_succ]
                refine wpAnyH_take (i := 16) (v := undef) rfl (by kernel_rfl) (by kernel_rfl) (by kernel_rfl) (fun _ _ _ h => h) (Or.inr ⟨by rfl, rfl⟩) hHeld ?_
                change wpAnyH _ _ _ _ _ _ _ (Act.put _ (some 63) _) _
                simp only [Act.put, List.setIfInBounds_toArray, List.set_cons_zero, List.set_cons_succ]
                refine wpAnyH_take (i := 17) (v := undef) rfl (by kernel_rfl) (by kernel_rfl) (by kernel_rfl) (fun _ _ _ h => h) (Or.inr ⟨by rfl, rfl⟩) hHeld ?_
                change wpAnyH _ _ _ _ _ _ _ (Act.put _ (some 64) _) _
                simp only [Act.put, List.setIfInBounds_toArray, List.set_cons_zero, List.set_cons_succ]
                refine wpAnyH_take (i := 18) (v := undef) rfl (by kernel_rfl) (by kernel_rfl) (by kernel_rfl) (fun _ _ _ h => h) (Or.inr ⟨by rfl, rfl⟩) hHeld ?_
                change wpAnyH _ _ _ _ _ _ _ (Act.put _ (some 65) _) _
                simp only [Act.put, List.setIfInBounds_toArray, List.set_cons_zero, List.set_cons_succ]
                refine wpAnyH_take (i := 19) (v := ?_) rfl (by kernel_rfl) (by kernel_rfl) (by kernel_rfl) (fun _ _ _ h => h) (Or.inl ⟨by rfl, ?_⟩) hHeld ?_
                rotate_left
                · intro u hSu
                  (go_simp) <;> (with_reducible rfl)
                change wpAnyH _ _ _ _ _ _ _ (Act.put _ (some 66) _) _
                simp only [Act.put, List.setIfInBounds_toArray, List.set_cons_zero, List.set_cons_succ]
                refine wpAnyH_done (by kernel_rfl) ?_ _
                refine NoPanic.normal ?_
                have HBY : Hid (Below V0.heap.size V0 wr.drew) := HB.out.drew
                obtain ⟨Y0, hY0⟩ : ∃ Y0, Y0 = wr.drew := ⟨_, rfl⟩
                rw [← hY0] at HBY ⊢
                clear hY0 FQ FBX
                have HWY : Hid (Below w.heap.size w Y0) := HBW.out.trans (HBY.out.mono HBW.out.size)
                have hVs : V0.heap.size ≤ Y0.heap.size := HBY.out.size
                obtain ⟨y0, y1, y2, y3, y4, y5⟩ := FE.out (Y0.alloc (.cells #[] 80)) (HBY.out.alloc HBY.out.size _)
                clear y0 y1 y2 y3 y4
                go_wp2_with (at_builtin; refine wpList_own wrtEl (w0 := Y0) rfl (.tmp 69) (.tmp 71) rfl _ 0 [] (l.flatMap encW) rfl (own_rawT _ _ Y0) _ _ _ rfl HLW.out (HWL.out _ (HWY.out.alloc HWY.out.size _)) (encWs_one l) HNW.out N (Nat.zero_add _) (by omega) _ (List.nil_append _) ?_; intro a7 c7 w7 h1 h2; have O7 : Hid (OwnB 80 18 Y0 w7 (.slice a7 N c7) N (l.flatMap encW)) := h1; have B7 : Hid (Below V0.heap.size V0 w7) := HBY.out.trans (h1.below.mono HBY.out.size); obtain ⟨_, _, _, _, _, z5⟩ := FE.out w7 B7.out; have f5 := FF.out w7 B7.out 5 (by omega); clear h1 h2 y5)
                have HUF : Hid (AddU w V0 Y0 (w7.setCell ⟨w.heap.size, 5, none⟩ (.slice a7 N c7)) ⟨(⟨id, s, m, t, n, l⟩ : Ent), a7, c7⟩) := addU_made HBW.out HBY.out O7.out (FE.out w7 B7.out) hsz HLN.out HWO.out hN6 HEO.out
                clear z5 f5 O7 B7
                generalize w7.setCell ⟨w.heap.size, 5, none⟩ (.slice a7 N c7) = U at HUF ⊢
                obtain ⟨Y, hY⟩ : ∃ Y : EntM, Y = ⟨(⟨id, s, m, t, n, l⟩ : Ent), a7, c7⟩ := ⟨_, rfl⟩
                rw [← hY] at HUF
                have HYE : Hid (Y.e = (⟨id, s, m, t, n, l⟩ : Ent)) := by rw [hY]; rfl
                clear hY
                have HWU : Hid (Below w.heap.size w U) := HUF.out.below
                have HKU : Hid (∀ u, Below U.heap.size U u → u.cell? ⟨q, 0, none⟩ = some (.slice a0 N0 c0) ∧ u.frozen? ⟨q, 0, none⟩ = false) := fun u hb => by
                  have hb' := HWU.out.trans (hb.mono HWU.out.size)
                  exact ⟨HCE.out u hb', (hb'.frozen (p := ⟨q, 0, none⟩) HTB.out.lt).trans HTB.out.free⟩
                have FVV : Hid (∀ u, Below U.heap.size U u → EntAt u w.heap.size 0 Y) := fun u hb => HUF.out.at_.past hb
                have hsT : ∀ u, (Instr.slice 69 (.slice a0 N0 c0) none (some (.int .i64 (J : Int))) none).run Tryz.prog u = .ok (.slice a0 J c0) u := fun u => slice_entsT u _ HA0.out N0 c0 J (by omega) (fun e => (hnil e).1) (fun e => (hnil e).2)
                obtain ⟨A2, hA2⟩ : ∃ A2, A2 = dropE a0 c0 J := ⟨_, rfl⟩
                have hsL : ∀ u, (Instr.slice 69 (.slice a0 N0 c0) (some (.int .i64 (J : Int))) none none).run Tryz.prog u = .ok (.slice A2 (N0 - J) (c0 - J)) u := fun u => by rw [hA2]; exact slice_entsL u _ HA0.out N0 c0 J (by omega) hcap (fun e => (hnil e).1)
                obtain ⟨AA, hAA⟩ : ∃ AA, AA = (M.take J).flatMap encE := ⟨_, rfl⟩
                obtain ⟨BB, hBB⟩ : ∃ BB, BB = (M.drop J).flatMap encE := ⟨_, rfl⟩
                have LA : Hid (AA.length = J * 6) := by show _ = _; rw [hAA, flat_len (enc := encE) (size := 6) _ (fun x hx => encE_len x), List.length_take, HN0.out]; omega
                have LB : Hid (BB.length = (N0 - J) * 6) := by show _ = _; rw [hBB, flat_len (enc := encE) (size := 6) _ (fun x hx => encE_len x), List.length_drop, HN0.out]
                have HLV : Hid ((encE Y).length = 1 * 6) := encE_len Y
                have S1 : Hid (∀ u, Below U.heap.size U u → Lies u a0 AA) := fun u hb => by rw [hAA]; exact lies_takeE HA0.out (HLI.out u (HWU.out.trans (hb.mono HWU.out.size)))
                have S2 : Hid (∀ u, Below U.heap.size U u → Lies u A2 BB) := fun u hb => by rw [hBB, hA2]; exact lies_dropE HA0.out (HLI.out u (HWU.out.trans (hb.mono HWU.out.size))) (by rw [HN0.out]; exact hcap)
                have O1 : Hid (∀ u ∈ AA, u.oneCell' = true) := by rw [hAA]; exact encEs_one _
                have O2 : Hid (∀ u ∈ BB, u.oneCell' = true) := by rw [hBB]; exact encEs_one _
                have OV : Hid (∀ u ∈ encE Y, u.oneCell' = true) := encE_one Y
                have N1 : Hid (a0 = none → J = 0 ∧ c0 = 0) := fun e => ⟨by have := (hnil e).2; omega, (hnil e).1⟩
                have N2 : Hid (A2 = none → N0 - J = 0 ∧ c0 - J = 0) := fun e => by
                  have e' : a0 = none := dropE_none (by rw [← hA2]; exact e)
                  have h1 := hnil e'; omega
                have HEND : Hid (∀ (w5 : World) (a5 : Option Addr) (c5 : Nat), OwnB 58 6 U w5 (.slice a5 (J + 1 + (N0 - J)) c5) (J + 1 + (N0 - J)) (AA ++ encE Y ++ BB) → Ending.returned (.int .i64 0) = .returned (.int .i64 R.1) ∧ ∃ M', ents M' = R.2 ∧ TabR (w5.setCell ⟨q, 0, none⟩ (.slice a5 (J + 1 + (N0 - J)) c5)) B q M' ∧ Chg w (w5.setCell ⟨q, 0, none⟩ (.slice a5 (J + 1 + (N0 - J)) c5)) (fun k => k = q) ∧ RowedT w (w5.setCell ⟨q, 0, none⟩ (.slice a5 (J + 1 + (N0 - J)) c5)) q ∧ NewW w M M') := fun w5 a5 c5 ho => by
                  have hb5 : Below w.heap.size w w5 := HWU.out.trans (ho.below.mono HWU.out.size)
                  have ho' := ho.own
                  have he : AA ++ encE Y ++ BB = (M.take J ++ Y :: M.drop J).flatMap encE := by rw [hAA, hBB]; simp
                  rw [he] at ho'
                  rw [HE.out]
                  have hnew : NewW w M (M.take J ++ Y :: M.drop J) := fun x hx => by
                    rcases List.mem_append.1 hx with e | e
                    · exact .inl (List.mem_of_mem_take e)
                    · rcases List.mem_cons.1 e with rfl | e
                      · exact .inr (fun h1 b o e => Nat.le_of_lt (HUF.out.far h1 b o e))
                      · exact .inl (List.mem_of_mem_drop e)
                  refine ⟨rfl, M.take J ++ Y :: M.drop J, by rw [← HYE.out]; simp [ents], and4 hnew (HTB.out.set HBB.out hb5 (by rw [List.length_append, List.length_cons, List.length_take, List.length_drop, HN0.out]; omega) ho' HWU.out.size (fun x hx => ?_) (fun x hx => ?_) (by rw [List.length_append, List.length_cons, List.length_take, List.length_drop, HN0.out]; omega))⟩
                  · rcases List.mem_append.1 hx with e | e
                    · exact (HTB.out.wrs x (List.mem_of_mem_take e)).past hb5
                    · rcases List.mem_cons.1 e with rfl | e
                      · exact HUF.out.ent.past ho.below
                      · exact (HTB.out.wrs x (List.mem_of_mem_drop e)).past hb5
                  · rcases List.mem_append.1 hx with e | e
                    · exact HTB.out.far x (List.mem_of_mem_take e)
                    · rcases List.mem_cons.1 e with rfl | e
                      · exact fun h1 b o e => by have h8 := HUF.out.far h1 b o e; have h9 := HTB.out.lt; omega
                      · exact HTB.out.far x (List.mem_of_mem_drop e)
                clear hAA hBB hA2
                go_wp2
                refine wp_region_noPanic ?_
                refine region_till 21 (fun u => Below U.heap.size U u) (by kernel_rfl) ?_ (fun hHeld => ?_)
                · exact (Below.refl _ _).drew
                refine till_take (i := 0) (v := ?_) 0 (by kernel_rfl) (Or.inl rfl) (by kernel_rfl) rfl (by kernel_rfl) (by kernel_rfl) (by kernel_rfl) (fun _ _ _ h => h) (Or.inl ⟨by rfl, ?_⟩) hHeld ?_
                rotate_left
                · intro u hSu
                  (go_simp) <;> (with_reducible rfl)
                change wpTill _ _ _ _ _ _ _ _ (Act.put _ (some 74) _) _
                simp only [Act.put, List.setIfInBounds_toArray, List.set_cons_zero, List.set_cons_succ]
                refine till_take (i := 2) (v := ?_) 2 (by kernel_rfl) (Or.inl rfl) (by kernel_rfl) rfl (by kernel_rfl) (by kernel_rfl) (by kernel_rfl) (fun _ _ _ h => h) (Or.inl ⟨by rfl, ?_⟩) hHeld ?_
                rotate_left
                · intro u hSu
                  (go_simp) <;> (with_reducible rfl)
                change wpTill _ _ _ _ _ _ _ _ (Act.put _ (some 76) _) _
                simp only [Act.put, List.setIfInBounds_toArray, List.set_cons_zero, List.set_cons_succ]
                refine till_take (i := 3) (v := ?_) 3 (by kernel_rfl) (Or.inl rfl) (by kernel_rfl) rfl (by kernel_rfl) (by kernel_rfl) (by kernel_rfl) (fun _ _ _ h => h) (Or.inl ⟨by rfl, ?_⟩) hHeld ?_
                rotate_left
                · intro u hSu
                  (go_simp) <;> (with_reducible rfl)
                change wpTill _ _ _ _ _ _ _ _ (Act.put _ (some 77) _) _
                simp only [Act.put, List.setIfInBounds_toArray, List.set_cons_zero, List.set_cons_succ]
                refine till_take (i := 4) (v := ?_) 4 (by kernel_rfl) (Or.inl rfl) (by kernel_rfl) rfl (by kernel_rfl) (by kernel_rfl) (by kernel_rfl) (fun _ _ _ h => h) (Or.inl ⟨by rfl, ?_⟩) hHeld ?_
                rotate_left
                · intro u hSu
                  (go_simp) <;> (with_reducible rfl)
                change wpTill _ _ _ _ _ _ _ _ (Act.put _ (some 78) _) _
                simp only [Act.put, List.setIfInBounds_toArray, List.set_cons_zero, List.set_cons_succ]
                refine till_take (i := 5) (v := ?_) 5 (by kernel_rfl) (Or.inl rfl) (by kernel_rfl) rfl (by kernel_rfl) (by kernel_rfl) (by kernel_rfl) (fun _ _ _ h => h) (Or.inl ⟨by rfl, ?_⟩) hHeld ?_
                rotate_left
                · intro u hSu
                  obtain ⟨q1, q5⟩ := HKU.out u hSu
                  (go_simp) <;> (with_reducible rfl)
                change wpTill _ _ _ _ _ _ _ _ (Act.put _ (some 79) _) _
                simp only [Act.put, List.setIfInBounds_toArray, List.set_cons_zero, List.set_cons_succ]
                refine till_take (i := 6) (v := ?_) 6 (by kernel_rfl) (Or.inl rfl) (by kernel_rfl) rfl (by kernel_rfl) (by kernel_rfl) (by kernel_rfl) (fun _ _ _ h => h) (Or.inl ⟨by rfl, ?_⟩) hHeld ?_
                rotate_left
                · intro u hSu
                  (go_simp) <;> (with_reducible rfl)
                change wpTill _ _ _ _ _ _ _ _ (Act.put _ (some 80) _) _
                simp only [Act.put, List.setIfInBounds_toArray, List.set_cons_zero, List.set_cons_succ]
                refine till_take (i := 7) (v := ?_) 7 (by kernel_rfl) (Or.inl rfl) (by kernel_rfl) rfl (by kernel_rfl) (by kernel_rfl) (by kernel_rfl) (fun _ _ _ h => h) (Or.inl ⟨by rfl, ?_⟩) hHeld ?_
                rotate_left
                · intro u hSu
                  have q := hsT u
                  (go_simp) <;> (with_reducible rfl)
                change wpTill _ _ _ _ _ _ _ _ (Act.put _ (some 81) _) _
                simp only [Act.put, List.setIfInBounds_toArray, List.set_cons_zero, List.set_cons_succ]
                refine till_take (i := 9) (v := ev Y) 9 (by kernel_rfl) (Or.inl rfl) (by kernel_rfl) rfl (by kernel_rfl) (by kernel_rfl) (by kernel_rfl) (fun _ _ _ h => h) (yieldsIf_load_mid (by rfl) _ _ rfl _ _ rfl (encE Y) _ (fun u hu => (FVV.out u hu).lies.range) Tryz.underlying58 rfl (by rw [info_ent, encE_len])) hHeld ?_
                change wpTill _ _ _ _ _ _ _ _ (Act.put _ (some 83) _) _
                simp only [Act.put, List.setIfInBounds_toArray, List.set_cons_zero, List.set_cons_succ]
                refine till_take (i := 12) (v := ?_) 12 (by kernel_rfl) (Or.inl rfl) (by kernel_rfl) rfl (by kernel_rfl) (by kernel_rfl) (by kernel_rfl) (fun _ _ _ h => h) (Or.inl ⟨by rfl, ?_⟩) hHeld ?_
                rotate_left
                · intro u hSu
                  (go_simp) <;> (with_reducible rfl)
                change wpTill _ _ _ _ _ _ _ _ (Act.put _ (some 86) _) _
                simp only [Act.put, List.setIfInBounds_toArray, List.set_cons_zero, List.set_cons_succ]
                refine till_take (i := 13) (v := ?_) 13 (by kernel_rfl) (Or.inl rfl) (by kernel_rfl) rfl (by kernel_rfl) (by kernel_rfl) (by kernel_rfl) (fun _ _ _ h => h) (Or.inl ⟨by rfl, ?_⟩) hHeld ?_
                rotate_left
                · intro u hSu
                  (go_simp) <;> (with_reducible rfl)
                change wpTill _ _ _ _ _ _ _ _ (Act.put _ (some 87) _) _
                simp only [Act.put, List.setIfInBounds_toArray, List.set_cons_zero, List.set_cons_succ]
                refine till_take (i := 14) (v := ?_) 14 (by kernel_rfl) (Or.inl rfl) (by kernel_rfl) rfl (by kernel_rfl) (by kernel_rfl) (by kernel_rfl) (fun _ _ _ h => h) (Or.inl ⟨by rfl, ?_⟩) hHeld ?_
                rotate_left
                · intro u hSu
                  (go_simp) <;> (with_reducible rfl)
                change wpTill _ _ _ _ _ _ _ _ (Act.put _ (some 88) _) _
                simp only [Act.put, List.setIfInBounds_toArray, List.set_cons_zero, List.set_cons_succ]
                refine till_take (i := 15) (v := ?_) 15 (by kernel_rfl) (Or.inl rfl) (by kernel_rfl) rfl (by kernel_rfl) (by kernel_rfl) (by kernel_rfl) (fun _ _ _ h => h) (Or.inl ⟨by rfl, ?_⟩) hHeld ?_
                rotate_left
                · intro u hSu
                  obtain ⟨q1, q5⟩ := HKU.out u hSu
                  (go_simp) <;> (with_reducible rfl)
                change wpTill _ _ _ _ _ _ _ _ (Act.put _ (some 89) _) _
                simp only [Act.put, List.setIfInBounds_toArray, List.set_cons_zero, List.set_cons_succ]
                refine till_take (i := 16) (v := ?_) 16 (by kernel_rfl) (Or.inl rfl) (by kernel_rfl) rfl (by kernel_rfl) (by kernel_rfl) (by kernel_rfl) (fun _ _ _ h => h) (Or.inl ⟨by rfl, ?_⟩) hHeld ?_
                rotate_left
                · intro u hSu
                  (go_simp) <;> (with_reducible rfl)
                change wpTill _ _ _ _ _ _ _ _ (Act.put _ (some 90) _) _
                simp only [Act.put, List.setIfInBounds_toArray, List.set_cons_zero, List.set_cons_succ]
                refine till_take (i := 17) (v := ?_) 17 (by kernel_rfl) (Or.inl rfl) (by kernel_rfl) rfl (by kernel_rfl) (by kernel_rfl) (by kernel_rfl) (fun _ _ _ h => h) (Or.inl ⟨by rfl, ?_⟩) hHeld ?_
                rotate_left
                · intro u hSu
                  have q := hsL u
                  (go_simp) <;> (with_reducible rfl)
                change wpTill _ _ _ _ _ _ _ _ (Act.put _ (some 91) _) _
                simp only [Act.put, List.setIfInBounds_toArray, List.set_cons_zero, List.set_cons_succ]
                refine till_ready (rs := [1, 10]) (by kernel_rfl) (by simp) ?_
                refine AllTill.cons rfl (fun K hK => ?_) ?_
                · go_simp
                  refine hK.out _ _ ?_ (fun hHeld2 => ?_)
                  · exact hHeld.alloc hHeld.size _
                  clear hK K hHeld
                  have hHeld := hHeld2
                  clear hHeld2
                  refine till_ready (rs := [8, 10]) (by kernel_rfl) (by simp) ?_
                  refine AllTill.cons rfl (fun K hK => ?_) ?_
                  · refine step_own entEl (w0 := U) rfl (.tmp 75) (.tmp 81) rfl _ 0 [] AA rfl (own_one 58 6 U) _ _ _ rfl LA.out (S1.out _ (own_one 58 6 U).below) O1.out N1.out J (Nat.zero_add _) (by omega) AA (List.nil_append _) ?_
                    intro a3 c3 w3 h1 h2
                    have HO3 : Hid (OwnB 58 6 U w3 (.slice a3 J c3) J AA) := h1
                    clear h1 h2
                    refine hK.out _ _ ?_ (fun hHeld2 => ?_)
                    · exact HO3.out.below
                    clear hK K hHeld
                    have hHeld := hHeld2
                    clear hHeld2
                    change wpTill _ _ _ _ _ _ _ _ (Act.put _ (some 82) _) _
                    simp only [Act.put, List.setIfInBounds_toArray, List.set_cons_zero, List.set_cons_succ]
                    refine till_ready (rs := [10]) (by kernel_rfl) (by simp) ?_
                    refine AllTill.cons rfl (fun K hK => ?_) AllTill.nil
                    refine step_build_ent rfl (.tmp 83) rfl Y rfl ?_
                    refine hK.out _ _ ?_ (fun hHeld2 => ?_)
                    · exact hHeld.alloc hHeld.size _
                    clear hK K hHeld
                    have hHeld := hHeld2
                    clear hHeld2
                    change wpTill _ _ _ _ _ _ _ _ (Act.put _ (some 84) _) _
                    simp only [Act.put, List.setIfInBounds_toArray, List.set_cons_zero, List.set_cons_succ]
                    refine till_ready (rs := [11]) (by kernel_rfl) (by simp) ?_
                    refine AllTill.cons rfl (fun K hK => ?_) AllTill.nil
                    refine step_own entEl (w0 := U) rfl (.tmp 82) (.tmp 84) rfl _ J AA (encE Y) rfl (HO3.out.alloc _) _ _ _ rfl HLV.out (lies_made _ _ _) OV.out (fun h => by cases h) (J + 1) rfl (by omega) (AA ++ encE Y) rfl ?_
                    intro a4 c4 w4 h1 h2
                    have HO4 : Hid (OwnB 58 6 U w4 (.slice a4 (J + 1) c4) (J + 1) (AA ++ encE Y)) := h1
                    clear h1 h2 HO3
                    refine hK.out _ _ ?_ (fun hHeld2 => ?_)
                    · exact HO4.out.below
                    clear hK K hHeld
                    have hHeld := hHeld2
                    clear hHeld2
                    change wpTill _ _ _ _ _ _ _ _ (Act.put _ (some 85) _) _
                    simp only [Act.put, List.setIfInBounds_toArray, List.set_cons_zero, List.set_cons_succ]
                    refine till_ready (rs := [18]) (by kernel_rfl) (by simp) ?_
                    refine AllTill.cons rfl (fun K hK => ?_) AllTill.nil
                    refine step_own entEl (w0 := U) rfl (.tmp 85) (.tmp 91) rfl _ (J + 1) (AA ++ encE Y) BB rfl HO4.out _ _ _ rfl LB.out (S2.out _ HO4.out.below) O2.out N2.out (J + 1 + (N0 - J)) rfl (by omega) (AA ++ encE Y ++ BB) rfl ?_
                    intro a5 c5 w5 h1 h2
                    have HO5 : Hid (OwnB 58 6 U w5 (.slice a5 (J + 1 + (N0 - J)) c5) (J + 1 + (N0 - J)) (AA ++ encE Y ++ BB)) := h1
                    clear h1 h2 HO4
                    refine hK.out _ _ ?_ (fun hHeld2 => ?_)
                    · exact HO5.out.below
                    clear hK K hHeld
                    have hHeld := hHeld2
                    clear hHeld2
                    change wpTill _ _ _ _ _ _ _ _ (Act.put _ (some 92) _) _
                    simp only [Act.put, List.setIfInBounds_toArray, List.set_cons_zero, List.set_cons_succ]
                    refine till_take (i := 19) (v := ?_) 20 (by kernel_rfl) (Or.inr (by kernel_rfl)) (by kernel_rfl) rfl (by kernel_rfl) (by kernel_rfl) (by kernel_rfl) (fun _ _ _ h => h) (Or.inl ⟨by rfl, ?_⟩) hHeld ?_
                    rotate_left
                    · intro u hSu
                      (go_simp) <;> (with_reducible rfl)
                    change wpTill _ _ _ _ _ _ _ _ (Act.put _ (some 93) _) _
                    simp only [Act.put, List.setIfInBounds_toArray, List.set_cons_zero, List.set_cons_succ]
                    refine till_take (i := 20) (v := ?_) 20 (by kernel_rfl) (Or.inl rfl) (by kernel_rfl) rfl (by kernel_rfl) (by kernel_rfl) (by kernel_rfl) (fun _ _ _ h => h) (Or.inl ⟨by rfl, ?_⟩) hHeld ?_
                    rotate_left
                    · intro u hSu
                      (go_simp) <;> (with_reducible rfl)
                    change wpTill _ _ _ _ _ _ _ _ (Act.put _ (some 94) _) _
                    simp only [Act.put, List.setIfInBounds_toArray, List.set_cons_zero, List.set_cons_succ]
                    refine till_last (by kernel_rfl) (by kernel_rfl) rfl (fun K hK => ?_)
                    obtain ⟨q1, q5⟩ := HKU.out w5 HO5.out.below
                    go_simp
                    refine hK.out _ _ ?_
                    refine NoPanic.normal ?_
                    clear hK K hHeld q1 q5
                    go_wp2
                    go_ret
                    exact HEND.out w5 a5 c5 HO5.out
                  refine AllTill.cons rfl (fun K hK => ?_) AllTill.nil
                  refine step_build_ent rfl (.tmp 83) rfl Y rfl ?_
                  refine hK.out _ _ ?_ (fun hHeld2 => ?_)
                  · exact hHeld.alloc hHeld.size _
                  clear hK K hHeld
                  have hHeld := hHeld2
                  clear hHeld2
                  change wpTill _ _ _ _ _ _ _ _ (Act.put _ (some 84) _) _
                  simp only [Act.put, List.setIfInBounds_toArray, List.set_cons_zero, List.set_cons_succ]
                  refine till_ready (rs := [8]) (by kernel_rfl) (by simp) ?_
                  refine AllTill.cons rfl (fun K hK => ?_) AllTill.nil
                  refine step_own entEl (w0 := U) rfl (.tmp 75) (.tmp 81) rfl _ 0 [] AA rfl (own_two 58 6 U _) _ _ _ rfl LA.out (S1.out _ (own_two 58 6 U _).below) O1.out N1.out J (Nat.zero_add _) (by omega) AA (List.nil_append _) ?_
                  intro a3 c3 w3 h1 h2
                  have HO3 : Hid (OwnB 58 6 U w3 (.slice a3 J c3) J AA) := h1
                  have HX3 : Hid (Lies w3 (some ⟨(U.alloc (Obj.cells #[] 58)).drew.heap.size, 0, none⟩) (encE Y)) := (by rw [show (U.alloc (Obj.cells #[] 58)).drew.heap.size = U.heap.size + 1 from by simp]; exact (made_two U 58 58 #[] _ _ _).step (v' := .slice none 0 0) h2)
                  clear h1 h2
                  refine hK.out _ _ ?_ (fun hHeld2 => ?_)
                  · exact HO3.out.below
                  clear hK K hHeld
                  have hHeld := hHeld2
                  clear hHeld2
                  change wpTill _ _ _ _ _ _ _ _ (Act.put _ (some 82) _) _
                  simp only [Act.put, List.setIfInBounds_toArray, List.set_cons_zero, List.set_cons_succ]
                  refine till_ready (rs := [11]) (by kernel_rfl) (by simp) ?_
                  refine AllTill.cons rfl (fun K hK => ?_) AllTill.nil
                  refine step_own entEl (w0 := U) rfl (.tmp 82) (.tmp 84) rfl _ J AA (encE Y) rfl (HO3.out) _ _ _ rfl HLV.out (HX3.out) OV.out (fun h => by cases h) (J + 1) rfl (by omega) (AA ++ encE Y) rfl ?_
                  intro a4 c4 w4 h1 h2
                  have HO4 : Hid (OwnB 58 6 U w4 (.slice a4 (J + 1) c4) (J + 1) (AA ++ encE Y)) := h1
                  clear h1 h2 HO3
                  refine hK.out _ _ ?_ (fun hHeld2 => ?_)
                  · exact HO4.out.below
                  clear hK K hHeld
                  have hHeld := hHeld2
                  clear hHeld2
                  change wpTill _ _ _ _ _ _ _ _ (Act.put _ (some 85) _) _
                  simp only [Act.put, List.setIfInBounds_toArray, List.set_cons_zero, List.set_cons_succ]
                  refine till_ready (rs := [18]) (by kernel_rfl) (by simp) ?_
                  refine AllTill.cons rfl (fun K hK => ?_) AllTill.nil
                  refine step_own entEl (w0 := U) rfl (.tmp 85) (.tmp 91) rfl _ (J + 1) (AA ++ encE Y) BB rfl HO4.out _ _ _ rfl LB.out (S2.out _ HO4.out.below) O2.out N2.out (J + 1 + (N0 - J)) rfl (by omega) (AA ++ encE Y ++ BB) rfl ?_
                  intro a5 c5 w5 h1 h2
                  have HO5 : Hid (OwnB 58 6 U w5 (.slice a5 (J + 1 + (N0 - J)) c5) (J + 1 + (N0 - J)) (AA ++ encE Y ++ BB)) := h1
                  clear h1 h2 HO4
                  refine hK.out _ _ ?_ (fun hHeld2 => ?_)
                  · exact HO5.out.below
                  clear hK K hHeld
                  have hHeld := hHeld2
                  clear hHeld2
                  change wpTill _ _ _ _ _ _ _ _ (Act.put _ (some 92) _) _
                  simp only [Act.put, List.setIfInBounds_toArray, List.set_cons_zero, List.set_cons_succ]
                  refine till_take (i := 19) (v := ?_) 20 (by kernel_rfl) (Or.inr (by kernel_rfl)) (by kernel_rfl) rfl (by kernel_rfl) (by kernel_rfl) (by kernel_rfl) (fun _ _ _ h => h) (Or.inl ⟨by rfl, ?_⟩) hHeld ?_
                  rotate_left
                  · intro u hSu
                    (go_simp) <;> (with_reducible rfl)
                  change wpTill _ _ _ _ _ _ _ _ (Act.put _ (some 93) _) _
                  simp only [Act.put, List.setIfInBounds_toArray, List.set_cons_zero, List.set_cons_succ]
                  refine till_take (i := 20) (v := ?_) 20 (by kernel_rfl) (Or.inl rfl) (by kernel_rfl) rfl (by kernel_rfl) (by kernel_rfl) (by kernel_rfl) (fun _ _ _ h => h) (Or.inl ⟨by rfl, ?_⟩) hHeld ?_
                  rotate_left
                  · intro u hSu
                    (go_simp) <;> (with_reducible rfl)
                  change wpTill _ _ _ _ _ _ _ _ (Act.put _ (some 94) _) _
                  simp only [Act.put, List.setIfInBounds_toArray, List.set_cons_zero, List.set_cons_succ]
                  refine till_last (by kernel_rfl) (by kernel_rfl) rfl (fun K hK => ?_)
                  obtain ⟨q1, q5⟩ := HKU.out w5 HO5.out.below
                  go_simp
                  refine hK.out _ _ ?_
                  refine NoPanic.normal ?_
                  clear hK K hHeld q1 q5
                  go_wp2
                  go_ret
                  exact HEND.out w5 a5 c5 HO5.out
                refine AllTill.cons rfl (fun K hK => ?_) AllTill.nil
                refine step_build_ent rfl (.tmp 83) rfl Y rfl ?_
                refine hK.out _ _ ?_ (fun hHeld2 => ?_)
                · exact hHeld.alloc hHeld.size _
                clear hK K hHeld
                have hHeld := hHeld2
                clear hHeld2
                change wpTill _ _ _ _ _ _ _ _ (Act.put _ (some 84) _) _
                simp only [Act.put, List.setIfInBounds_toArray, List.set_cons_zero, List.set_cons_succ]
                refine till_ready (rs := [1]) (by kernel_rfl) (by simp) ?_
                refine AllTill.cons rfl (fun K hK => ?_) AllTill.nil
                go_simp
                refine hK.out _ _ ?_ (fun hHeld2 => ?_)
                · exact hHeld.alloc hHeld.size _
                clear hK K hHeld
                have hHeld := hHeld2
                clear hHeld2
                refine till_ready (rs := [8]) (by kernel_rfl) (by simp) ?_
                refine AllTill.cons rfl (fun K hK => ?_) AllTill.nil
                refine step_own entEl (w0 := U) rfl (.tmp 75) (.tmp 81) rfl _ 0 [] AA rfl (own_behind 58 6 U _) _ _ _ rfl LA.out (S1.out _ (own_behind 58 6 U _).below) O1.out N1.out J (Nat.zero_add _) (by omega) AA (List.nil_append _) ?_
                intro a3 c3 w3 h1 h2
                have HO3 : Hid (OwnB 58 6 U w3 (.slice a3 J c3) J AA) := h1
                have HX3 : Hid (Lies w3 (some ⟨U.heap.size, 0, none⟩) (encE Y)) := (made_ahead U 58 58 #[] _ _ _).step (v' := .slice none 0 0) h2
                clear h1 h2
                refine hK.out _ _ ?_ (fun hHeld2 => ?_)
                · exact HO3.out.below
                clear hK K hHeld
                have hHeld := hHeld2
                clear hHeld2
                change wpTill _ _ _ _ _ _ _ _ (Act.put _ (some 82) _) _
                simp only [Act.put, List.setIfInBounds_toArray, List.set_cons_zero, List.set_cons_succ]
                refine till_ready (rs := [11]) (by kernel_rfl) (by simp) ?_
                refine AllTill.cons rfl (fun K hK => ?_) AllTill.nil
                refine step_own entEl (w0 := U) rfl (.tmp 82) (.tmp 84) rfl _ J AA (encE Y) rfl (HO3.out) _ _ _ rfl HLV.out (HX3.out) OV.out (fun h => by cases h) (J + 1) rfl (by omega) (AA ++ encE Y) rfl ?_
                intro a4 c4 w4 h1 h2
                have HO4 : Hid (OwnB 58 6 U w4 (.slice a4 (J + 1) c4) (J + 1) (AA ++ encE Y)) := h1
                clear h1 h2 HO3
                refine hK.out _ _ ?_ (fun hHeld2 => ?_)
                · exact HO4.out.below
                clear hK K hHeld
                have hHeld := hHeld2
                clear hHeld2
                change wpTill _ _ _ _ _ _ _ _ (Act.put _ (some 85) _) _
                simp only [Act.put, List.setIfInBounds_toArray, List.set_cons_zero, List.set_cons_succ]
                refine till_ready (rs := [18]) (by kernel_rfl) (by simp) ?_
                refine AllTill.cons rfl (fun K hK => ?_) AllTill.nil
                refine step_own entEl (w0 := U) rfl (.tmp 85) (.tmp 91) rfl _ (J + 1) (AA ++ encE Y) BB rfl HO4.out _ _ _ rfl LB.out (S2.out _ HO4.out.below) O2.out N2.out (J + 1 + (N0 - J)) rfl (by omega) (AA ++ encE Y ++ BB) rfl ?_
                intro a5 c5 w5 h1 h2
                have HO5 : Hid (OwnB 58 6 U w5 (.slice a5 (J + 1 + (N0 - J)) c5) (J + 1 + (N0 - J)) (AA ++ encE Y ++ BB)) := h1
                clear h1 h2 HO4
                refine hK.out _ _ ?_ (fun hHeld2 => ?_)
                · exact HO5.out.below
                clear hK K hHeld
                have hHeld := hHeld2
                clear hHeld2
                change wpTill _ _ _ _ _ _ _ _ (Act.put _ (some 92) _) _
                simp only [Act.put, List.setIfInBounds_toArray, List.set_cons_zero, List.set_cons_succ]
                refine till_take (i := 19) (v := ?_) 20 (by kernel_rfl) (Or.inr (by kernel_rfl)) (by kernel_rfl) rfl (by kernel_rfl) (by kernel_rfl) (by kernel_rfl) (fun _ _ _ h => h) (Or.inl ⟨by rfl, ?_⟩) hHeld ?_
                rotate_left
                · intro u hSu
                  (go_simp) <;> (with_reducible rfl)
                change wpTill _ _ _ _ _ _ _ _ (Act.put _ (some 93) _) _
                simp only [Act.put, List.setIfInBounds_toArray, List.set_cons_zero, List.set_cons_succ]
                refine till_take (i := 20) (v := ?_) 20 (by kernel_rfl) (Or.inl rfl) (by kernel_rfl) rfl (by kernel_rfl) (by kernel_rfl) (by kernel_rfl) (fun _ _ _ h => h) (Or.inl ⟨by rfl, ?_⟩) hHeld ?_
                rotate_left
                · intro u hSu
                  (go_simp) <;> (with_reducible rfl)
                change wpTill _ _ _ _ _ _ _ _ (Act.put _ (some 94) _) _
                simp only [Act.put, List.setIfInBounds_toArray, List.set_cons_zero, List.set_cons_succ]
                refine till_last (by kernel_rfl) (by kernel_rfl) rfl (fun K hK => ?_)
                obtain ⟨q1, q5⟩ := HKU.out w5 HO5.out.below
                go_simp
                refine hK.out _ _ ?_
                refine NoPanic.normal ?_
                clear hK K hHeld q1 q5
                go_wp2
                go_ret
                exact HEND.out w5 a5 c5 HO5.out
end Go.Proofs.YtileidbdmpeciaaGreat
