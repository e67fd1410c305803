/-
  What the document's own tables answer: Holder, Blocks, Least (hourglassref10: Table).
  What the document's own tables answer: Drop (hourglassref10: Table).
  Lists of entries cut in two; one entry as a list; a list of writes copied.
  Lists whose elements have several cells, in memory of their own: what copy, append of zeros and clear leave of them; and what becomes of the cells when one element is put in, or the first ones go. No function of the program is named here.
  The landed tables in memory (package prep: Table): entries of six cells each in a block of their own, each with a list of writes that lies elsewhere and stays as it is.
  Regions that draw their order and whose last operation writes what the others read: what holds behind every operation is asked as long as one is left.
-/
import Derived.Test.YtileidbdmpeciaaGreatAu100
import Derived.Deep.Slices
import Derived.Test.YtileidbdmpeciaaGreatAu92
import Derived.Laws.CopyRow
import Derived.Maps.AppendAt
import Derived.Lib.Overlaps
import Derived.Test.YtileidbdmpeciaaGreatProg
import Derived.WalkKit
import Derived.Deep.RegionHeld3
namespace Go.Proofs.YtileidbdmpeciaaGreat
open Go.RowKit
set_option linter.unusedVariables false

set_option maxHeartbeats 4000000 in
set_option maxRecDepth 4000 in
theorem rHolder_any (B q : Nat) (M : List EntM) (k : List Int) (hk : Ky k) (w : World) (h : TabR w B q M) :
    Calls Tryz.prog 63 #[.pointer (some ⟨q, 0, none⟩), kv k] w fun e w' => e = .returned (.tuple #[.int .i64 (orE (holdM M k)).e.id, .bool (holdM M k).isSome]) ∧ Below w.heap.size w w' := by
  obtain ⟨V0, hV0⟩ : ∃ V0, V0 = w.alloc (.cells (kcs k) 38) := ⟨_, rfl⟩
  have HBW : Hid (Below w.heap.size w V0) := by rw [hV0]; exact (Below.refl _ _).alloc (Nat.le_refl _) _
  have HK0 : Hid (KeyAt V0 w.heap.size 0 k) := by rw [hV0]; exact KeyAt.made w 38 k hk
  have HV0 : Hid (w.alloc (.cells (kcs k) 38) = V0) := hV0.symm
  have KY : Hid (Ky k) := hk
  obtain ⟨X, hX⟩ : ∃ X, X = orE (holdM M k) := ⟨_, rfl⟩
  obtain ⟨ok, hok⟩ : ∃ x, x = (holdM M k).isSome := ⟨_, rfl⟩
  have CH : Hid (Calls Tryz.prog 113 #[.pointer (some ⟨q, 0, none⟩), kv k] V0 fun e w' => e = .returned (.tuple #[ev X, .bool ok]) ∧ Below V0.heap.size V0 w') := by rw [hX, hok]; exact rholder_any B q M k hk V0 (h.past HBW.out)
  rw [← hX, ← hok]
  obtain ⟨xi, hxi⟩ : ∃ z, z = X.e.id := ⟨_, rfl⟩
  have HX0 : Hid (∀ u b, EntMine u b X → u.cell? ⟨b, 0, none⟩ = some (.int .i64 xi)) := fun u b hm => by rw [hxi]; exact hm.at_.cells.1
  rw [← hxi]
  clear h hk hV0 hX hok hxi
  go_enter Tryz.func63, Tryz.ntmps63
  go_wp2_with (first | ((with_reducible show wpList _ _ _ (Oper.mk (some 10) _ _ _ _ _ :: _) _ _); rw [HV0.out]; refine wpList_load_keyD 10 (by rfl) (by rfl) _ (by rfl) w.heap.size 0 (by rfl) k KY.out HK0.out ?_) | (go_at_call 113; refine CH.out.mono ?_; rintro e w2 ⟨rfl, hb2⟩; have HB2 : Hid (Below w.heap.size w w2) := HBW.out.trans (hb2.mono HBW.out.size); have hmi := EntMine.made w2 58 zeroE; rw [zeroE_cells] at hmi; have HMI : Hid _ := hmi; clear hmi hb2) | (have hgo := HMI.out; clear hgo; refine wpList_store_ent (.tmp 6) (by rfl) _ (by rfl) w2.heap.size zeroE X (by rfl) (by rfl) HMI.out ?_; intro u3 hu; have HM3 : Hid (EntMine u3 w2.heap.size X) := hu ▸ HMI.out.store; have HB3 : Hid (Below w.heap.size w u3) := hu ▸ below_cells HB2.out.size (HB2.out.alloc HB2.out.size _); have z0 := HX0.out _ _ HM3.out; clear hu HMI))
  go_ret2
  exact ⟨rfl, HB3.out⟩
/-- Whom a reader waits for, in memory's words. -/
theorem blocks_code (M : List EntM) (k : List Int) (t n : Int) : blocksT (ents M) k t n = if (holdM M k).isSome = true then (if 0 < cmpS (orE (holdM M k)).e.t (orE (holdM M k)).e.n t n then none else some (orE (holdM M k)).e.id) else none := by
  unfold blocksT
  rw [← holdM_e]
  cases holdM M k <;> rfl
set_option maxHeartbeats 4000000 in
set_option maxRecDepth 4000 in
theorem rblocks_any (B q : Nat) (M : List EntM) (k : List Int) (hk : Ky k) (t n : Int) (w : World) (h : TabR w B q M) :
    Calls Tryz.prog 75 #[.pointer (some ⟨q, 0, none⟩), kv k, .agg #[.int .i64 t, .int .u8 n]] w fun e w' => e = .returned (.tuple #[.int .i64 ((blocksT (ents M) k t n).getD 0), .bool (blocksT (ents M) k t n).isSome]) ∧ Below w.heap.size w w' := by
  obtain ⟨w1, hw1⟩ : ∃ u, u = (w.alloc (.cells (kcs k) 38)).alloc (.cells #[.int .i64 t, .int .u8 n] 28) := ⟨_, rfl⟩
  have hk1 : KeyAt w1 w.heap.size 0 k := by rw [hw1]; exact (KeyAt.made w 38 k hk).past ((Below.refl _ _).alloc (Nat.le_refl _) _)
  have HB1 : Hid (Below w.heap.size w w1) := by rw [hw1]; exact ((Below.refl _ _).alloc (Nat.le_refl _) _).alloc (by simp) _
  have FT0 : w1.cell? ⟨w.heap.size + 1, 0, none⟩ = some (.int .i64 t) ∧ w1.cell? ⟨w.heap.size + 1, 1, none⟩ = some (.int .u8 n) := by
    have e : ∀ o, w1.cell? ⟨w.heap.size + 1, o, none⟩ = (#[.int .i64 t, .int .u8 n] : Array Value)[o]? := fun o => by
      have := World.cell?_alloc_new (w.alloc (.cells (kcs k) 38)) #[.int .i64 t, .int .u8 n] 28 o
      rw [World.size_alloc] at this
      rw [hw1, this]
    exact ⟨e 0, e 1⟩
  have FT : Hid (∀ u, Below w1.heap.size w1 u → u.cell? ⟨w.heap.size + 1, 0, none⟩ = some (.int .i64 t) ∧ u.cell? ⟨w.heap.size + 1, 1, none⟩ = some (.int .u8 n)) := fun u hb => ⟨(hb.cell (p := ⟨w.heap.size + 1, 0, none⟩) (cell_lt FT0.1)).trans FT0.1, (hb.cell (p := ⟨w.heap.size + 1, 1, none⟩) (cell_lt FT0.1)).trans FT0.2⟩
  have FK : Hid (KeyAt w1 w.heap.size 0 k) := hk1
  have KY : Hid (Ky k) := hk
  have HW1 : Hid ((w.alloc (.cells (kcs k) 38)).alloc (.cells #[.int .i64 t, .int .u8 n] 28) = w1) := hw1.symm
  have hcode := blocks_code M k t n
  obtain ⟨R, hR⟩ : ∃ R, R = blocksT (ents M) k t n := ⟨_, rfl⟩
  rw [← hR] at hcode ⊢
  obtain ⟨X, hX⟩ : ∃ X, X = orE (holdM M k) := ⟨_, rfl⟩
  obtain ⟨ok, hok⟩ : ∃ x, x = (holdM M k).isSome := ⟨_, rfl⟩
  have CH : Hid (Calls Tryz.prog 113 #[.pointer (some ⟨q, 0, none⟩), kv k] w1 fun e w' => e = .returned (.tuple #[ev X, .bool ok]) ∧ Below w1.heap.size w1 w') := by rw [hX, hok]; exact rholder_any B q M k hk w1 (h.past HB1.out)
  rw [← hX, ← hok] at hcode
  obtain ⟨xi, hxi⟩ : ∃ z, z = X.e.id := ⟨_, rfl⟩
  obtain ⟨xt, hxt⟩ : ∃ z, z = X.e.t := ⟨_, rfl⟩
  obtain ⟨xn, hxn⟩ : ∃ z, z = X.e.n := ⟨_, rfl⟩
  obtain ⟨c, hc⟩ : ∃ c, c = cmpS xt xn t n := ⟨_, rfl⟩
  have HX0 : Hid (∀ u b, EntMine u b X → u.cell? ⟨b, 0, none⟩ = some (.int .i64 xi) ∧ u.cell? ⟨b, 3, none⟩ = some (.int .i64 xt) ∧ u.cell? ⟨b, 4, none⟩ = some (.int .u8 xn)) := fun u b hm => by
    have hcs := hm.at_.cells
    rw [hxi, hxt, hxn]
    simp only [Nat.zero_add] at hcs
    exact ⟨hcs.1, hcs.2.2.2.1, hcs.2.2.2.2.1⟩
  have CC : Hid (∀ u, Calls Tryz.prog 39 #[.agg #[.int .i64 xt, .int .u8 xn], .agg #[.int .i64 t, .int .u8 n]] u fun e w' => e = .returned (.int .i64 c) ∧ Below u.heap.size u w') := fun u => by rw [hc]; exact rcmp6_any xt xn t n u
  rw [← hxt, ← hxn, ← hxi, ← hc] at hcode
  clear h hk hw1 hk1 FT0 hX hok hxi hxt hxn hR hc
  cases ok with
  | false =>
    have HR : Hid (R = none) := hcode
    clear hcode
    go_enter Tryz.func75, Tryz.ntmps75
    go_wp2_with (first | ((with_reducible show wpList _ _ _ (Oper.mk (some 12) _ _ _ _ _ :: _) _ _); rw [HW1.out]; refine wpList_load_keyD 12 (by rfl) (by rfl) _ (by rfl) w.heap.size 0 (by rfl) k KY.out FK.out ?_) | (go_at_call 113; refine CH.out.mono ?_; rintro e w2 ⟨rfl, hb2⟩; have HB2 : Hid (Below w.heap.size w w2) := HB1.out.trans (hb2.mono HB1.out.size); have hmi := EntMine.made w2 58 zeroE; rw [zeroE_cells] at hmi; have HMI : Hid _ := hmi; clear hmi hb2) | (have hgo := HMI.out; clear hgo; refine wpList_store_ent (.tmp 8) (by rfl) _ (by rfl) w2.heap.size zeroE X (by rfl) (by rfl) HMI.out ?_; intro u3 hu; have HB3 : Hid (Below w.heap.size w u3) := hu ▸ below_cells HB2.out.size (HB2.out.alloc HB2.out.size _); clear hu HMI))
    go_ret2
    exact ⟨by rw [HR.out]; rfl, HB3.out⟩
  | true =>
    by_cases hc0 : 0 < c
    · have bc : decide (0 < c) = true := decide_eq_true hc0
      have HR : Hid (R = none) := by rw [if_pos rfl, if_pos hc0] at hcode; exact hcode
      clear hcode hc0
      go_enter Tryz.func75, Tryz.ntmps75
      go_wp2_with (first | ((with_reducible show wpList _ _ _ (Oper.mk (some 12) _ _ _ _ _ :: _) _ _); rw [HW1.out]; refine wpList_load_keyD 12 (by rfl) (by rfl) _ (by rfl) w.heap.size 0 (by rfl) k KY.out FK.out ?_) | (go_at_call 113; refine CH.out.mono ?_; rintro e w2 ⟨rfl, hb2⟩; have B2 : Hid (Below w1.heap.size w1 w2) := hb2; have HB2 : Hid (Below w.heap.size w w2) := HB1.out.trans (hb2.mono HB1.out.size); have hmi := EntMine.made w2 58 zeroE; rw [zeroE_cells] at hmi; have HMI : Hid _ := hmi; clear hmi hb2) | (have hgo := HMI.out; clear hgo; refine wpList_store_ent (.tmp 8) (by rfl) _ (by rfl) w2.heap.size zeroE X (by rfl) (by rfl) HMI.out ?_; intro u3 hu; have HM3 : Hid (EntMine u3 w2.heap.size X) := hu ▸ HMI.out.store; have B3 : Hid (Below w1.heap.size w1 u3) := hu ▸ below_cells B2.out.size (B2.out.alloc B2.out.size _); have HB3 : Hid (Below w.heap.size w u3) := HB1.out.trans (B3.out.mono HB1.out.size); obtain ⟨z0, z1, z2⟩ := HX0.out _ _ HM3.out; obtain ⟨t0, t1⟩ := FT.out _ B3.out; clear hu HMI) | (go_at_call 39; refine (CC.out _).mono ?_; rintro e u4 ⟨rfl, hb4⟩; have HM4 : Hid (EntMine u4 w2.heap.size X) := HM3.out.past hb4; have HB4 : Hid (Below w.heap.size w u4) := HB3.out.trans (hb4.mono HB3.out.size); clear z0 z1 z2 t0 t1; obtain ⟨z0, z1, z2⟩ := HX0.out _ _ HM4.out; clear hb4))
      go_ret2
      exact ⟨by rw [HR.out]; rfl, HB4.out⟩
    · have bc : decide (0 < c) = false := decide_eq_false hc0
      have HR : Hid (R = some xi) := by rw [if_pos rfl, if_neg hc0] at hcode; exact hcode
      clear hcode hc0
      go_enter Tryz.func75, Tryz.ntmps75
      go_wp2_with (first | ((with_reducible show wpList _ _ _ (Oper.mk (some 12) _ _ _ _ _ :: _) _ _); rw [HW1.out]; refine wpList_load_keyD 12 (by rfl) (by rfl) _ (by rfl) w.heap.size 0 (by rfl) k KY.out FK.out ?_) | (go_at_call 113; refine CH.out.mono ?_; rintro e w2 ⟨rfl, hb2⟩; have B2 : Hid (Below w1.heap.size w1 w2) := hb2; have HB2 : Hid (Below w.heap.size w w2) := HB1.out.trans (hb2.mono HB1.out.size); have hmi := EntMine.made w2 58 zeroE; rw [zeroE_cells] at hmi; have HMI : Hid _ := hmi; clear hmi hb2) | (have hgo := HMI.out; clear hgo; refine wpList_store_ent (.tmp 8) (by rfl) _ (by rfl) w2.heap.size zeroE X (by rfl) (by rfl) HMI.out ?_; intro u3 hu; have HM3 : Hid (EntMine u3 w2.heap.size X) := hu ▸ HMI.out.store; have B3 : Hid (Below w1.heap.size w1 u3) := hu ▸ below_cells B2.out.size (B2.out.alloc B2.out.size _); have HB3 : Hid (Below w.heap.size w u3) := HB1.out.trans (B3.out.mono HB1.out.size); obtain ⟨z0, z1, z2⟩ := HX0.out _ _ HM3.out; obtain ⟨t0, t1⟩ := FT.out _ B3.out; clear hu HMI) | (go_at_call 39; refine (CC.out _).mono ?_; rintro e u4 ⟨rfl, hb4⟩; have HM4 : Hid (EntMine u4 w2.heap.size X) := HM3.out.past hb4; have HB4 : Hid (Below w.heap.size w u4) := HB3.out.trans (hb4.mono HB3.out.size); clear z0 z1 z2 t0 t1; obtain ⟨z0, z1, z2⟩ := HX0.out _ _ HM4.out; clear hb4))
      go_ret2
      exact ⟨by rw [HR.out]; rfl, HB4.out⟩
theorem info_st : (Tryz.prog.info? 28).map (·.size) = some 2 := by kernel_rfl
/-- A stamp in memory of the call's own. -/
structure StMine (w : World) (b : Nat) (t n : Int) : Prop where
  c0 : w.cell? ⟨b, 0, none⟩ = some (.int .i64 t)
  c1 : w.cell? ⟨b, 1, none⟩ = some (.int .u8 n)
  free : ∀ i, i < 2 → w.frozen? ⟨b, 0 + i, none⟩ = false
theorem StMine.made (w : World) (T : TypeId) (t n : Int) : StMine (w.alloc (.cells #[.int .i64 t, .int .u8 n] T)) w.heap.size t n :=
  ⟨by rw [World.cell?_alloc_new]; rfl, by rw [World.cell?_alloc_new]; rfl, fun i hi => World.frozen?_alloc_new _ _ _ _⟩
theorem StMine.past {w w' : World} {b : Nat} {t n : Int} (h : StMine w b t n) (hb : Below w.heap.size w w') : StMine w' b t n :=
  have hl := cell_lt h.c0
  ⟨(hb.cell (p := ⟨b, 0, none⟩) hl).trans h.c0, (hb.cell (p := ⟨b, 1, none⟩) hl).trans h.c1, fun i hi => (hb.frozen (p := ⟨b, 0 + i, none⟩) hl).trans (h.free i hi)⟩
theorem StMine.there {w : World} {b : Nat} {t n : Int} (h : StMine w b t n) : w.there b 0 2 := fun j hj => by
  refine ⟨?_, h.free j hj⟩
  have : j = 0 ∨ j = 1 := by omega
  rcases this with rfl | rfl
  · rw [Nat.zero_add, h.c0]; rfl
  · rw [Nat.zero_add, h.c1]; rfl
theorem StMine.store {w : World} {b : Nat} {t n t' n' : Int} (h : StMine w b t n) : StMine (w.setCells b 0 [.int .i64 t', .int .u8 n']) b t' n' := by
  have hr := World.rangeAt_setCells_same w b 0 [.int .i64 t', .int .u8 n'] h.there
  exact ⟨hr 0 _ rfl, hr 1 _ rfl, fun i hi => by rw [World.frozen?_setCells]; exact h.free i hi⟩
/-- What Least's rounds hold. -/
structure LsB (w u : World) (t n : Int) : Prop where
  r : StMine u w.heap.size 0 0
  b : StMine u (w.heap.size + 1) t n
  below : Below w.heap.size w u
theorem LsB.made (w : World) (T : TypeId) : LsB w ((w.alloc (.cells #[.int .i64 0, .int .u8 0] T)).alloc (.cells #[.int .i64 0, .int .u8 0] T)) 0 0 := by
  obtain ⟨u1, h1⟩ : ∃ u, u = w.alloc (.cells #[.int .i64 0, .int .u8 0] T) := ⟨_, rfl⟩
  have e1 : u1.heap.size = w.heap.size + 1 := by rw [h1]; simp
  have r1 : StMine u1 w.heap.size 0 0 := by rw [h1]; exact StMine.made w T 0 0
  have b1 : Below w.heap.size w u1 := by rw [h1]; exact (Below.refl _ _).alloc (Nat.le_refl _) _
  rw [← h1]
  have b2 : Below u1.heap.size u1 (u1.alloc (.cells #[.int .i64 0, .int .u8 0] T)) := (Below.refl _ _).alloc (Nat.le_refl _) _
  have m2 := StMine.made u1 T 0 0
  rw [e1] at m2
  exact ⟨r1.past b2, m2, b1.trans (b2.mono b1.size)⟩
theorem LsB.past {w u u' : World} {t n : Int} (h : LsB w u t n) (hb : Below u.heap.size u u') : LsB w u' t n := ⟨h.r.past hb, h.b.past hb, h.below.trans (hb.mono h.below.size)⟩
theorem cells_else {w : World} {b c : Nat} (hne : c ≠ b) : ∀ (vs : List Value) (o : Nat) (w : World), (w.setCells b o vs).heap[c]? = w.heap[c]?
  | [], o, w => rfl
  | v :: r, o, w => by
    show ((w.setCell ⟨b, o, none⟩ v).setCells b (o + 1) r).heap[c]? = _
    rw [cells_else (w := w) hne r (o + 1) (w.setCell ⟨b, o, none⟩ v)]
    exact Below.heap_setCell _ ⟨b, o, none⟩ _ c hne
theorem StMine.else_ {w : World} {b c : Nat} {t n : Int} (h : StMine w c t n) (hne : c ≠ b) (vs : List Value) : StMine (w.setCells b 0 vs) c t n :=
  have hk := cells_else (w := w) hne vs 0 w
  ⟨(cell_kept hk 0).trans h.c0, (cell_kept hk 1).trans h.c1, fun i hi => by rw [World.frozen?_setCells]; exact h.free i hi⟩
theorem LsB.store {w u : World} {t n t' n' : Int} (h : LsB w u t n) : LsB w (u.setCells (w.heap.size + 1) 0 [.int .i64 t', .int .u8 n']) t' n' :=
  ⟨h.r.else_ (by omega) _, h.b.store, below_cells (by omega) h.below⟩
end Go.Proofs.YtileidbdmpeciaaGreat

namespace Go.Proofs.YtileidbdmpeciaaGreat
open Go.RowKit
set_option linter.unusedVariables false

theorem entEl : ElT 69 58 6 64 := ElT.mk' (z := ev zeroE) Tryz.underlying69 (by kernel_rfl) (by kernel_rfl) (by decide) (by decide)
theorem run_build_ent1 (w : World) (x : EntM) : (Instr.buildSlice 69 1 #[(0, ev x)]).run Tryz.prog w = .ok (.slice (some ⟨w.heap.size, 0, none⟩) 1 1) (w.alloc (.cells (encE x).toArray 58)) := by
  have hf : Instr.fill (fun i => some (i * 6, 6)) (encE zeroE).toArray [(0, ev x)] = some (encE x).toArray := by
    rw [fill_step _ (encE zeroE) 0 0 6 (encE x) rfl rfl (by rw [encE_len]; omega)]
    rfl
  simp [Instr.buildSlice, run_underlying Tryz.underlying69]
  generalize hz : Array.map _ (Array.range 6) = Z
  have hz2 : Z = (encE zeroE).toArray := by rw [← hz]; kernel_rfl
  rw [hz2, hf]
  simp [newRow]
theorem wpList_build_ent1 (d : Tmp) {ops : Array Oper} {rest : List Oper} {op : Oper} {a : Act} {w : World} {Q : Exit → Act → World → Prop} (hd : op.dst = some d) (hgd : op.guard = none) (y : Operand) (ho : op.op = .buildSlice 69 1 #[(0, y)])
    (x : EntM) (hx : a.eval y = ev x)
    (h : wpList Tryz.prog ops Q rest (a.put op.dst (.slice (some ⟨w.heap.size, 0, none⟩) 1 1)) (w.alloc (.cells (encE x).toArray 58))) : wpList Tryz.prog ops Q (op :: rest) a w := by
  refine wpList_plain hgd fun K hK => ?_
  have hrun := run_build_ent1 w x
  unfold Oper.wp
  simp only [execOp, ho, List.map_toArray, List.map_cons, List.map_nil, hx, Sem.run_bind, hrun, Result.andThen]
  exact hK _ _ h
/-- The list of a table in q lies where it lay, or in a block that is new. -/
def RowedT (w w' : World) (q : Nat) : Prop := ∀ v, w'.cell? ⟨q, 0, none⟩ = some v → ∀ g, v.ownBlock = some g → w.heap.size ≤ g ∨ ∃ v0, w.cell? ⟨q, 0, none⟩ = some v0 ∧ v0.ownBlock = some g
theorem row_keptT {u u' : World} {B e size : Nat} {v : Value} {n : Nat} {xs : List Value} (h : u.ownsRow B e size v n xs) (hk : ∀ k, v.ownBlock = some k → u'.heap[k]? = u.heap[k]?) : u'.ownsRow B e size v n xs := by
  refine ⟨h.1, ?_⟩
  rcases h.2 with e | ⟨g, cap, cur, e1, e2, hh, r⟩
  · exact .inl e
  · exact .inr ⟨g, cap, cur, e1, e2, (hk g (by rw [e1]; rfl)).trans hh, r⟩
theorem own_downT {u : World} {B B' : Nat} {e : TypeId} {size : Nat} {v : Value} {n : Nat} {xs : List Value} (h : u.ownsRow B e size v n xs) (hB : B' ≤ B) : u.ownsRow B' e size v n xs :=
  ⟨h.1, h.2.imp (fun h => h) (fun ⟨g, cap, cur, h1, h2, h3⟩ => ⟨g, cap, cur, h1, Nat.le_trans hB h2, h3⟩)⟩
/-- A list that is all new is laid into the table; behind it the call's own blocks from w on may turn, but not the list's. -/
theorem TabR.lay {w u u' : World} {B q : Nat} {M M' : List EntM} (h : TabR w B q M) (hB : B ≤ w.heap.size) (hb : Below w.heap.size w u) {a : Option Addr} {N c b : Nat} (hN : M'.length = N) (hrow : u.ownsRow b 58 6 (.slice a N c) N (M'.flatMap encE)) (hbw : w.heap.size < b) (hsub : ∀ x ∈ M', x ∈ M) (hfew : M'.length ≤ 1000)
    (hs : u.heap.size ≤ u'.heap.size) (hq : u'.cell? ⟨q, 0, none⟩ = some (.slice a N c)) (hfz : u'.frozen? ⟨q, 0, none⟩ = false) (hk : ∀ k, k ≠ q → k ≠ w.heap.size → u'.heap[k]? = u.heap[k]?) (ho : u'.os = u.os ∧ u'.tape = u.tape ∧ u'.output = u.output) :
    TabR u' B q M' ∧ Chg w u' (fun k => k = q) ∧ RowedT w u' q := by
  subst hN
  have hlt := h.lt
  refine ⟨⟨Nat.lt_of_lt_of_le (Nat.lt_of_lt_of_le hlt hb.size) hs, h.lo, ⟨a, c, hq, row_keptT (own_downT hrow (by omega)) (fun k e => hk k (by have := (hrow.lt k e).1; omega) (by have := (hrow.lt k e).1; omega)), fun k e => by have := (hrow.lt k e).1; omega⟩, hfz, fun x hx => ?_, fun x hx => h.far x (hsub x hx), hfew⟩, ⟨ho.1.trans hb.os, ho.2.1.trans hb.tape, ho.2.2.trans hb.output, Nat.le_trans hb.size hs, fun k hkw hn => (hk k hn (by omega)).trans (hb.block k hkw)⟩, fun v hv g hg => .inl ?_⟩
  · refine (h.wrs x (hsub x hx)).kept (fun hl b o e => ?_)
    have h1 := (h.wrs x (hsub x hx)).wr.blt hl e
    rw [hk b (h.far x (hsub x hx) hl b o e) (by omega)]
    exact hb.block b h1
  · rw [hq] at hv
    injection hv with hv
    rw [← hv] at hg
    have := (hrow.lt g hg).1
    omega
theorem EntAt.kept {u u' : World} {b o : Nat} {x : EntM} (h : EntAt u b o x) (hk : u'.heap[b]? = u.heap[b]?) : EntAt u' b o x := ⟨lies_of fun j v hv => by rw [cell_kept hk]; exact h.lies.at j v hv⟩
theorem EntMine.kept {u u' : World} {b : Nat} {x : EntM} (h : EntMine u b x) (hk : u'.heap[b]? = u.heap[b]?) : EntMine u' b x := ⟨h.at_.kept hk, fun i hi => by rw [frozen_kept hk]; exact h.free i hi⟩
def dropM (M : List EntM) (id : Int) : List EntM := M.filter (fun x => decide (x.e.id ≠ id))
theorem dropM_e (M : List EntM) (id : Int) : ents (dropM M id) = dropT (ents M) id := by unfold dropM dropT ents; rw [List.filter_map]; rfl
theorem drop_next {M : List EntM} {id : Int} {i : Nat} {x : EntM} (h : M[i]? = some x) : dropM (M.take (i + 1)) id = dropM (M.take i) id ++ if x.e.id = id then [] else [x] := by
  unfold dropM
  rw [List.take_add_one, h, List.filter_append]
  congr 1
  by_cases e : x.e.id = id <;> simp [e]
set_option maxHeartbeats 8000000 in
set_option maxRecDepth 8000 in
theorem rdrop_any (B q : Nat) (M : List EntM) (id : Int) (w : World) (h : TabR w B q M) (hB : B ≤ w.heap.size) :
    Calls Tryz.prog 70 #[.pointer (some ⟨q, 0, none⟩), .int .i64 id] w fun e w' => e = .returned (.tuple #[ev (orE (hasM M id)), .bool (hasM M id).isSome]) ∧ TabR w' B q (dropM M id) ∧ Chg w w' (fun k => k = q) ∧ RowedT w w' q := by
  obtain ⟨V0, hV0⟩ : ∃ V0, V0 = w.alloc (.cells (encE zeroE).toArray 58) := ⟨_, rfl⟩
  have HBW : Hid (Below w.heap.size w V0) := by rw [hV0]; exact (Below.refl _ _).alloc (Nat.le_refl _) _
  have HM0 : Hid (EntMine V0 w.heap.size zeroE) := by rw [hV0]; exact EntMine.made w 58 zeroE
  have hsz : V0.heap.size = w.heap.size + 1 := by rw [hV0]; simp
  have HV0 : Hid (w.alloc (.cells (encE zeroE).toArray 58) = V0) := hV0.symm
  rw [zeroE_cells] at HV0
  obtain ⟨N, hN⟩ : ∃ N, N = M.length := ⟨_, rfl⟩
  obtain ⟨a0, c0, hcap, hcell, hs⟩ := h.open
  have hfew := h.few
  rw [← hN] at hcap hcell hfew
  have HTB : Hid (TabR w B q M) := h
  have HBB : Hid (B ≤ w.heap.size) := hB
  have HCE : Hid (∀ v, Below w.heap.size w v → v.cell? ⟨q, 0, none⟩ = some (.slice a0 N c0)) := hcell
  have HN : Hid (M.length = N) := hN.symm
  have HS : Hid (∀ i x, M[i]? = some x → ∃ g, a0 = some ⟨g, 0, none⟩ ∧ Hid (∀ v, Below w.heap.size w v → EntAt v g (i * 6) x)) := fun i x hx => by
    rcases hs with e | ⟨g, e1, e4⟩
    · rw [e] at hx; simp at hx
    · exact ⟨g, e1, fun v hv => e4 v hv i x hx⟩
  obtain ⟨X, hX⟩ : ∃ X, X = orE (hasM M id) := ⟨_, rfl⟩
  obtain ⟨ok, hok⟩ : ∃ x, x = (hasM M id).isSome := ⟨_, rfl⟩
  have CH : Hid (Calls Tryz.prog 68 #[.pointer (some ⟨q, 0, none⟩), .int .i64 id] V0 fun e w' => e = .returned (.tuple #[ev X, .bool ok]) ∧ Below V0.heap.size V0 w') := by rw [hX, hok]; exact rhas_any B q M id V0 (h.past HBW.out)
  rw [← hX, ← hok]
  clear h hs hcell hN hV0 hX hok hB
  go_enter Tryz.func70, Tryz.ntmps70
  go_wp2_with (first | (go_at_call 68; rw [HV0.out]; refine CH.out.mono ?_; rintro e w1 ⟨rfl, hb1⟩; have B1 : Hid (Below V0.heap.size V0 w1) := hb1; have hmi := EntMine.made w1 58 zeroE; rw [zeroE_cells] at hmi; have HMI : Hid _ := hmi; clear hmi hb1) | (have hgo := HMI.out; clear hgo; refine wpList_store_ent (.tmp 6) (by rfl) _ (by rfl) w1.heap.size zeroE X (by rfl) (by rfl) HMI.out ?_; intro U hu; have HMX : Hid (EntMine U w1.heap.size X) := hu ▸ HMI.out.store; have HBU : Hid (Below V0.heap.size V0 U) := hu ▸ below_cells B1.out.size (B1.out.alloc B1.out.size _); clear hu HMI))
  have hw1 : w.heap.size < w1.heap.size := by have := B1.out.size; omega
  have hU1 : w.heap.size < U.heap.size := by have := HBU.out.size; omega
  have HWU : Hid (Below w.heap.size w U) := HBW.out.trans (HBU.out.mono HBW.out.size)
  have HMU : Hid (EntMine U w.heap.size zeroE) := HM0.out.past HBU.out
  clear CH HM0 HV0
  go_loopw [8, 9] (fun rv iv wr => ∃ (i m : Nat) (ra : Option Addr) (rc : Nat), iv = .int .i64 i ∧ rv = .slice ra m rc ∧ i ≤ N ∧ m ≤ i ∧ Hid (OwnB 58 6 U wr (.slice ra m rc) m ((dropM (M.take i) id).flatMap encE)) ∧ Hid ((dropM (M.take i) id).length = m)) (fun _ iv _ => N - (intOf iv).toNat)
  case atStart => exact ⟨0, 0, none, 0, rfl, rfl, Nat.zero_le _, Nat.le_refl _, ⟨World.ownsRow_nil _ _ _ _, Below.refl _ _⟩, rfl⟩
  case round =>
    obtain ⟨i, m, ra, rc, rfl, rfl, hi, hmi, HO, HML⟩ := hrel
    have hi0 : (0 : Int) ≤ (i : Int) := by omega
    have HWR : Hid (Below w.heap.size w wr) := HWU.out.trans (HO.out.below.mono HWU.out.size)
    have q0 := HCE.out wr HWR.out
    by_cases hlt : i < N
    · have h1 : (i : Int) < (N : Int) := by omega
      obtain ⟨x, hx⟩ : ∃ x, M[i]? = some x := ⟨_, List.getElem?_eq_getElem (by rw [HN.out]; exact hlt)⟩
      obtain ⟨g, hag, HG⟩ := HS.out i x hx
      rw [hag] at q0
      have FE : Hid (EntAt wr g (i * 6) x) := HG.out wr HWR.out
      obtain ⟨y0, _⟩ := FE.out.cells
      have HNX : Hid (dropM (M.take (i + 1)) id = dropM (M.take i) id ++ if x.e.id = id then [] else [x]) := drop_next hx
      obtain ⟨xi, hxi⟩ : ∃ z, z = x.e.id := ⟨_, rfl⟩
      rw [← hxi] at y0 HNX
      clear hx hxi hag
      have hm1 : m + 1 ≤ 1000000 := by omega
      by_cases he : xi = id
      · have be : (xi != id) = false := by simp [he]
        have HX : Hid (dropM (M.take (i + 1)) id = dropM (M.take i) id) := by show _ = _; rw [HNX.out, if_pos he, List.append_nil]
        clear HNX he
        go_wp2
        go_roundw
        case rel => exact ⟨i + 1, m, ra, rc, by go_num, rfl, by omega, by omega, by rw [HX.out]; exact HO, by rw [HX.out]; exact HML⟩
        case measure => simp [intOf]; omega
      · have be : (xi != id) = true := by simpa using he
        have HX : Hid (dropM (M.take (i + 1)) id = dropM (M.take i) id ++ [x]) := by show _ = _; rw [HNX.out, if_neg he]
        have HFL : Hid ((dropM (M.take i) id).flatMap encE ++ encE x = (dropM (M.take (i + 1)) id).flatMap encE) := by show _ = _; rw [HX.out, List.flatMap_append]; simp
        clear HNX he
        go_wp2_with (first | ((with_reducible show wpList _ _ _ (Oper.mk (some 42) _ _ _ _ _ :: _) _ _); refine wpList_load_ent 42 (by rfl) (by rfl) _ (by rfl) g (i * 6) (by rfl) x FE.out ?_) | ((with_reducible show wpList _ _ _ (Oper.mk (some 43) _ _ _ _ _ :: _) _ _); refine wpList_build_ent1 43 (by rfl) (by rfl) _ (by rfl) x (by rfl) ?_) | (at_builtin; refine wpList_own entEl (w0 := U) rfl (.tmp 35) (.tmp 43) rfl _ m _ (encE x) rfl (HO.out.alloc _) _ _ _ rfl (by rw [encE_len]) (lies_made _ _ _) (encE_one x) (fun h => by cases h) (m + 1) rfl hm1 _ HFL.out ?_; intro a6 c6 w6 h1 h2; have O6 : Hid (OwnB 58 6 U w6 (.slice a6 (m + 1) c6) (m + 1) ((dropM (M.take (i + 1)) id).flatMap encE)) := h1; clear h1 h2))
        go_roundw
        case rel => exact ⟨i + 1, m + 1, a6, c6, by go_num, rfl, by omega, by omega, O6, by show _ = _; rw [HX.out, List.length_append, HML.out]; rfl⟩
        case measure => simp [intOf]; omega
    · obtain rfl : i = N := by omega
      have HT : Hid (M.take i = M) := List.take_of_length_le (by rw [HN.out]; exact Nat.le_refl _)
      rw [HT.out] at HO HML
      have f0 : wr.frozen? ⟨q, 0, none⟩ = false := (HWR.out.frozen (p := ⟨q, 0, none⟩) HTB.out.lt).trans HTB.out.free
      have hqw := HTB.out.lt
      have K1 : ∀ k, k ≠ q → (wr.setCell ⟨q, 0, none⟩ (.slice ra m rc)).heap[k]? = wr.heap[k]? := fun k hne => Below.heap_setCell _ ⟨q, 0, none⟩ _ k hne
      have HXS : Hid (EntAt (wr.setCell ⟨q, 0, none⟩ (.slice ra m rc)) w1.heap.size 0 X) := (HMX.out.past HO.out.below).at_.kept (K1 _ (by omega))
      have HZS : Hid (EntMine (wr.setCell ⟨q, 0, none⟩ (.slice ra m rc)) w.heap.size zeroE) := (HMU.out.past HO.out.below).kept (K1 _ (by omega))
      have HCS : Hid ((wr.setCell ⟨q, 0, none⟩ (.slice ra m rc)).cell? ⟨q, 0, none⟩ = some (.slice ra m rc)) := World.cell?_setCell_same _ _ _ q0
      have HFS : Hid ((wr.setCell ⟨q, 0, none⟩ (.slice ra m rc)).frozen? ⟨q, 0, none⟩ = false) := by rw [World.frozen?_setCell]; exact f0
      have HK1 : Hid (∀ k, k ≠ q → (wr.setCell ⟨q, 0, none⟩ (.slice ra m rc)).heap[k]? = wr.heap[k]?) := K1
      have HSI : Hid (wr.heap.size ≤ (wr.setCell ⟨q, 0, none⟩ (.slice ra m rc)).heap.size ∧ (wr.setCell ⟨q, 0, none⟩ (.slice ra m rc)).os = wr.os ∧ (wr.setCell ⟨q, 0, none⟩ (.slice ra m rc)).tape = wr.tape ∧ (wr.setCell ⟨q, 0, none⟩ (.slice ra m rc)).output = wr.output) := ⟨by rw [World.size_setCell]; exact Nat.le_refl _, rfl, rfl, rfl⟩
      clear K1
      go_wp2_with (first | ((with_reducible show wpList _ _ _ (Oper.mk (some 49) _ _ _ _ _ :: _) _ _); refine wpList_load_ent 49 (by rfl) (by rfl) _ (by rfl) w1.heap.size 0 (by rfl) X HXS.out ?_) | (have hgo := HZS.out; clear hgo; refine wpList_store_ent (.tmp 4) (by rfl) _ (by rfl) w.heap.size zeroE X (by rfl) (by rfl) HZS.out ?_; intro u5 hu; have HM5 : Hid (EntMine u5 w.heap.size X) := hu ▸ HZS.out.store; have HU5 : Hid (u5 = (wr.setCell ⟨q, 0, none⟩ (.slice ra m rc)).setCells w.heap.size 0 (encE X)) := hu; clear hu HZS))
      refine bodyPost_ret (results_ent rfl _ _ w.heap.size X rfl HM5.out.at_) rfl ?_
      have hbl : Below w.heap.size (wr.setCell ⟨q, 0, none⟩ (.slice ra m rc)) u5 := by rw [HU5.out]; exact below_cells (Nat.le_refl _) (Below.refl _ _)
      have hcq : u5.heap[q]? = (wr.setCell ⟨q, 0, none⟩ (.slice ra m rc)).heap[q]? := by rw [HU5.out]; exact cells_else (w := w) (by omega) _ _ _
      refine ⟨rfl, HTB.out.lay HBB.out HWR.out HML.out HO.out.own hU1 (fun x hx => (List.mem_filter.1 hx).1) (by rw [HML.out]; omega) (Nat.le_trans HSI.out.1 hbl.size) ((cell_kept hcq 0).trans HCS.out) ((frozen_kept hcq 0).trans HFS.out) (fun k h1 h2 => ?_) ⟨hbl.os.trans HSI.out.2.1, hbl.tape.trans HSI.out.2.2.1, hbl.output.trans HSI.out.2.2.2⟩⟩
      rw [HU5.out, cells_else (w := w) h2]
      exact HK1.out k h1
end Go.Proofs.YtileidbdmpeciaaGreat

namespace Go.Proofs.YtileidbdmpeciaaGreat
open Go.RowKit
set_option linter.unusedVariables false

theorem slice_entsT (w : World) (a : Option Addr) (ha : ∀ ad, a = some ad → ∃ bb, ad = ⟨bb, 0, none⟩) (len cap h : Nat) (hh : h ≤ cap) (hn : a = none → cap = 0) (hlen : a = none → len = 0) :
    (Instr.slice 69 (.slice a len cap) none (some (.int .i64 (h : Int))) none).run Tryz.prog w = .ok (.slice a h cap) w := by
  cases a with
  | none =>
    obtain rfl := hn rfl
    obtain rfl := hlen rfl
    obtain rfl : h = 0 := by omega
    kernel_rfl
  | some ad =>
    obtain ⟨bb, rfl⟩ := ha ad rfl
    obtain ⟨i0, z, hi, _⟩ := entEl.info
    have he : Tryz.prog.elem 69 = 58 := by kernel_rfl
    rw [run_slice_h w 69 _ len cap (by rw [he]; exact Tryz.underlying69) .i64 (h : Int) (by omega) (by omega), he, run_sizeOf w hi]
    simp [sliced, addr_add]
def dropE (a : Option Addr) (cap k : Nat) : Option Addr := match a with | none => none | some ad => if cap = k then some ad else some (ad.add (k * 6))
theorem slice_entsL (w : World) (a : Option Addr) (ha : ∀ ad, a = some ad → ∃ bb, ad = ⟨bb, 0, none⟩) (len cap k : Nat) (hk : k ≤ len) (hh : len ≤ cap) (hn : a = none → cap = 0) :
    (Instr.slice 69 (.slice a len cap) (some (.int .i64 (k : Int))) none none).run Tryz.prog w = .ok (.slice (dropE a cap k) (len - k) (cap - k)) w := by
  cases a with
  | none =>
    obtain rfl := hn rfl
    obtain rfl : len = 0 := by omega
    obtain rfl : k = 0 := by omega
    kernel_rfl
  | some ad =>
    obtain ⟨bb, rfl⟩ := ha ad rfl
    obtain ⟨i0, z, hi, _, hsz, _⟩ := entEl.info
    have he : Tryz.prog.elem 69 = 58 := by kernel_rfl
    rw [run_slice_l w 69 _ len cap (by rw [he]; exact Tryz.underlying69) .i64 (k : Int) (by omega) (by omega), he, run_sizeOf w hi]
    have hc : Tryz.prog.cellsOf 58 = 6 := by kernel_rfl
    simp [sliced, addr_add, hc, dropE]
theorem dropE_none {a : Option Addr} {cap k : Nat} (h : dropE a cap k = none) : a = none := by
  cases a with
  | none => rfl
  | some ad => simp only [dropE] at h; split at h <;> cases h
theorem lies_dropE {u : World} {a : Option Addr} {cap k : Nat} {xs : List EntM} (ha : ∀ ad, a = some ad → ∃ bb, ad = ⟨bb, 0, none⟩) (h : Lies u a (xs.flatMap encE)) (hl : xs.length ≤ cap) : Lies u (dropE a cap k) ((xs.drop k).flatMap encE) := by
  by_cases hc : cap = k
  · have : xs.drop k = [] := List.drop_eq_nil_of_le (by omega)
    rw [this]; exact lies_nil _ _
  · cases a with
    | none => exact lies_none _ _
    | some ad =>
      obtain ⟨bb, rfl⟩ := ha ad rfl
      have := h.dropped (k * 6)
      rw [flat_drop xs k (fun x _ => encE_len x)] at this
      show Lies u (if cap = k then some ⟨bb, 0, none⟩ else some ((⟨bb, 0, none⟩ : Addr).add (k * 6))) _
      rw [if_neg hc, addr_add]
      exact this
theorem lies_takeE {u : World} {a : Option Addr} {k : Nat} {xs : List EntM} (ha : ∀ ad, a = some ad → ∃ bb, ad = ⟨bb, 0, none⟩) (h : Lies u a (xs.flatMap encE)) : Lies u a ((xs.take k).flatMap encE) := by
  cases a with
  | none => exact lies_none _ _
  | some ad =>
    obtain ⟨bb, rfl⟩ := ha ad rfl
    have := h.taken (k * 6)
    rw [flat_take xs k (fun x _ => encE_len x)] at this
    exact this
theorem step_build_ent {w : World} {ops : Array Oper} {o : Oper} {a : Act} {K : Act → World → Prop} {Q : Exit → Act → World → Prop} {E : Prop} (hgd : o.guard = none) (y : Operand) (ho : o.op = .buildSlice 69 1 #[(0, y)]) (x : EntM) (hx : a.eval y = ev x)
    (h : K (a.put o.dst (.slice (some ⟨w.heap.size, 0, none⟩) 1 1)) (w.alloc (.cells (encE x).toArray 58))) : if Region.wanted o (yielded ops a.tmps) = true then Oper.wp Tryz.prog o a w K Q else E := by
  have hw : Region.wanted o (yielded ops a.tmps) = true := by simp [Region.wanted, hgd]
  rw [if_pos hw]
  have hrun := run_build_ent1 w x
  unfold Oper.wp
  simp only [execOp, ho, List.map_toArray, List.map_cons, List.map_nil, hx, Sem.run_bind, hrun, Result.andThen]
  exact h
/-- A table's list: its address, its cells. -/
theorem TabR.src {u : World} {B q : Nat} {M : List EntM} (h : TabR u B q M) : ∃ a c, M.length ≤ c ∧ (a = none → c = 0 ∧ M.length = 0) ∧ (∀ ad, a = some ad → ∃ bb, ad = ⟨bb, 0, none⟩) ∧ (∀ v, Below u.heap.size u v → v.cell? ⟨q, 0, none⟩ = some (.slice a M.length c)) ∧ (∀ v, Below u.heap.size u v → Lies v a (M.flatMap encE)) ∧ ∀ i x, M[i]? = some x → ∃ g, a = some ⟨g, 0, none⟩ ∧ Hid (∀ v, Below u.heap.size u v → EntAt v g (i * 6) x) := by
  obtain ⟨a, c, h1, h2, h3⟩ := h.list
  rcases h2.2 with ⟨e1, e2⟩ | ⟨g, cap, cur, e1, hg, hh, e5, _⟩
  · have e3 := List.eq_nil_of_length_eq_zero e2
    injection e1 with x1 x2 x3
    refine ⟨a, c, by omega, fun _ => ⟨x3, e2⟩, (fun ad e => by rw [x1] at e; cases e), fun v hb => (hb.cell (p := ⟨q, 0, none⟩) h.lt).trans h1, fun v hb => ?_, (fun i x hx => by rw [e3] at hx; simp at hx)⟩
    rw [e3]; exact lies_nil _ _
  · injection e1 with x1 x2 x3
    subst x1
    subst x3
    refine ⟨_, c, e5, (fun e => by cases e), fun ad e => ⟨g, (Option.some.inj e).symm⟩, fun v hb => (hb.cell (p := ⟨q, 0, none⟩) h.lt).trans h1, fun v hb => (own_lies h2).past hb, fun i x hx => ⟨g, rfl, fun v hb => ⟨?_⟩⟩⟩
    have := ((own_lies h2).el (size := 6) (fun y _ => encE_len y) hx).past hb
    rwa [Nat.zero_add] at this
theorem wrtEl : ElT 29 80 18 40 := ElT.mk' (z := wv zeroW) Tryz.underlying29 (by kernel_rfl) (by kernel_rfl) (by decide) (by decide)
theorem lies_flat {α : Type} {enc : α → List Value} {size : Nat} {w : World} {b : Nat} : ∀ (l : List α) (o : Nat), (∀ x ∈ l, (enc x).length = size) → (∀ i x, l[i]? = some x → Lies w (some ⟨b, o + i * size, none⟩) (enc x)) → Lies w (some ⟨b, o, none⟩) (l.flatMap enc)
  | [], o, _, _ => lies_empty _ _ _
  | x :: r, o, hl, h => by
    have hx : (enc x).length = size := hl x (by simp)
    have h0 := h 0 x rfl
    rw [Nat.zero_mul, Nat.add_zero] at h0
    have hr := lies_flat r (o + size) (fun y hy => hl y (by simp [hy])) (fun i y hy => by
      have := h (i + 1) y (by simpa using hy)
      rwa [Nat.succ_mul, Nat.add_comm (i * size), ← Nat.add_assoc] at this)
    refine lies_of fun j u hj => ?_
    rw [List.flatMap_cons] at hj
    by_cases hjs : j < size
    · rw [List.getElem?_append_left (by omega)] at hj
      exact h0.at j u hj
    · rw [List.getElem?_append_right (by omega), hx] at hj
      have := hr.at (j - size) u hj
      rwa [show o + size + (j - size) = o + j by omega] at this
theorem WrtsAt.lies {w : World} {a : Option Addr} {l : List Wrt} (h : WrtsAt w a l) : Lies w a (l.flatMap encW) := by
  rcases h.cells with rfl | ⟨b, o, rfl, hc⟩
  · exact lies_nil _ _
  · exact lies_flat l o (fun W hW => encW_len (h.oks W hW).key) (fun i W hW => (hc i W hW).lies)
theorem encWs_one (l : List Wrt) : ∀ u ∈ l.flatMap encW, u.oneCell' = true := flat_one (fun W _ => encW_one W)
theorem own_wrts {w : World} {B n : Nat} {a : Option Addr} {c : Nat} {l : List Wrt} (h : w.ownsRow B 80 18 (.slice a n c) n (l.flatMap encW)) (hl : l.length = n) (hk : ∀ W ∈ l, WrtOk W) : n ≤ c ∧ WrtsAt w a l ∧ (l ≠ [] → ∀ b o, a = some ⟨b, o, none⟩ → B ≤ b) := by
  rcases h.2 with ⟨e1, h0⟩ | ⟨g, cap, cur, e1, hg, hh, h1, _⟩
  · have e := List.eq_nil_of_length_eq_zero (hl.trans h0)
    exact ⟨by omega, ⟨.inl e, hk⟩, fun hne => absurd e hne⟩
  · injection e1 with x1 x2 x3
    subst x1
    subst x3
    refine ⟨h1, ⟨.inr ⟨g, 0, rfl, fun i W hW => ⟨?_⟩⟩, hk⟩, fun _ b o e => by cases e; exact hg⟩
    exact (own_lies h).el (fun y hy => encW_len (hk y hy).key) hW
end Go.Proofs.YtileidbdmpeciaaGreat

namespace Go.Proofs.YtileidbdmpeciaaGreat
open Go.RowKit
set_option linter.unusedVariables false

/-- copy(d, s) into a list of one's own: the cells of s are there. -/
theorem run_copy_els {t e : TypeId} {size bytes : Nat} (E : ElT t e size bytes) (w : World) (ty : TypeId) (g o dLen dCap : Nat) (a : Addr) (sLen sCap m : Nat) (cur : Array Value) (cs : List Value)
    (hg : w.heap[g]? = some (.cells cur e (0, 0))) (hm : Nat.min sLen dLen = m) (hn : cs.length = m * size) (hsrc : ∀ j v, cs[j]? = some v → w.cell? (a.add j) = some v) (hfit : o + cs.length ≤ cur.size) (h1 : ∀ v ∈ cs, v.oneCell' = true) :
    (Builtin.copy_ #[t, t] ty #[.slice (some ⟨g, o, none⟩) dLen dCap, .slice (some a) sLen sCap]).run Tryz.prog w =
      .ok (goInt m) (w.setRow g (cur.toList.take o ++ cs ++ cur.toList.drop (o + cs.length)).toArray) := by
  obtain ⟨i0, z, hi, hz0, hz1, hz2, hz3⟩ := E.info
  have hl := run_loadCells_list (P := Tryz.prog) w a cs hsrc
  have hst := run_storeCells_at Tryz.prog g o e cs 0 cur w hg (by simpa using hfit) h1
  rw [hn] at hl
  simp [Builtin.copy_, run_underlying E.ht, Builtin.lenOf, Builtin.firstCells, sizeOf, typeInfo, hi, hz1, hm, hl, hst]
/-- append(s, make([]T, m)...) where there is no room: a new list, zeros behind what was there. -/
theorem run_append_zeros {t e tn : TypeId} {size bytes : Nat} (E : ElT t e size bytes) (htn : Tryz.prog.underlying tn = some (.int .i64)) (w : World) (ty : TypeId) (a : Addr) (n c m : Nat) (xs : List Value) (hl : xs.length = n * size) (hxs : ∀ j u, xs[j]? = some u → w.cell? (a.add j) = some u)
    (hm : 0 < m) (hroom : c < n + m) (hfew : n + m ≤ 1000000) :
    ∃ zs rs cap', zs.length = m * size ∧ n + m ≤ cap' ∧ cap' ≤ maxLen ∧ rs.length = (cap' - (n + m)) * size ∧
    (Builtin.append_ #[t, tn] ty #[.slice (some a) n c, .int .i64 m]).run Tryz.prog w = .ok (.slice (some ⟨w.heap.size, 0, none⟩) (n + m) cap') (w.drew.alloc (.cells (xs ++ zs ++ rs).toArray e)) := by
  obtain ⟨i0, z, hi, hz0, hz1, hz2, hz3⟩ := E.info
  have hbig : (n + m) * bytes ≤ 140737488355328 := Nat.le_trans (Nat.mul_le_mul hfew E.small) (by decide)
  have hmb : m * bytes ≤ 1000000 * 1000 := Nat.mul_le_mul (by omega) E.small
  have hw : IntKind.i64.wrap (m : Int) = m := by rw [IntKind.wrap_i64]; omega
  have hneg : ¬ ((m : Int) < 0) := by omega
  have h48i : ¬ (281474976710656 < (m : Int) * (bytes : Int)) := by
    rw [← Int.natCast_mul]
    omega
  have hns : ¬ (m * size = 0) := Nat.mul_ne_zero (by omega) (by have := E.pos; omega)
  have hr : ¬ (n + m ≤ c) := by omega
  have h63 : ¬ (9223372036854775807 < (n : Int) + (m : Int)) := by omega
  have h48 : ¬ (281474976710656 < Builtin.nextslicecap (n + m) c * bytes) := by
    have := growslice_fits (bytes := bytes) hroom hbig
    omega
  have hf := run_firstCells_some (P := Tryz.prog) w.drew size n a n c xs hl hxs
  refine ⟨(Builtin.zeroCells z.cells m).toList, (Builtin.zeroCells z.cells (grownCap w (n + m) c e - (n + m))).toList, grownCap w (n + m) c e, ?_, grownCap_ge w (n + m) c e, grownCap_le_maxLen w (n + m) c e (by unfold maxLen; omega), ?_, ?_⟩
  · rw [Array.length_toList, size_zeroCells, hz3]
  · rw [Array.length_toList, size_zeroCells, hz3]
  · have e1 : (xs ++ (Builtin.zeroCells z.cells m).toList ++ (Builtin.zeroCells z.cells (grownCap w (n + m) c e - (n + m))).toList).toArray = xs.toArray ++ Builtin.zeroCells z.cells m ++ Builtin.zeroCells z.cells (grownCap w (n + m) c e - (n + m)) := by
      apply Array.toList_inj.1
      simp
    rw [e1]
    have hf2 : (Builtin.firstCells size n (.slice (some a) n c)).run Tryz.prog w.drew = .ok xs.toArray w.drew := hf
    simp [Builtin.append_, run_underlying E.ht, run_underlying htn, sizeOf, typeInfo, zeroValue, hi, hz0, hz1, hz2, asInt, asIntOf, hw, hneg, hns, hr, h63, h48, h48i, Question.forced, hf2, newRow, grownCap]
/-- clear(s) of a list of one's own: zeros are there. -/
theorem run_clear_els {t e : TypeId} {size bytes : Nat} (E : ElT t e size bytes) (hz : ∀ i z, Tryz.prog.info? e = some i → i.zero = some z → ∀ u ∈ z.cells, u.oneCell' = true) (w : World) (ty : TypeId) (g o n c : Nat) (cur : Array Value)
    (hg : w.heap[g]? = some (.cells cur e (0, 0))) (hn : 0 < n) (hfit : o + n * size ≤ cur.size) :
    ∃ zs, zs.length = n * size ∧ (Builtin.clear_ #[t] ty #[.slice (some ⟨g, o, none⟩) n c]).run Tryz.prog w = .ok (.tuple #[]) (w.setRow g (cur.toList.take o ++ zs ++ cur.toList.drop (o + zs.length)).toArray) := by
  obtain ⟨i0, z, hi, hz0, hz1, hz2, hz3⟩ := E.info
  have hl : (Builtin.zeroCells z.cells n).toList.length = n * size := by rw [Array.length_toList, size_zeroCells, hz3]
  have h1 : ∀ u ∈ (Builtin.zeroCells z.cells n).toList, u.oneCell' = true := by
    intro u hu
    simp [Builtin.zeroCells] at hu
    obtain ⟨k, hk, rfl⟩ := hu
    have hp : 0 < z.cells.size := by rw [hz3]; exact E.pos
    have hlt := Nat.mod_lt k hp
    refine hz i0 z hi hz0 _ ?_
    rw [getElem!_pos z.cells (k % z.cells.size) hlt]
    exact Array.getElem_mem hlt
  have hst := run_storeCells_at Tryz.prog g o e (Builtin.zeroCells z.cells n).toList 0 cur w hg (by rw [hl]; simpa using hfit) h1
  simp only [Nat.add_zero] at hst
  refine ⟨(Builtin.zeroCells z.cells n).toList, hl, ?_⟩
  obtain ⟨m, rfl⟩ : ∃ m, n = m + 1 := ⟨n - 1, by omega⟩
  simp [Builtin.clear_, run_underlying E.ht, zeroValue, typeInfo, hi, hz0, hst]
section
variable {α : Type}
/-- One put in where there is room: what was behind moves up, then it is laid. -/
theorem ins_room (cur v x : List α) (k n s : Nat) (hx : cur.take n = x) (hn : x.length = n) (hk : k ≤ n) (hv : v.length = s) (hfit : n + s ≤ cur.length) (c1 c2 : List α)
    (h1 : c1 = cur.take (k + s) ++ x.drop k ++ cur.drop (k + s + (x.drop k).length)) (h2 : c2 = c1.take k ++ v ++ c1.drop (k + v.length)) :
    c2.take (n + s) = x.take k ++ v ++ x.drop k ∧ c2.length = cur.length := by
  have hd : (x.drop k).length = n - k := by rw [List.length_drop, hn]
  have e1 : c1.take k = x.take k := by
    rw [h1, List.append_assoc, List.take_append_of_le_length (by rw [List.length_take]; omega), List.take_take, ← hx, List.take_take]
    congr 1
    omega
  have e2 : c1.drop (k + s) = x.drop k ++ cur.drop (k + s + (n - k)) := by
    rw [h1, List.append_assoc, List.drop_append_of_le_length (by rw [List.length_take]; omega), List.drop_take, hd]
    simp
  have hl1 : (x.take k).length = k := by rw [List.length_take]; omega
  rw [h2, hv, e1, e2]
  constructor
  · rw [← List.append_assoc]
    have : (x.take k ++ v ++ x.drop k).length = n + s := by simp only [List.length_append, hl1, hd, hv]; omega
    rw [← this]
    exact List.take_left
  · simp only [List.length_append, hl1, hd, hv, List.length_drop]
    omega
/-- One put in where there is none: it is laid into the new list, then what was behind. -/
theorem ins_grow (x v z r : List α) (k n s : Nat) (hn : x.length = n) (hk : k ≤ n) (hv : v.length = s) (hz : z.length = n + s - k) (c0 c1 c2 : List α)
    (h0 : c0 = x.take k ++ z ++ r) (h1 : c1 = c0.take k ++ v ++ c0.drop (k + v.length)) (h2 : c2 = c1.take (k + s) ++ x.drop k ++ c1.drop (k + s + (x.drop k).length)) :
    c2.take (n + s) = x.take k ++ v ++ x.drop k ∧ c2.length = n + s + r.length ∧ c1.length = n + s + r.length := by
  have hd : (x.drop k).length = n - k := by rw [List.length_drop, hn]
  have hl1 : (x.take k).length = k := by rw [List.length_take]; omega
  have l0 : c0.length = n + s + r.length := by rw [h0]; simp only [List.length_append, hl1, hz]; omega
  have e1 : c0.take k = x.take k := by
    rw [h0, List.append_assoc, List.take_append_of_le_length (by omega), List.take_take, Nat.min_self]
  have l1 : c1.length = n + s + r.length := by
    rw [h1, e1]
    simp only [List.length_append, hl1, hv, List.length_drop, l0]
    omega
  have e2 : c1.take (k + s) = x.take k ++ v := by
    rw [h1, e1]
    have : (x.take k ++ v).length = k + s := by rw [List.length_append, hl1, hv]
    rw [← this]
    exact List.take_left
  refine ⟨?_, ?_, l1⟩
  · rw [h2, e2]
    have : (x.take k ++ v ++ x.drop k).length = n + s := by simp only [List.length_append, hl1, hd, hv]; omega
    rw [← this]
    exact List.take_left
  · rw [h2, e2]
    simp only [List.length_append, hl1, hv, hd, List.length_drop, l1]
    omega
/-- The first ones go: what is behind moves down, zeros behind it. -/
theorem del_front (cur x z : List α) (k n : Nat) (hx : cur.take n = x) (hn : x.length = n) (hk : k ≤ n) (hz : z.length = k) (hfit : n ≤ cur.length) (c1 c2 : List α)
    (h1 : c1 = cur.take 0 ++ x.drop k ++ cur.drop (0 + (x.drop k).length)) (h2 : c2 = c1.take (n - k) ++ z ++ c1.drop (n - k + z.length)) :
    c2.take (n - k) = x.drop k ∧ c2.length = cur.length ∧ c1.length = cur.length := by
  have hd : (x.drop k).length = n - k := by rw [List.length_drop, hn]
  have e0 : c1 = x.drop k ++ cur.drop (n - k) := by rw [h1, hd]; simp
  have l1 : c1.length = cur.length := by rw [e0]; simp only [List.length_append, hd, List.length_drop]; omega
  have e1 : c1.take (n - k) = x.drop k := by rw [e0, ← hd]; exact List.take_left
  refine ⟨?_, ?_, l1⟩
  · rw [h2, e1, List.append_assoc, ← hd]
    exact List.take_left
  · rw [h2, e1]
    simp only [List.length_append, hd, hz, List.length_drop, l1]
    omega
end
end Go.Proofs.YtileidbdmpeciaaGreat

namespace Go.Proofs.YtileidbdmpeciaaGreat
open Go.RowKit
set_option linter.unusedVariables false

theorem info_pent : (Tryz.prog.info? 31).map (·.size) = some 6 := by kernel_rfl
theorem pentEl : ElT 107 31 6 64 := ElT.mk' (z := ev zeroE) Tryz.underlying107 (by kernel_rfl) (by kernel_rfl) (by decide) (by decide)
set_option maxRecDepth 100000 in
theorem pent_zero : ∀ i z, Tryz.prog.info? 31 = some i → i.zero = some z → ∀ u ∈ z.cells, u.oneCell' = true := by
  intro i z hi hz u hu
  have h : (Tryz.prog.info? 31).map (fun i => i.zero) = some (some (ev zeroE)) := by kernel_rfl
  rw [hi] at h
  simp at h
  rw [hz] at h
  injection h with h
  subst h
  exact encE_one zeroE u (by simpa [Value.cells, encE] using hu)
theorem wpList_load_pent (d : Tmp) {ops : Array Oper} {rest : List Oper} {op : Oper} {a : Act} {w : World} {Q : Exit → Act → World → Prop} (hd : op.dst = some d) (hw : Region.wanted op (yielded ops a.tmps) = true) (x : Operand) (ho : op.op = .load 31 x)
    (b o : Nat) (hx : a.eval x = .pointer (some ⟨b, o, none⟩)) (X : EntM) (hat : EntAt w b o X)
    (h : wpList Tryz.prog ops Q rest (a.put op.dst (ev X)) w) : wpList Tryz.prog ops Q (op :: rest) a w :=
  wpList_step fun K hK => by
    rw [if_pos hw]
    exact wp_load_mid 31 x ho b o hx (encE X) _ hat.lies.range Tryz.underlying31 rfl (by rw [info_pent, encE_len]) (hK _ _ h)
theorem wpList_store_pent (d : Operand) {ops : Array Oper} {rest : List Oper} {op : Oper} {a : Act} {w : World} {Q : Exit → Act → World → Prop} (hgd : op.guard = none) (y : Operand) (ho : op.op = .store 31 d y)
    (b : Nat) (X X' : EntM) (hx : a.eval d = .pointer (some ⟨b, 0, none⟩)) (hy : a.eval y = ev X') (hat : EntMine w b X)
    (h : ∀ u, u = w.setCells b 0 (encE X') → wpList Tryz.prog ops Q rest (a.put op.dst undef) u) : wpList Tryz.prog ops Q (op :: rest) a w := by
  refine wpList_store_mid hgd 31 d y ho b 0 (encE X').toArray hx hy (by rw [show (encE X').toArray.size = 6 from rfl]; exact hat.there) (by rw [info_pent]; rfl) (encE_all X') ?_
  exact h _ rfl
theorem results_pent {fn : Func} {c t : Tmp} (h : fn.results = #[.cell c 31, .tmp t]) (tmps : Array Value) (w : World) (b : Nat) (x : EntM) (hp : tmps.getD c undef = .pointer (some ⟨b, 0, none⟩)) (hat : EntAt w b 0 x) :
    (results fn tmps).run Tryz.prog w = .ok (.tuple #[ev x, tmps.getD t undef]) w := by
  have hl := run_loadVar_mid (P := Tryz.prog) w b 0 31 (encE x) _ hat.lies.range Tryz.underlying31 rfl (by rw [info_pent, encE_len])
  unfold results
  rw [h]
  simp only [List.mapM_toArray, List.mapM_cons, List.mapM_nil, hp]
  simp [asAddr, hl]
theorem results_pent1 {fn : Func} {c : Tmp} (h : fn.results = #[.cell c 31]) (tmps : Array Value) (w : World) (b : Nat) (x : EntM) (hp : tmps.getD c undef = .pointer (some ⟨b, 0, none⟩)) (hat : EntAt w b 0 x) :
    (results fn tmps).run Tryz.prog w = .ok (ev x) w := by
  have hl := run_loadVar_mid (P := Tryz.prog) w b 0 31 (encE x) _ hat.lies.range Tryz.underlying31 rfl (by rw [info_pent, encE_len])
  unfold results
  rw [h]
  simp only [List.mapM_toArray, List.mapM_cons, List.mapM_nil, hp]
  simp [asAddr, hl]
theorem encEs_len (M : List EntM) : (M.flatMap encE).length = M.length * 6 := by
  induction M with
  | nil => rfl
  | cons x M ih => rw [List.flatMap_cons, List.length_append, ih, encE_len, List.length_cons]; omega
theorem encEs_take (M : List EntM) (k : Nat) : (M.flatMap encE).take (k * 6) = (M.take k).flatMap encE := flat_take M k (fun x _ => encE_len x)
theorem encEs_drop (M : List EntM) (k : Nat) : (M.flatMap encE).drop (k * 6) = (M.drop k).flatMap encE := flat_drop M k (fun x _ => encE_len x)
/-- A cell that is written as it was: nothing has turned. -/
theorem set_self {w : World} {b o : Nat} {v : Value} (h : w.cell? ⟨b, o, none⟩ = some v) : w.setCell ⟨b, o, none⟩ v = w := by
  obtain ⟨heap, tape, drawn, os, output⟩ := w
  unfold World.setCell
  congr 1
  apply Array.ext_getElem?
  intro i
  rw [Array.getElem?_modify]
  split
  · rename_i e
    subst e
    unfold World.cell? at h
    simp only at h
    split at h
    · rename_i c el fz hc
      rw [hc]
      simp at h
      simp only [Option.map_some, Option.isSome_none, Bool.false_eq_true, if_false]
      congr 2
      obtain ⟨ho, hv⟩ := Array.getElem?_eq_some_iff.1 h
      rw [Array.setIfInBounds, dif_pos ho, ← hv]
      exact Array.set_getElem_self ho
    · cases h
  · rfl
/-- A list of entries in a block of its own. -/
abbrev PRow (u : World) (v : Value) (M : List EntM) : Prop := u.ownsRow 0 31 6 v M.length (M.flatMap encE)
theorem PRow.ent {u : World} {a : Option Addr} {c : Nat} {M : List EntM} (h : PRow u (.slice a M.length c) M) {i : Nat} {x : EntM} (hx : M[i]? = some x) : ∃ g, a = some ⟨g, 0, none⟩ ∧ g < u.heap.size ∧ EntAt u g (i * 6) x := by
  rcases h.2 with ⟨e1, e2⟩ | ⟨g, cap, cur, e1, hg, hh, e5, e6, e7, e8⟩
  · rw [List.eq_nil_of_length_eq_zero e2] at hx
    simp at hx
  · cases e1
    have hlt := (Array.getElem?_eq_some_iff.1 hh).1
    have hl : Lies u (some ⟨g, 0, none⟩) (M.flatMap encE) := own_lies h
    have he := hl.el (size := 6) (fun y _ => encE_len y) hx
    rw [Nat.zero_add] at he
    exact ⟨g, rfl, hlt, ⟨he⟩⟩
/-- A table in block p; what of it may turn are the blocks of X: p and the list's own. -/
structure PTab (u : World) (p : Nat) (M : List EntM) (X : Foot) : Prop where
  own : X p
  lt : ∀ k, X k → k < u.heap.size
  list : ∃ a c, u.cell? ⟨p, 0, none⟩ = some (.slice a M.length c) ∧ PRow u (.slice a M.length c) M ∧ ∀ k, (Value.slice a M.length c).ownBlock = some k → X k ∧ k ≠ p
  free : u.frozen? ⟨p, 0, none⟩ = false
  wrs : ∀ x ∈ M, EntW u x
  far : ∀ x ∈ M, x.e.l ≠ [] → ∀ b o, x.a = some ⟨b, o, none⟩ → ¬ X b
  tab : TabK (ents M)
theorem prow_kept {u u' : World} {v : Value} {M : List EntM} (h : PRow u v M) (hk : ∀ k, v.ownBlock = some k → u'.heap[k]? = u.heap[k]?) : PRow u' v M := row_keptT h hk
theorem PTab.few {u : World} {p : Nat} {M : List EntM} {X : Foot} (h : PTab u p M X) : M.length ≤ 100 := by
  have := h.tab.few
  rwa [List.length_map] at this
theorem PTab.kept {u u' : World} {p : Nat} {M : List EntM} {X : Foot} (h : PTab u p M X) (hs : u.heap.size ≤ u'.heap.size) (hk : ∀ k, X k → u'.heap[k]? = u.heap[k]?) (hw : ∀ x ∈ M, x.e.l ≠ [] → ∀ b o, x.a = some ⟨b, o, none⟩ → u'.heap[b]? = u.heap[b]?) : PTab u' p M X := by
  obtain ⟨a, c, h1, h2, h3⟩ := h.list
  exact ⟨h.own, fun k hk => Nat.lt_of_lt_of_le (h.lt k hk) hs, ⟨a, c, (cell_kept (hk p h.own) 0).trans h1, prow_kept h2 (fun k e => hk k (h3 k e).1), h3⟩, (frozen_kept (hk p h.own) 0).trans h.free, fun x hx => (h.wrs x hx).kept (hw x hx), h.far, h.tab⟩
theorem PTab.past {u u' : World} {p : Nat} {M : List EntM} {X : Foot} (h : PTab u p M X) (hb : Below u.heap.size u u') : PTab u' p M X :=
  h.kept hb.size (fun k x => hb.block k (h.lt k x)) (fun x hx hl b o e => hb.block b ((h.wrs x hx).wr.blt hl e))
/-- The list's cell, and each entry of it, in every world behind. -/
theorem PTab.open {u : World} {p : Nat} {M : List EntM} {X : Foot} (h : PTab u p M X) : ∃ a c, M.length ≤ c ∧ c ≤ maxLen ∧ (a = none → M = [] ∧ c = 0) ∧ (∀ v, Below u.heap.size u v → v.cell? ⟨p, 0, none⟩ = some (.slice a M.length c) ∧ PRow v (.slice a M.length c) M) ∧ (∀ i x, M[i]? = some x → ∃ g, a = some ⟨g, 0, none⟩ ∧ Hid (∀ v, Below u.heap.size u v → EntAt v g (i * 6) x)) ∧ ∀ k, (Value.slice a M.length c).ownBlock = some k → X k ∧ k ≠ p := by
  obtain ⟨a, c, h1, h2, h3⟩ := h.list
  have hb : ∀ v, Below u.heap.size u v → v.cell? ⟨p, 0, none⟩ = some (.slice a M.length c) ∧ PRow v (.slice a M.length c) M := fun v hb =>
    ⟨(hb.cell (p := ⟨p, 0, none⟩) (h.lt p h.own)).trans h1, own_below h2 hb (Nat.le_refl _)⟩
  have hc : M.length ≤ c ∧ c ≤ maxLen ∧ (a = none → M = [] ∧ c = 0) := by
    rcases h2.2 with ⟨e1, e2⟩ | ⟨g, cap, cur, e1, _, hh, e5, e6, _⟩
    · have hn := List.eq_nil_of_length_eq_zero e2
      subst hn
      cases e1
      exact ⟨Nat.le_refl _, Nat.zero_le _, fun _ => ⟨rfl, rfl⟩⟩
    · cases e1
      exact ⟨e5, e6, fun h => (by cases h)⟩
  refine ⟨a, c, hc.1, hc.2.1, hc.2.2, hb, fun i x hx => ?_, h3⟩
  obtain ⟨g, e, _, _⟩ := h2.ent hx
  refine ⟨g, e, fun v hv => ?_⟩
  obtain ⟨g', e', _, hat⟩ := (hb v hv).2.ent hx
  rw [e] at e'
  injection e' with e'
  injection e' with e'
  subst e'
  exact hat
set_option maxHeartbeats 1000000 in
theorem pnew_any (w : World) :
    Calls Tryz.prog 41 #[] w fun e w' => ∃ p X, e = .returned (.pointer (some ⟨p, 0, none⟩)) ∧ PTab w' p [] X ∧ Below w.heap.size w w' ∧ ∀ k, X k → w.heap.size ≤ k := by
  have H : Hid (PTab (w.alloc (.cells #[.slice none 0 0] 141)) w.heap.size [] (fun k => k = w.heap.size)) := by
    refine ⟨rfl, fun k hk => by rw [hk]; simp, ⟨none, 0, ?_, World.ownsRow_nil _ _ _ _, fun k hk => by cases hk⟩, World.frozen?_alloc_new _ _ _ _, fun x hx => by simp at hx, fun x hx => by simp at hx, TabK.nil⟩
    rw [World.cell?_alloc_new]
    rfl
  go_enter Tryz.func41, Tryz.ntmps41
  go_wp2
  go_ret
  exact ⟨_, _, rfl, H.out, (Below.refl _ _).alloc (Nat.le_refl _) _, fun k hk => by rw [hk]; exact Nat.le_refl _⟩
end Go.Proofs.YtileidbdmpeciaaGreat

namespace Go.Proofs.YtileidbdmpeciaaGreat
open Go Go.RowKit
set_option linter.unusedVariables false

section
variable {P : Program} {ops : Array Oper} {Q : Exit → Act → World → Prop} {md : Region.Mode} {S : World → Prop} {z : Nat}
/-- Whatever order is picked from here on; S holds behind each operation but number z. -/
def wpTill (P : Program) (md : Region.Mode) (ops : Array Oper) (Q : Exit → Act → World → Prop) (S : World → Prop) (z : Nat) : Nat → Array Bool → Act → World → Prop
  | 0, l, a, w => Region.ready md ops l = [] ∧ Q .normal a w
  | n + 1, l, a, w => (Region.ready md ops l = [] → Q .normal a w) ∧
    ∀ i ∈ Region.ready md ops l, wpOp P ops Q i (fun a' w' => (i ≠ z → S w') ∧ wpTill P md ops Q S z n (l.setIfInBounds i true) a' w') a w
theorem till_any : ∀ (n : Nat) (l : Array Bool) (a : Act) (w : World), wpTill P md ops Q S z n l a w → wpAny P md ops Q n l a w
  | 0, _, _, _, h => h
  | n + 1, _, _, _, h => ⟨h.1, fun i hi => wpOp_mono (fun a' w' h' => till_any n _ a' w' h'.2) (h.2 i hi)⟩
/-- Does number z wait for number i? -/
def waits (md : Region.Mode) (ops : Array Oper) (z i : Nat) : Bool := match ops[z]? with | none => false | some o => o.after.any fun e => Region.binds md e && e.on == i
theorem waits_listed {z i : Nat} {oz : Oper} {l : Array Bool} (h : waits md ops z i = true) (ho : ops[z]? = some oz) (hall : ∀ e ∈ oz.after, Region.binds md e = true → l.getD e.on false = true) : l.getD i false = true := by
  unfold waits at h
  rw [ho] at h
  simp only [Array.any_eq_true] at h
  obtain ⟨k, hk, hb⟩ := h
  simp at hb
  have := hall oz.after[k] (Array.getElem_mem hk) hb.1
  rw [hb.2] at this
  exact this
theorem till_first {i k : Nat} {oi : Oper} {v : Value} (hz : waits md ops z k = true) (hki : k = i ∨ waits md ops k i = true) (hi : ops[i]? = some oi) (hsel : ∀ (j : Nat) (o : Oper) cs b, ops[j]? = some o → o.op ≠ .select cs b) (hQ : ∀ c a w, Q (.panic c) (a.put oi.dst v) w → Q (.panic c) a w) :
    ∀ (n : Nat) (l : Array Bool) (a : Act) (w : World), (∀ j oj, ops[j]? = some oj → j ≠ i → l.getD j true = false → (∀ e ∈ oj.after, Region.binds md e = true → e.on ≠ i) → oi.apart ops oj = true) →
      l.getD k false = false → i ∈ Region.ready md ops l → YieldsIf P ops S oi v a → S w → wpTill P md ops Q S z n (l.setIfInBounds i true) (a.put oi.dst v) w → wpTill P md ops Q S z (n + 1) l a w := by
  intro n
  induction n with
  | zero =>
    intro l a w _ _ hr hy hS H
    refine ⟨fun h => (by rw [h] at hr; cases hr), fun j hj => ?_⟩
    by_cases hji : j = i
    · rw [hji]; exact hy.wpOp hi hS ⟨fun _ => hS, H⟩
    · have h0 := ready_mono hj hji
      rw [H.1] at h0
      cases h0
  | succ n ih =>
    intro l a w hfree hkl hr hy hS H
    refine ⟨fun h => (by rw [h] at hr; cases hr), fun j hj => ?_⟩
    by_cases hji : j = i
    · rw [hji]; exact hy.wpOp hi hS ⟨fun _ => hS, H⟩
    · obtain ⟨hun, oj, hoj, hall⟩ := mem_ready.1 hj
      have hnot : ∀ e ∈ oj.after, Region.binds md e = true → e.on ≠ i := fun e he hb heq => by
        have h1 := hall e he hb
        have h0 := (mem_ready.1 hr).1
        rw [heq] at h1
        rcases Nat.lt_or_ge i l.size with h' | h'
        · simp [h'] at h0 h1; rw [h0] at h1; cases h1
        · simp [Array.getElem?_eq_none h'] at h1
      have h2 := wpOp_putIf hoj (hfree j oj hoj hji hun hnot) (fun cs b => hsel i oi cs b hi) (fun cs b => hsel j oj cs b hoj) hQ hy (H.2 j (ready_mono hj hji))
      have hfree' : ∀ k ok, ops[k]? = some ok → k ≠ i → (l.setIfInBounds j true).getD k true = false → (∀ e ∈ ok.after, Region.binds md e = true → e.on ≠ i) → oi.apart ops ok = true := fun k ok hk hki hu hno => by
        refine hfree k ok hk hki ?_ hno
        by_cases hjk : j = k
        · rw [← hjk]; exact hun
        · rw [getD_set_ne true hjk] at hu; exact hu
      have hri := ready_mono hr (Ne.symm hji)
      have hjz : j ≠ z := fun e => by
        subst e
        have := waits_listed hz hoj hall
        rw [hkl] at this; cases this
      have hjk : j ≠ k := fun e => by
        rcases hki with e2 | e2
        · exact hji (e.trans e2)
        · subst e
          have h1 := waits_listed e2 hoj hall
          have h0 := (mem_ready.1 hr).1
          rcases Nat.lt_or_ge i l.size with h' | h'
          · simp [h'] at h0 h1; rw [h0] at h1; cases h1
          · simp [Array.getElem?_eq_none h'] at h1
      have hkl' : (l.setIfInBounds j true).getD k false = false := by rw [getD_set_ne false hjk]; exact hkl
      have hcomm : (l.setIfInBounds i true).setIfInBounds j true = (l.setIfInBounds j true).setIfInBounds i true := Array.setIfInBounds_comm _ _ (Ne.symm hji)
      refine wpOp_mono (fun a' w' h3 => ?_) h2
      rw [hcomm] at h3
      have hS' := h3.2.1 hjz
      exact ⟨fun _ => hS', ih (l.setIfInBounds j true) a' w' hfree' hkl' hri h3.1 hS' h3.2.2⟩
/-- Take number i first. -/
theorem till_take {i : Nat} {oi : Oper} {v : Value} {n : Nat} {l : Array Bool} {a : Act} {w : World} (k : Nat) (hz : waits md ops z k = true) (hki : k = i ∨ waits md ops k i = true) (hkl : l.getD k false = false) (hi : ops[i]? = some oi) (hs : Region.noSelect ops = true) (hf : Region.free md ops l i = true) (hr : (Region.ready md ops l).contains i = true)
    (hQ : ∀ c a w, Q (.panic c) (a.put oi.dst v) w → Q (.panic c) a w) (hy : YieldsIf P ops S oi v a) (hS : S w) (h : wpTill P md ops Q S z n (l.setIfInBounds i true) (a.put oi.dst v) w) : wpTill P md ops Q S z (n + 1) l a w :=
  till_first hz hki hi (Region.noSelect_spec hs) hQ n l a w (Region.free_spec hi hf) hkl (by simpa using hr) hy hS h
/-- Each of those that may come up comes up. -/
def AllTill (P : Program) (md : Region.Mode) (ops : Array Oper) (Q : Exit → Act → World → Prop) (S : World → Prop) (z : Nat) (n : Nat) (l : Array Bool) (a : Act) (w : World) (rs : List Nat) : Prop :=
  ∀ i ∈ rs, wpOp P ops Q i (fun a' w' => (i ≠ z → S w') ∧ wpTill P md ops Q S z n (l.setIfInBounds i true) a' w') a w
theorem AllTill.nil {n : Nat} {l : Array Bool} {a : Act} {w : World} : AllTill P md ops Q S z n l a w [] := fun _ h => by cases h
theorem AllTill.cons {n : Nat} {l : Array Bool} {a : Act} {w : World} {i : Nat} {o : Oper} {rs : List Nat} (ho : ops[i]? = some o)
    (h : ∀ K : Act → World → Prop, Hid (∀ a w, S w → (S w → wpTill P md ops Q S z n (l.setIfInBounds i true) a w) → K a w) → if Region.wanted o (yielded ops a.tmps) = true then Oper.wp P o a w K Q else K (a.put o.dst undef) w)
    (hs : AllTill P md ops Q S z n l a w rs) : AllTill P md ops Q S z n l a w (i :: rs) := fun j hj => by
  rcases List.mem_cons.1 hj with rfl | hj
  · exact wpOp_step ho (fun K hK => h K (fun a w hS hW => hK a w ⟨fun _ => hS, hW hS⟩))
  · exact hs j hj
theorem till_ready {rs : List Nat} {n : Nat} {l : Array Bool} {a : Act} {w : World} (hr : Region.ready md ops l = rs) (hne : rs ≠ []) (h : AllTill P md ops Q S z n l a w rs) : wpTill P md ops Q S z (n + 1) l a w := ⟨fun h0 => absurd (hr ▸ h0) hne, hr ▸ h⟩
/-- The last one: nothing is asked behind it but the end. -/
theorem till_last {n : Nat} {l : Array Bool} {a : Act} {w : World} {o : Oper} (hr : Region.ready md ops l = [z]) (hr' : Region.ready md ops (l.setIfInBounds z true) = []) (ho : ops[z]? = some o)
    (h : ∀ K : Act → World → Prop, Hid (∀ a w, Q .normal a w → K a w) → if Region.wanted o (yielded ops a.tmps) = true then Oper.wp P o a w K Q else K (a.put o.dst undef) w) : wpTill P md ops Q S z (n + 1) l a w := by
  refine ⟨(fun h0 => by rw [hr] at h0; cases h0), fun i hi => ?_⟩
  rw [hr] at hi
  obtain rfl : i = z := by simpa using hi
  refine wpOp_step ho (fun K hK => h K (fun a w hq => hK a w ⟨fun hne => absurd rfl hne, ?_⟩))
  cases n with
  | zero => exact ⟨hr', hq⟩
  | succ n => exact ⟨fun _ => hq, by rw [hr']; simp⟩
theorem region_till {id : Nat} {a : Act} {w : World} (z : Nat) (S : World → Prop) (hm : P.follows .mixedOrders = true) (hS : S w.drew) (h : S w.drew → wpTill P .any ops Q S z ops.size (Array.replicate ops.size false) a w.drew) : (Code.region id ops true).wp P Q a w :=
  wp_region_any hm (till_any _ _ _ _ (h hS))
end
end Go.Proofs.YtileidbdmpeciaaGreat

