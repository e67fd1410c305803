/-
  The document's own stores of bytes: GetStore.
-/
import Derived.Test.YtpnjcflfnoamoaaGreatRefCk4
import Derived.Test.YtpnjcflfnoamoaaGreatAu19
import Derived.Test.YtpnjcflfnoamoaaGreatRf
import Derived.Deep.DeepCutAuto
import Derived.Deep.CutBlock
namespace Go.Proofs.YtpnjcflfnoamoaaGreat
open Go.RowKit
set_option linter.unusedVariables false
set_option linter.unusedSimpArgs false

theorem step_store_ver {ops : Array Oper} {o : Oper} {a : Act} {w : World} {K : Act → World → Prop} {Q : Exit → Act → World → Prop} {X : Prop} (hgd : o.guard = none) (x y : Operand) (ho : o.op = .store 67 x y)
    (b o' : Nat) (V V' : Ver) (hx : a.eval x = .pointer (some ⟨b, o', none⟩)) (hy : a.eval y = vv V') (hk : Ky V'.k) (hat : VerMine w b o' V)
    (h : ∀ u, u = w.setCells b o' (encV V') → K (a.put o.dst undef) u) : if Region.wanted o (yielded ops a.tmps) = true then Oper.wp Tryz.prog o a w K Q else X := by
  have hw : Region.wanted o (yielded ops a.tmps) = true := by simp [Region.wanted, hgd]
  rw [if_pos hw]
  have hl : (encV V').toArray.size = 20 := by simp [enc_len hk]
  exact wp_store_mid 67 x y ho b o' (encV V').toArray hx hy (by rw [hl]; exact hat.there) (by rw [info_ver, hl]) (enc_all V') (h _ rfl)
theorem of_nt {b : Bool} (h : (!b) = true) : b = false := by cases b <;> simp_all
theorem of_nf {b : Bool} (h : (!b) = false) : b = true := by cases b <;> simp_all
/-- A stamp in a box of the call's own. -/
structure StM (w : World) (b : Nat) (t n : Int) : Prop where
  c0 : w.cell? ⟨b, 0, none⟩ = some (.int .i64 t)
  c1 : w.cell? ⟨b, 1, none⟩ = some (.int .u8 n)
  f0 : w.frozen? ⟨b, 0, none⟩ = false
  f1 : w.frozen? ⟨b, 1, none⟩ = false
theorem StM.made (w : World) (T : TypeId) (t n : Int) : StM (w.alloc (.cells #[.int .i64 t, .int .u8 n] T)) w.heap.size t n :=
  ⟨by rw [World.cell?_alloc_new]; rfl, by rw [World.cell?_alloc_new]; rfl, World.frozen?_alloc_new _ _ _ _, World.frozen?_alloc_new _ _ _ _⟩
theorem StM.kept {w w' : World} {b : Nat} {t n : Int} (h : StM w b t n) (hb : w'.heap[b]? = w.heap[b]?) : StM w' b t n :=
  ⟨(cell_of_block hb 0).1.trans h.c0, (cell_of_block hb 1).1.trans h.c1, (cell_of_block hb 0).2.trans h.f0, (cell_of_block hb 1).2.trans h.f1⟩
theorem StM.set {w : World} {b : Nat} {t n : Int} (h : StM w b t n) (t' n' : Int) : StM ((w.setCell ⟨b, 0, none⟩ (.int .i64 t')).setCell ⟨b, 1, none⟩ (.int .u8 n')) b t' n' :=
  ⟨(set_off _ _ _ _ _ (by omega)).trans (World.cell?_setCell_same _ _ _ h.c0), World.cell?_setCell_same _ _ _ ((set_off _ _ _ _ _ (by omega)).trans h.c1), by simp only [World.frozen?_setCell]; exact h.f0, by simp only [World.frozen?_setCell]; exact h.f1⟩
theorem KeyMine.kept {w w' : World} {b : Nat} {k : List Int} (h : KeyMine w b 0 k) (hb : w'.heap[b]? = w.heap[b]?) : KeyMine w' b 0 k :=
  ⟨⟨fun z hz => (cell_of_block hb _).1.trans (h.lies.cell z hz)⟩, fun i hi => (cell_of_block hb _).2.trans (h.free i hi), h.ky⟩
theorem VerMine.kept {w w' : World} {b : Nat} {V : Ver} (h : VerMine w b 0 V) (hb : w'.heap[b]? = w.heap[b]?) : VerMine w' b 0 V :=
  ⟨⟨lies_of (fun j u hj => (cell_of_block hb _).1.trans (h.at_.lies.at j u hj))⟩, fun i hi => (cell_of_block hb _).2.trans (h.free i hi), h.key⟩
/-- A box that was made meanwhile. -/
theorem GS.add {W0 u y : World} {B g q lb vb : Nat} {a : Option Addr} {cap : Nat} {zs : List Int} {k k' : Nat} {b b' : Bool} {M : List Ver} {K : List Int} {F : Foot} (h : GS W0 u B g q lb a cap zs k b M K F) (hc : Chg u y (fun j => j = g)) (hr : Rd y g a cap zs k' b') (h1 : u.heap.size ≤ vb) (h2 : vb < y.heap.size) : GS W0 y B g q lb a cap zs k' b' M K (fun j => F j ∨ j = vb) := by
  have h3 := h.turn hc hr
  obtain ⟨la, lc, c1, c2, c3⟩ := h.list
  obtain ⟨la', lc', d1, d2, d3⟩ := h3.list
  have hg := h.hg
  have hq0 := h.q0; have hq1 := h.q1; have hbu := h.bu
  have bq := hc.block q (by omega) (by omega)
  have e : la' = la ∧ lc' = lc := by
    rw [(cell_of_block bq 0).1, c1] at d1
    injection d1 with d1
    injection d1 with e1 e2 e3
    exact ⟨e1.symm, e3.symm⟩
  obtain ⟨rfl, rfl⟩ := e
  refine ⟨h3.rd, h3.base, h3.chg, h3.q0, h3.q1, h3.l0, h3.l1, h3.ql, h3.bu, ⟨la', lc', d1, d2, fun j hj => ?_⟩, h3.free, h3.last, h3.oks, fun j hj => ?_⟩
  · rcases hj with hj | rfl
    · exact d3 j hj
    · intro e
      have := (c2.lt _ e).2
      omega
  · rcases hj with hj | rfl
    · exact h3.far j hj
    · exact ⟨by omega, h2⟩
/-- Another value. -/
theorem VerMine.text {w : World} {b : Nat} {k v v' : List Int} {t n : Int} {g : Bool} (h : VerMine w b 0 ⟨k, t, n, v, g⟩) : VerMine (w.setCell ⟨b, 18, none⟩ (.string (strOfNums v'))) b 0 ⟨k, t, n, v', g⟩ := by
  have hl : (kc k).length = 16 := kc_len h.key
  have eV : ∀ x : List Int, encV ⟨k, t, n, x, g⟩ = kc k ++ [.int .i64 t, .int .u8 n, .string (strOfNums x), .bool g] := fun x => rfl
  refine ⟨⟨lies_of (fun j u hj => ?_)⟩, fun i hi => by rw [World.frozen?_setCell]; exact h.free i hi, h.key⟩
  by_cases e : j = 18
  · subst e
    have h1 : (encV ⟨k, t, n, v', g⟩)[18]? = some (.string (strOfNums v')) := by rw [eV, List.getElem?_append_right (by omega), hl]; rfl
    rw [h1] at hj
    injection hj with hj
    rw [← hj]
    exact World.cell?_setCell_same _ _ _ ((h.at_.cells h.key).2.2.1)
  · have h1 : (encV ⟨k, t, n, v, g⟩)[j]? = some u := by
      rw [← hj, eV, eV]
      by_cases e2 : j < 16
      · rw [List.getElem?_append_left (by omega), List.getElem?_append_left (by omega)]
      · rw [List.getElem?_append_right (by omega), List.getElem?_append_right (by omega), hl]
        have e3 : j - 16 = 0 ∨ j - 16 = 1 ∨ j - 16 = 3 ∨ 4 ≤ j - 16 := by omega
        rcases e3 with e3 | e3 | e3 | e3
        · rw [e3]; rfl
        · rw [e3]; rfl
        · rw [e3]; rfl
        · rw [List.getElem?_eq_none (by simp; omega), List.getElem?_eq_none (by simp; omega)]
    rw [set_off _ _ _ _ _ (by omega)]
    exact h.at_.lies.at j u h1
def pvK (i : Nat) (K : List Int) : Option (List Int) := if i = 0 then none else some K
def pvV (q : Nat) (t n : Int) : Option (Int × Int) := if q = 0 then none else some (t, n)
theorem mayKey_is (i : Nat) (K k : List Int) (m : Int) : mayKey (pvK i K) k m = (goodK k && (decide (i = 0) || decide (0 < lexC k K)) && decide (m ≠ 0)) := by
  unfold mayKey pvK aboveK
  by_cases h : i = 0
  · rw [if_pos h]; simp [h]
  · rw [if_neg h]; simp [h]
theorem mayVer_is (q : Nat) (t n : Int) (V : Ver) : mayVer (pvV q t n) V = (mayV V && (decide (q = 0) || decide (0 < cmpS V.t V.n t n))) := by
  unfold mayVer pvV aboveV
  by_cases h : q = 0
  · rw [if_pos h]; simp [h]
  · rw [if_neg h]; simp [h]
theorem gs_made {w w1 U : World} {a : Option Addr} {cap len : Nat} {zs : List Int} {k : Nat} {b : Bool} (hr : Row w a zs) (hl : zs.length = len) (hc : len ≤ cap) (hm : len ≤ 1000000) (hR : Rd w1 w.heap.size a cap zs k b) (hC : Chg (w.alloc (.cells #[.slice a len cap, .int .i64 0, .bool false] 82)) w1 (fun j => j = w.heap.size))
    (hU : U = ((w1.alloc (.cells #[.slice none 0 0] 71)).alloc (.cells #[.int .u8 0, .int .u8 0, .int .u8 0, .int .u8 0, .int .u8 0, .int .u8 0, .int .u8 0, .int .u8 0, .int .u8 0, .int .u8 0, .int .u8 0, .int .u8 0, .int .u8 0, .int .u8 0, .int .u8 0, .int .u8 0] 57)).setCells (w1.heap.size + 1) 0 (zeroK.map (Value.int .u8))) :
    GS (w.alloc (.cells #[.slice a len cap, .int .i64 0, .bool false] 82)) U (w1.heap.size + 2) w.heap.size w1.heap.size (w1.heap.size + 1) a cap zs k b [] zeroK noFoot := by
  have hb : Rd (w.alloc (.cells #[.slice a len cap, .int .i64 0, .bool false] 82)) w.heap.size a cap zs 0 false := by
    have := Rd.made w 82 hr (by rw [hl]; exact hc) (by omega)
    rw [hl] at this
    exact this
  have s0 : (w.alloc (.cells #[.slice a len cap, .int .i64 0, .bool false] 82)).heap.size = w.heap.size + 1 := World.size_alloc _ _
  have hs := hC.size
  obtain ⟨A, hA⟩ : ∃ A, A = w1.alloc (.cells #[.slice none 0 0] 71) := ⟨_, rfl⟩
  have sA : A.heap.size = w1.heap.size + 1 := by rw [hA, World.size_alloc]
  have bA : Below w1.heap.size w1 A := by rw [hA]; exact (Below.refl _ _).alloc (Nat.le_refl _) _
  have cA : A.cell? ⟨w1.heap.size, 0, none⟩ = some (.slice none 0 0) := by rw [hA, World.cell?_alloc_new]; rfl
  have fA : A.frozen? ⟨w1.heap.size, 0, none⟩ = false := by rw [hA]; exact World.frozen?_alloc_new _ _ _ _
  rw [← hA] at hU
  obtain ⟨D, hD⟩ : ∃ D, D = A.alloc (.cells #[.int .u8 0, .int .u8 0, .int .u8 0, .int .u8 0, .int .u8 0, .int .u8 0, .int .u8 0, .int .u8 0, .int .u8 0, .int .u8 0, .int .u8 0, .int .u8 0, .int .u8 0, .int .u8 0, .int .u8 0, .int .u8 0] 57) := ⟨_, rfl⟩
  have sD : D.heap.size = w1.heap.size + 2 := by rw [hD, World.size_alloc, sA]
  have bD : Below A.heap.size A D := by rw [hD]; exact (Below.refl _ _).alloc (Nat.le_refl _) _
  have mD : KeyMine D (w1.heap.size + 1) 0 zeroK := by
    have := KeyMine.made A 57 zeroK zeroK_ky
    rw [zero_cells, ← hD, sA] at this
    exact this
  rw [← hD] at hU
  have cU : Chg D U (fun j => j = w1.heap.size + 1) := by rw [hU]; exact chg_cells _ _ _ _
  have mU : KeyMine U (w1.heap.size + 1) 0 zeroK := by rw [hU]; exact mD.store zeroK_ky
  have sU := cU.size
  have bq := cU.block w1.heap.size (by omega) (by omega)
  have c1U : Chg w1 U (fun j => j = w1.heap.size + 1) := ((Chg.of_below bA _).trans (Chg.of_below bD _) (fun _ _ x => x)).trans cU (fun _ _ x => x)
  have bg := c1U.block w.heap.size (by omega) (by omega)
  have cW : Chg (w.alloc (.cells #[.slice a len cap, .int .i64 0, .bool false] 82)) U (fun j => j = w.heap.size) := hC.trans c1U (fun j hj e => by omega)
  exact ⟨hb.as cW hR bg, hb, cW, by omega, by omega, by omega, by omega, by omega, by omega, ⟨none, 0, (cell_of_block bq 0).1.trans ((bD.cell (p := ⟨w1.heap.size, 0, none⟩) (by show w1.heap.size < A.heap.size; omega)).trans cA), World.ownsRow_nil _ _ _ _, fun j hj => hj.elim⟩, (cell_of_block bq 0).2.trans ((bD.frozen (p := ⟨w1.heap.size, 0, none⟩) (by show w1.heap.size < A.heap.size; omega)).trans fA), mU, fun V hV => by simp at hV, fun j hj => hj.elim⟩
theorem mk_last (w1 : World) : KeyMine ((w1.alloc (.cells #[.slice none 0 0] 71)).alloc (.cells #[.int .u8 0, .int .u8 0, .int .u8 0, .int .u8 0, .int .u8 0, .int .u8 0, .int .u8 0, .int .u8 0, .int .u8 0, .int .u8 0, .int .u8 0, .int .u8 0, .int .u8 0, .int .u8 0, .int .u8 0, .int .u8 0] 57)) (w1.heap.size + 1) 0 zeroK := by
  have := KeyMine.made (w1.alloc (.cells #[.slice none 0 0] 71)) 57 zeroK zeroK_ky
  rw [zero_cells, World.size_alloc] at this
  exact this
theorem mk_key (w2 : World) : KeyMine (w2.alloc (.cells #[.int .u8 0, .int .u8 0, .int .u8 0, .int .u8 0, .int .u8 0, .int .u8 0, .int .u8 0, .int .u8 0, .int .u8 0, .int .u8 0, .int .u8 0, .int .u8 0, .int .u8 0, .int .u8 0, .int .u8 0, .int .u8 0] 57)) w2.heap.size 0 zeroK := by
  have := KeyMine.made w2 57 zeroK zeroK_ky
  rw [zero_cells] at this
  exact this
theorem mk_ver (w2 : World) : VerMine (w2.alloc (.cells #[.int .u8 0, .int .u8 0, .int .u8 0, .int .u8 0, .int .u8 0, .int .u8 0, .int .u8 0, .int .u8 0, .int .u8 0, .int .u8 0, .int .u8 0, .int .u8 0, .int .u8 0, .int .u8 0, .int .u8 0, .int .u8 0, .int .i64 0, .int .u8 0, .string ⟨#[]⟩, .bool false] 67)) w2.heap.size 0 zeroV := by
  have := VerMine.made w2 67 zeroV zeroV_ky
  rw [zeroV_cells] at this
  exact this
set_option maxHeartbeats 16000000 in
set_option maxRecDepth 8000 in
theorem rgetstore_any (a : Option Addr) (cap len : Nat) (zs : List Int) (w : World) (hr : Row w a zs) (hl : zs.length = len) (hc : len ≤ cap) (hm : len ≤ 1000000) :
    Calls Tryz.prog 12 #[.slice a len cap] w fun e w' => ((∃ (q : Nat) (M : List Ver), getS zs = some M ∧ e = .returned (.tuple #[.pointer (some ⟨q, 0, none⟩), .bool true]) ∧ StoreR w' w.heap.size q M) ∨ (getS zs = none ∧ e = .returned (.tuple #[.pointer none, .bool false]))) ∧ Below w.heap.size w w' := by
  have HR0 : Hid (Rd (w.alloc (.cells #[.slice a len cap, .int .i64 0, .bool false] 82)) w.heap.size a cap zs 0 false) := by
    have := Rd.made w 82 hr (by rw [hl]; exact hc) (by omega)
    rw [hl] at this
    exact this
  have HMK : Hid (∀ w1 U k b, Rd w1 w.heap.size a cap zs k b → Chg (w.alloc (.cells #[.slice a len cap, .int .i64 0, .bool false] 82)) w1 (fun j => j = w.heap.size) → U = ((w1.alloc (.cells #[.slice none 0 0] 71)).alloc (.cells #[.int .u8 0, .int .u8 0, .int .u8 0, .int .u8 0, .int .u8 0, .int .u8 0, .int .u8 0, .int .u8 0, .int .u8 0, .int .u8 0, .int .u8 0, .int .u8 0, .int .u8 0, .int .u8 0, .int .u8 0, .int .u8 0] 57)).setCells (w1.heap.size + 1) 0 (zeroK.map (Value.int .u8)) → GS (w.alloc (.cells #[.slice a len cap, .int .i64 0, .bool false] 82)) U (w1.heap.size + 2) w.heap.size w1.heap.size (w1.heap.size + 1) a cap zs k b [] zeroK noFoot) := fun w1 U k b h1 h2 h3 => gs_made hr hl hc hm h1 h2 h3
  have HBW : Hid (∀ u, Chg (w.alloc (.cells #[.slice a len cap, .int .i64 0, .bool false] 82)) u (fun j => j = w.heap.size) → Below w.heap.size w u) := fun u hu => ((Below.refl _ _).alloc (Nat.le_refl _) _).trans ((hu.mono (Y := fun j => w.heap.size ≤ j) (fun k _ e => by omega)).below (by simp) (fun k e => e))
  have HZL : Hid (zs.length ≤ 1000000) := by show _ ≤ _; omega
  clear hr hl hc hm
  go_enter Tryz.func12, Tryz.ntmps12
  go_wp2_with (first
    | (have hgo := P1.out; clear hgo; refine wpList_store_keyU (by rfl) _ _ (by rfl) (w1.heap.size + 1) 0 zeroK zeroK (by rfl) (by rfl) zeroK_ky (mk_last w1) ?_; intro U hU; have G0 : Hid (GS (w.alloc (.cells #[.slice a len cap, .int .i64 0, .bool false] 82)) U (w1.heap.size + 2) w.heap.size w1.heap.size (w1.heap.size + 1) a cap zs k1 b1 [] zeroK noFoot) := HMK.out w1 U k1 b1 P1.out.1 P1.out.2.1 hU; clear hU HMK)
    | (have hgo := HR0.out; clear hgo; go_at_call 35; refine (rcount14_any _ a cap zs 0 false _ 200 (by omega) (by omega) HR0.out).mono ?_; rintro e w1 ⟨n, k1, b1, rfl, n0, n1, R1, C1, D1⟩; obtain ⟨N, rfl⟩ : ∃ N : Nat, n = N := ⟨n.toNat, by omega⟩; have P1 : Hid (Rd w1 w.heap.size a cap zs k1 b1 ∧ Chg (w.alloc (.cells #[.slice a len cap, .int .i64 0, .bool false] 82)) w1 (fun j => j = w.heap.size) ∧ Rds (countP 200) (some zs) (stR zs k1 b1) (N : Int)) := ⟨R1, C1, D1⟩; clear R1 C1 D1))
  have hN : N ≤ 200 := by omega
  have HST : Hid (getS zs = resK [] N none (stR zs k1 b1)) := resS_start P1.out.2.2
  have HG0 : Hid (w.heap.size + 1 ≤ w1.heap.size) := by have h1 := P1.out.2.1.size; rw [World.size_alloc] at h1; exact h1
  clear P1
  go_loopw [8] (fun iv wr => ∃ (i k : Nat) (b : Bool) (M : List Ver) (K : List Int), i ≤ N ∧ iv = .int .i64 i ∧ Hid (GS (w.alloc (.cells #[.slice a len cap, .int .i64 0, .bool false] 82)) wr (w1.heap.size + 2) w.heap.size w1.heap.size (w1.heap.size + 1) a cap zs k b M K noFoot) ∧ Hid (getS zs = resK M (N - i) (pvK i K) (stR zs k b)) ∧ Hid (M.length ≤ 50 * i)) (fun iv _ => N - (intOf iv).toNat)
  case atStart => exact ⟨0, k1, b1, [], zeroK, Nat.zero_le _, rfl, G0, HST, Nat.le_refl _⟩
  case round =>
    obtain ⟨i, k, b, M, K, hi, rfl, HS, HGS, HML⟩ := hrel
    clear G0 HST
    have hi0 : (0 : Int) ≤ (i : Int) := by omega
    by_cases hex : i = N ∨ b = true
    · have HFIN : Hid ((stR zs k b = some [] → getS zs = some M) ∧ (stR zs k b ≠ some [] → getS zs = none)) := by
        rcases hex with rfl | rfl
        · have h1 := HGS.out
          rw [Nat.sub_self] at h1
          exact ⟨fun e => h1.trans ((resK_end _ _ _).1 e), fun e => h1.trans ((resK_end _ _ _).2 e)⟩
        · have h1 := HGS.out
          exact ⟨fun e => by simp [stR] at e, fun _ => by rw [h1]; rfl⟩
      obtain ⟨en, hen⟩ : ∃ en, en = decide (stR zs k b = some []) := ⟨_, rfl⟩
      have HEN : Hid (en = decide (stR zs k b = some [])) := hen
      have CE : Hid (∀ u, GS (w.alloc (.cells #[.slice a len cap, .int .i64 0, .bool false] 82)) u (w1.heap.size + 2) w.heap.size w1.heap.size (w1.heap.size + 1) a cap zs k b M K noFoot → Calls Tryz.prog 44 #[.pointer (some ⟨w.heap.size, 0, none⟩)] u fun e w' => e = .returned (.bool en) ∧ Below u.heap.size u w') := fun u hu => by
        refine (rrend_any _ a cap zs k b u hu.rd).mono ?_
        rintro e w' ⟨rfl, q, rfl⟩
        rw [hen]
        exact ⟨rfl, below_dN (Below.refl _ _) q⟩
      have c2 := HS.out.rd.c2
      have bN : i = N ∨ i < N := by omega
      have HX : Hid (i = N ∨ b = true) := hex
      clear hen hex HGS
      rcases bN with hn | hlt
      · obtain rfl := hn
        go_wp2_with (have hgo := HS.out; clear hgo; go_at_call 44; refine (CE.out _ HS.out).mono ?_; rintro e vE ⟨rfl, hb⟩; have GE : Hid (GS (w.alloc (.cells #[.slice a len cap, .int .i64 0, .bool false] 82)) vE (w1.heap.size + 2) w.heap.size w1.heap.size (w1.heap.size + 1) a cap zs k b M K noFoot) := HS.out.past hb; clear hb HS)
        all_goals go_returns
        all_goals (refine ⟨?_, HBW.out _ GE.out.chg⟩)
        all_goals first
          | (have he : en = false := of_nt (by assumption); exact .inr ⟨HFIN.out.2 (of_decide_eq_false (by rw [← HEN.out]; exact he)), rfl⟩)
          | (have he : en = true := of_nf (by assumption); exact .inl ⟨w1.heap.size, M, HFIN.out.1 (of_decide_eq_true (by rw [← HEN.out]; exact he)), rfl, GE.out.store (by have := HG0.out; omega) (by have := HML.out; omega)⟩)
          | (have he : en = true := (by assumption); exact .inl ⟨w1.heap.size, M, HFIN.out.1 (of_decide_eq_true (by rw [← HEN.out]; exact he)), rfl, GE.out.store (by have := HG0.out; omega) (by have := HML.out; omega)⟩)
          | (have he : en = false := Bool.eq_false_iff.2 (by assumption); exact .inr ⟨HFIN.out.2 (of_decide_eq_false (by rw [← HEN.out]; exact he)), rfl⟩)
      · obtain rfl : b = true := HX.out.resolve_left (by omega)
        have bl : (i : Int) < (N : Int) := by omega
        go_wp2_with (have hgo := HS.out; clear hgo; go_at_call 44; refine (CE.out _ HS.out).mono ?_; rintro e vE ⟨rfl, hb⟩; have GE : Hid (GS (w.alloc (.cells #[.slice a len cap, .int .i64 0, .bool false] 82)) vE (w1.heap.size + 2) w.heap.size w1.heap.size (w1.heap.size + 1) a cap zs k true M K noFoot) := HS.out.past hb; clear hb HS)
        all_goals go_returns
        all_goals (refine ⟨?_, HBW.out _ GE.out.chg⟩)
        all_goals first
          | (have he : en = false := of_nt (by assumption); exact .inr ⟨HFIN.out.2 (of_decide_eq_false (by rw [← HEN.out]; exact he)), rfl⟩)
          | (have he : en = true := of_nf (by assumption); exact .inl ⟨w1.heap.size, M, HFIN.out.1 (of_decide_eq_true (by rw [← HEN.out]; exact he)), rfl, GE.out.store (by have := HG0.out; omega) (by have := HML.out; omega)⟩)
          | (have he : en = true := (by assumption); exact .inl ⟨w1.heap.size, M, HFIN.out.1 (of_decide_eq_true (by rw [← HEN.out]; exact he)), rfl, GE.out.store (by have := HG0.out; omega) (by have := HML.out; omega)⟩)
          | (have he : en = false := Bool.eq_false_iff.2 (by assumption); exact .inr ⟨HFIN.out.2 (of_decide_eq_false (by rw [← HEN.out]; exact he)), rfl⟩)
    · have hlt : i < N := by omega
      obtain rfl : b = false := by cases b with
        | false => rfl
        | true => exact absurd (Or.inr rfl) hex
      have bl : (i : Int) < (N : Int) := by omega
      obtain ⟨R, hR⟩ : ∃ R, N - i = R + 1 := ⟨N - i - 1, by omega⟩
      have HG1 : Hid (getS zs = resK M (R + 1) (pvK i K) (stR zs k false)) := by
        have := HGS.out
        rw [hR] at this
        exact this
      have HRN : Hid (N - (i + 1) = R) := by show _ = _; omega
      have c2 := HS.out.rd.c2
      clear hex HGS hR
      go_upto_region 10 with (first
        | (have hgo := G3.out; clear hgo; go_at_call 35; refine (rcount14_any _ a cap zs k2 b2 _ 50 (by omega) (by omega) G3.out.rd).mono ?_; rintro e w4 ⟨m, k4, b4, rfl, m0, m1, R4, C4, D4⟩; have G4 : Hid (GS (w.alloc (.cells #[.slice a len cap, .int .i64 0, .bool false] 82)) w4 (w1.heap.size + 2) w.heap.size w1.heap.size (w1.heap.size + 1) a cap zs k4 b4 M K (fun j => noFoot j ∨ j = w2.heap.size)) := G3.out.turn C4 R4; have MK4 : Hid (KeyMine w4 w2.heap.size 0 kk) := MK.out.kept (C4.block _ (G3.out.far _ (.inr rfl)).2 (by have := (G3.out.far _ (.inr rfl)).1; have := HG0.out; omega)); have HD4 : Hid (Rds (countP 50) (stR zs k2 b2) (stR zs k4 b4) m) := D4; clear R4 C4 D4 G3 MK)
        | (have hgo := G2.out; clear hgo; refine wpList_store_keyU (by rfl) _ _ (by rfl) w2.heap.size 0 zeroK kk (by rfl) (by rfl) KK.out (mk_key w2) ?_; intro u3 hu3; have G3 : Hid (GS (w.alloc (.cells #[.slice a len cap, .int .i64 0, .bool false] 82)) u3 (w1.heap.size + 2) w.heap.size w1.heap.size (w1.heap.size + 1) a cap zs k2 b2 M K (fun j => noFoot j ∨ j = w2.heap.size)) := (by rw [hu3]; exact (G2.out.new _).box ((chg_cells _ _ _ _).mono (fun _ _ e => .inr e))); have MK : Hid (KeyMine u3 w2.heap.size 0 kk) := (by rw [hu3]; exact (mk_key w2).store KK.out); clear hu3 G2)
        | (have hgo := HS.out; clear hgo; go_at_call 36; refine (rkey14_any _ a cap zs k false _ HS.out.rd).mono ?_; rintro e w2 ⟨kk, rfl, hky, ⟨k2, b2, R2, C2, D2⟩⟩; have KK : Hid (Ky kk) := hky; have G2 : Hid (GS (w.alloc (.cells #[.slice a len cap, .int .i64 0, .bool false] 82)) w2 (w1.heap.size + 2) w.heap.size w1.heap.size (w1.heap.size + 1) a cap zs k2 b2 M K noFoot) := HS.out.turn C2 R2; have HD2 : Hid (Rds (bytesP 16) (stR zs k false) (stR zs k2 b2) kk) := D2; clear hky R2 C2 D2 HS c2))
      obtain ⟨mn, rfl⟩ : ∃ mn : Nat, m = mn := ⟨m.toNat, by omega⟩
      have hm50 : mn ≤ 50 := by omega
      obtain ⟨cb, hcb⟩ : ∃ cb, cb = !mayKey (pvK i K) kk (mn : Int) := ⟨_, rfl⟩
      obtain ⟨gk, hgk⟩ : ∃ gk, gk = goodK kk := ⟨_, rfl⟩
      obtain ⟨ci, hci⟩ : ∃ ci, ci = lexC kk K := ⟨_, rfl⟩
      have HCB : Hid (cb = !(gk && (decide (i = 0) || decide (0 < ci)) && decide ((mn : Int) ≠ 0))) := by show _ = _; rw [hcb, hgk, hci, mayKey_is]
      have HCM : Hid (cb = !mayKey (pvK i K) kk (mn : Int)) := hcb
      have CGD : Hid (∀ u, Calls Tryz.prog 37 #[kv kk] u fun e w' => e = .returned (.bool gk) ∧ Below u.heap.size u w') := fun u => by rw [hgk]; exact rgood_any kk KK.out u
      have CCM : Hid (∀ u, GS (w.alloc (.cells #[.slice a len cap, .int .i64 0, .bool false] 82)) u (w1.heap.size + 2) w.heap.size w1.heap.size (w1.heap.size + 1) a cap zs k4 b4 M K (fun j => noFoot j ∨ j = w2.heap.size) → Calls Tryz.prog 38 #[kv kk, kv K] u fun e w' => e = .returned (.int .i64 ci) ∧ Below u.heap.size u w') := fun u hu => by rw [hci]; exact rcmp_any kk K KK.out hu.last.ky u
      clear hcb hgk hci
      go_cut [54] from 22 to 103 (fun cv wx => cv = .bool cb ∧ Hid (GS (w.alloc (.cells #[.slice a len cap, .int .i64 0, .bool false] 82)) wx (w1.heap.size + 2) w.heap.size w1.heap.size (w1.heap.size + 1) a cap zs k4 b4 M K (fun j => noFoot j ∨ j = w2.heap.size) ∧ KeyMine wx w2.heap.size 0 kk))
      case first =>
        cases gk with
        | false =>
          go_wp2_with (first
            | (have hgo := G4.out; clear hgo; (with_reducible show wpList _ _ _ (Oper.mk (some 38) _ _ _ _ _ :: _) _ _); refine wpList_load_keyD 38 (by rfl) (by rfl) _ (by rfl) w2.heap.size 0 (by rfl) kk KK.out MK4.out.lies ?_)
            | (have hgo := G4.out; clear hgo; go_at_call 37; refine (CGD.out _).mono ?_; rintro e w5 ⟨rfl, hb⟩; have G5 : Hid (GS (w.alloc (.cells #[.slice a len cap, .int .i64 0, .bool false] 82)) w5 (w1.heap.size + 2) w.heap.size w1.heap.size (w1.heap.size + 1) a cap zs k4 b4 M K (fun j => noFoot j ∨ j = w2.heap.size) ∧ KeyMine w5 w2.heap.size 0 kk) := ⟨G4.out.past hb, MK4.out.kept (hb.block _ (G4.out.far _ (.inr rfl)).2)⟩; clear hb G4 MK4))
          go_meet
          case rel => exact ⟨by rw [HCB.out]; rfl, G5⟩
        | true =>
          by_cases hi1 : i = 0
          · subst hi1
            by_cases hm0 : mn = 0
            · subst hm0
              go_wp2_with (first
                | (have hgo := G4.out; clear hgo; (with_reducible show wpList _ _ _ (Oper.mk (some 38) _ _ _ _ _ :: _) _ _); refine wpList_load_keyD 38 (by rfl) (by rfl) _ (by rfl) w2.heap.size 0 (by rfl) kk KK.out MK4.out.lies ?_)
                | (have hgo := G4.out; clear hgo; go_at_call 37; refine (CGD.out _).mono ?_; rintro e w5 ⟨rfl, hb⟩; have G5 : Hid (GS (w.alloc (.cells #[.slice a len cap, .int .i64 0, .bool false] 82)) w5 (w1.heap.size + 2) w.heap.size w1.heap.size (w1.heap.size + 1) a cap zs k4 b4 M K (fun j => noFoot j ∨ j = w2.heap.size) ∧ KeyMine w5 w2.heap.size 0 kk) := ⟨G4.out.past hb, MK4.out.kept (hb.block _ (G4.out.far _ (.inr rfl)).2)⟩; clear hb G4 MK4))
              go_meet
              case rel => exact ⟨by rw [HCB.out]; simp, G5⟩
            · have bm : ((mn : Int) == 0) = false := by simp; omega
              go_wp2_with (first
                | (have hgo := G4.out; clear hgo; (with_reducible show wpList _ _ _ (Oper.mk (some 38) _ _ _ _ _ :: _) _ _); refine wpList_load_keyD 38 (by rfl) (by rfl) _ (by rfl) w2.heap.size 0 (by rfl) kk KK.out MK4.out.lies ?_)
                | (have hgo := G4.out; clear hgo; go_at_call 37; refine (CGD.out _).mono ?_; rintro e w5 ⟨rfl, hb⟩; have G5 : Hid (GS (w.alloc (.cells #[.slice a len cap, .int .i64 0, .bool false] 82)) w5 (w1.heap.size + 2) w.heap.size w1.heap.size (w1.heap.size + 1) a cap zs k4 b4 M K (fun j => noFoot j ∨ j = w2.heap.size) ∧ KeyMine w5 w2.heap.size 0 kk) := ⟨G4.out.past hb, MK4.out.kept (hb.block _ (G4.out.far _ (.inr rfl)).2)⟩; clear hb G4 MK4))
              go_meet
              case rel => exact ⟨by rw [HCB.out]; simp [hm0], G5⟩
          · have bi : (0 : Int) < (i : Int) := by omega
            have bi2 : 0 < i := by omega
            obtain ⟨lc, hlc⟩ : ∃ lc, lc = decide (ci ≤ 0) := ⟨_, rfl⟩
            have HLC : Hid (lc = decide (ci ≤ 0)) := hlc
            by_cases hc0 : ci ≤ 0
            · clear hlc
              go_wp2_with (first
                | (have hgo := G5.out; clear hgo; (with_reducible show wpList _ _ _ (Oper.mk (some 45) _ _ _ _ _ :: _) _ _); refine wpList_load_keyD 45 (by rfl) (by rfl) _ (by rfl) w2.heap.size 0 (by rfl) kk KK.out G5.out.2.lies ?_)
                | (have hgo := G5.out; clear hgo; (with_reducible show wpList _ _ _ (Oper.mk (some 46) _ _ _ _ _ :: _) _ _); refine wpList_load_keyD 46 (by rfl) (by rfl) _ (by rfl) (w1.heap.size + 1) 0 (by rfl) K G5.out.1.last.ky G5.out.1.last.lies ?_)
                | (have hgo := G5.out; clear hgo; go_at_call 38; refine (CCM.out _ G5.out.1).mono ?_; rintro e w6 ⟨rfl, hb⟩; have G6 : Hid (GS (w.alloc (.cells #[.slice a len cap, .int .i64 0, .bool false] 82)) w6 (w1.heap.size + 2) w.heap.size w1.heap.size (w1.heap.size + 1) a cap zs k4 b4 M K (fun j => noFoot j ∨ j = w2.heap.size) ∧ KeyMine w6 w2.heap.size 0 kk) := ⟨G5.out.1.past hb, G5.out.2.kept (hb.block _ (G5.out.1.far _ (.inr rfl)).2)⟩; clear hb G5)
                | (have hgo := G4.out; clear hgo; (with_reducible show wpList _ _ _ (Oper.mk (some 38) _ _ _ _ _ :: _) _ _); refine wpList_load_keyD 38 (by rfl) (by rfl) _ (by rfl) w2.heap.size 0 (by rfl) kk KK.out MK4.out.lies ?_)
                | (have hgo := G4.out; clear hgo; go_at_call 37; refine (CGD.out _).mono ?_; rintro e w5 ⟨rfl, hb⟩; have G5 : Hid (GS (w.alloc (.cells #[.slice a len cap, .int .i64 0, .bool false] 82)) w5 (w1.heap.size + 2) w.heap.size w1.heap.size (w1.heap.size + 1) a cap zs k4 b4 M K (fun j => noFoot j ∨ j = w2.heap.size) ∧ KeyMine w5 w2.heap.size 0 kk) := ⟨G4.out.past hb, MK4.out.kept (hb.block _ (G4.out.far _ (.inr rfl)).2)⟩; clear hb G4 MK4))
              go_meet
              case rel => exact ⟨by rw [HCB.out, decide_eq_false (p := i = 0) hi1, decide_eq_false (p := 0 < ci) (by omega)]; rfl, G6⟩
            · clear hlc
              by_cases hm0 : mn = 0
              · subst hm0
                go_wp2_with (first
                  | (have hgo := G5.out; clear hgo; (with_reducible show wpList _ _ _ (Oper.mk (some 45) _ _ _ _ _ :: _) _ _); refine wpList_load_keyD 45 (by rfl) (by rfl) _ (by rfl) w2.heap.size 0 (by rfl) kk KK.out G5.out.2.lies ?_)
                  | (have hgo := G5.out; clear hgo; (with_reducible show wpList _ _ _ (Oper.mk (some 46) _ _ _ _ _ :: _) _ _); refine wpList_load_keyD 46 (by rfl) (by rfl) _ (by rfl) (w1.heap.size + 1) 0 (by rfl) K G5.out.1.last.ky G5.out.1.last.lies ?_)
                  | (have hgo := G5.out; clear hgo; go_at_call 38; refine (CCM.out _ G5.out.1).mono ?_; rintro e w6 ⟨rfl, hb⟩; have G6 : Hid (GS (w.alloc (.cells #[.slice a len cap, .int .i64 0, .bool false] 82)) w6 (w1.heap.size + 2) w.heap.size w1.heap.size (w1.heap.size + 1) a cap zs k4 b4 M K (fun j => noFoot j ∨ j = w2.heap.size) ∧ KeyMine w6 w2.heap.size 0 kk) := ⟨G5.out.1.past hb, G5.out.2.kept (hb.block _ (G5.out.1.far _ (.inr rfl)).2)⟩; clear hb G5)
                  | (have hgo := G4.out; clear hgo; (with_reducible show wpList _ _ _ (Oper.mk (some 38) _ _ _ _ _ :: _) _ _); refine wpList_load_keyD 38 (by rfl) (by rfl) _ (by rfl) w2.heap.size 0 (by rfl) kk KK.out MK4.out.lies ?_)
                  | (have hgo := G4.out; clear hgo; go_at_call 37; refine (CGD.out _).mono ?_; rintro e w5 ⟨rfl, hb⟩; have G5 : Hid (GS (w.alloc (.cells #[.slice a len cap, .int .i64 0, .bool false] 82)) w5 (w1.heap.size + 2) w.heap.size w1.heap.size (w1.heap.size + 1) a cap zs k4 b4 M K (fun j => noFoot j ∨ j = w2.heap.size) ∧ KeyMine w5 w2.heap.size 0 kk) := ⟨G4.out.past hb, MK4.out.kept (hb.block _ (G4.out.far _ (.inr rfl)).2)⟩; clear hb G4 MK4))
                go_meet
                case rel => exact ⟨by rw [HCB.out]; simp, G6⟩
              · have bm : ((mn : Int) == 0) = false := by simp; omega
                go_wp2_with (first
                  | (have hgo := G5.out; clear hgo; (with_reducible show wpList _ _ _ (Oper.mk (some 45) _ _ _ _ _ :: _) _ _); refine wpList_load_keyD 45 (by rfl) (by rfl) _ (by rfl) w2.heap.size 0 (by rfl) kk KK.out G5.out.2.lies ?_)
                  | (have hgo := G5.out; clear hgo; (with_reducible show wpList _ _ _ (Oper.mk (some 46) _ _ _ _ _ :: _) _ _); refine wpList_load_keyD 46 (by rfl) (by rfl) _ (by rfl) (w1.heap.size + 1) 0 (by rfl) K G5.out.1.last.ky G5.out.1.last.lies ?_)
                  | (have hgo := G5.out; clear hgo; go_at_call 38; refine (CCM.out _ G5.out.1).mono ?_; rintro e w6 ⟨rfl, hb⟩; have G6 : Hid (GS (w.alloc (.cells #[.slice a len cap, .int .i64 0, .bool false] 82)) w6 (w1.heap.size + 2) w.heap.size w1.heap.size (w1.heap.size + 1) a cap zs k4 b4 M K (fun j => noFoot j ∨ j = w2.heap.size) ∧ KeyMine w6 w2.heap.size 0 kk) := ⟨G5.out.1.past hb, G5.out.2.kept (hb.block _ (G5.out.1.far _ (.inr rfl)).2)⟩; clear hb G5)
                  | (have hgo := G4.out; clear hgo; (with_reducible show wpList _ _ _ (Oper.mk (some 38) _ _ _ _ _ :: _) _ _); refine wpList_load_keyD 38 (by rfl) (by rfl) _ (by rfl) w2.heap.size 0 (by rfl) kk KK.out MK4.out.lies ?_)
                  | (have hgo := G4.out; clear hgo; go_at_call 37; refine (CGD.out _).mono ?_; rintro e w5 ⟨rfl, hb⟩; have G5 : Hid (GS (w.alloc (.cells #[.slice a len cap, .int .i64 0, .bool false] 82)) w5 (w1.heap.size + 2) w.heap.size w1.heap.size (w1.heap.size + 1) a cap zs k4 b4 M K (fun j => noFoot j ∨ j = w2.heap.size) ∧ KeyMine w5 w2.heap.size 0 kk) := ⟨G4.out.past hb, MK4.out.kept (hb.block _ (G4.out.far _ (.inr rfl)).2)⟩; clear hb G4 MK4))
                go_meet
                case rel => exact ⟨by rw [HCB.out]; simp [hm0, hi1, show 0 < ci by omega]; try omega, G6⟩
      case rest =>
        obtain ⟨rfl, HC⟩ := hcut
        clear G4 MK4 CGD CCM HCB
        cases cb with
        | true =>
          have HNO : Hid (getS zs = none) := by
            rw [HG1.out]
            exact resK_bad HD2.out HD4.out (of_nt HCM.out.symm)
          go_wp2
          go_returns
          exact ⟨.inr ⟨HNO.out, rfl⟩, HBW.out _ HC.out.1.chg⟩
        | false =>
          have HGV : Hid (getS zs = resV M kk mn none R (stR zs k4 b4)) := by
            have h1 := resK_next (M := M) (n := R) HD2.out HD4.out (of_nf HCM.out.symm)
            rw [← HG1.out, Int.toNat_natCast] at h1
            exact h1
          go_wp2_with (first
            | (have hgo := HC.out; clear hgo; (with_reducible show wpList _ _ _ (Oper.mk (some 55) _ _ _ _ _ :: _) _ _); refine wpList_load_keyD 55 (by rfl) (by rfl) _ (by rfl) w2.heap.size 0 (by rfl) kk KK.out HC.out.2.lies ?_)
            | (have hgo := HC.out; clear hgo; refine wpList_store_keyU (by rfl) _ _ (by rfl) (w1.heap.size + 1) 0 K kk (by rfl) (by rfl) KK.out HC.out.1.last ?_; intro u7 hu7; have G7 : Hid (GS (w.alloc (.cells #[.slice a len cap, .int .i64 0, .bool false] 82)) u7 (w1.heap.size + 2) w.heap.size w1.heap.size (w1.heap.size + 1) a cap zs k4 b4 M kk (fun j => noFoot j ∨ j = w2.heap.size) ∧ KeyMine u7 w2.heap.size 0 kk) := (by rw [hu7]; exact ⟨HC.out.1.key KK.out, HC.out.2.kept ((chg_cells _ _ _ _).block _ (HC.out.1.far _ (.inr rfl)).2 (by have := (HC.out.1.far _ (.inr rfl)).1; omega))⟩); clear hu7 HC))
          obtain ⟨u70, hu70⟩ : ∃ u, u = u7.alloc (.cells #[.int .i64 0, .int .u8 0] 42) := ⟨_, rfl⟩
          rw [← hu70]
          have G8 : Hid (GS (w.alloc (.cells #[.slice a len cap, .int .i64 0, .bool false] 82)) u70 (w1.heap.size + 2) w.heap.size w1.heap.size (w1.heap.size + 1) a cap zs k4 b4 M kk (fun j => (noFoot j ∨ j = w2.heap.size) ∨ j = u7.heap.size) ∧ KeyMine u70 w2.heap.size 0 kk ∧ StM u70 u7.heap.size 0 0) := by
            rw [hu70]
            exact ⟨G7.out.1.new _, G7.out.2.kept (((Below.refl _ _).alloc (Nat.le_refl _) _).block _ (G7.out.1.far _ (.inr rfl)).2), StM.made _ _ _ _⟩
          have HKT : Hid (w2.heap.size < u7.heap.size) := (G7.out.1.far _ (.inr rfl)).2
          clear G7 HD2 HD4 HG1 HCM hu70
          go_loopw [12] (fun qv wx => ∃ (qn k' : Nat) (b' : Bool) (M' : List Ver) (t n : Int), qn ≤ mn ∧ qv = .int .i64 qn ∧ Hid (GS (w.alloc (.cells #[.slice a len cap, .int .i64 0, .bool false] 82)) wx (w1.heap.size + 2) w.heap.size w1.heap.size (w1.heap.size + 1) a cap zs k' b' M' kk (fun j => (noFoot j ∨ j = w2.heap.size) ∨ j = u7.heap.size) ∧ KeyMine wx w2.heap.size 0 kk ∧ StM wx u7.heap.size t n) ∧ Hid (getS zs = resV M' kk (mn - qn) (pvV qn t n) R (stR zs k' b')) ∧ Hid (M'.length ≤ 50 * i + qn)) (fun qv _ => mn - (intOf qv).toNat)
          case atStart => exact ⟨0, k4, b4, M, 0, 0, Nat.zero_le _, rfl, G8, HGV, HML.out⟩
          case round =>
            obtain ⟨qn, k', b', M', t, n, hqn, rfl, HI, HIV, HIM⟩ := hrel
            clear G8 HGV
            have hq0 : (0 : Int) ≤ (qn : Int) := by omega
            have c2 := HI.out.1.rd.c2
            by_cases hex : qn = mn ∨ b' = true
            · have HNX : Hid (getS zs = resK M' (N - (i + 1)) (pvK (i + 1) kk) (stR zs k' b')) := by
                show _ = _
                have h1 := HIV.out
                rw [HRN.out, show pvK (i + 1) kk = some kk from if_neg (by omega)]
                rcases hex with rfl | rfl
                · rw [Nat.sub_self, resV_end] at h1
                  exact h1
                · rw [h1]; rfl
              have HIG : Hid (GS (w.alloc (.cells #[.slice a len cap, .int .i64 0, .bool false] 82)) wr (w1.heap.size + 2) w.heap.size w1.heap.size (w1.heap.size + 1) a cap zs k' b' M' kk noFoot) := HI.out.1.less (fun j hj => hj.elim)
              have HIL : Hid (M'.length ≤ 50 * (i + 1)) := by have := HIM.out; show _ ≤ _; omega
              by_cases hqm : qn = mn
              · subst hqm
                clear HI HIV HIM hex
                go_wp2
                go_roundw
                case rel => exact ⟨i + 1, k', b', M', kk, by omega, by go_num, HIG, HNX, HIL⟩
                case measure => simp [intOf]; omega
              · obtain rfl : b' = true := hex.resolve_left hqm
                have bq : (qn : Int) < (mn : Int) := by omega
                clear HI HIV HIM hex
                go_wp2
                go_roundw
                case rel => exact ⟨i + 1, k', true, M', kk, by omega, by go_num, HIG, HNX, HIL⟩
                case measure => simp [intOf]; omega
            · have hlt2 : qn < mn := by omega
              obtain rfl : b' = false := by cases b' with
                | false => rfl
                | true => exact absurd (Or.inr rfl) hex
              have bq : (qn : Int) < (mn : Int) := by omega
              obtain ⟨Q, hQ⟩ : ∃ Q, mn - qn = Q + 1 := ⟨mn - qn - 1, by omega⟩
              have HQN : Hid (mn - (qn + 1) = Q) := by show _ = _; omega
              have HI1 : Hid (getS zs = resV M' kk (Q + 1) (pvV qn t n) R (stR zs k' false)) := by
                have := HIV.out
                rw [hQ] at this
                exact this
              obtain ⟨GG, hGG⟩ : ∃ GG : Foot, GG = fun j => j = w.heap.size := ⟨_, rfl⟩
              have HGS : Hid (∀ u u', Chg u u' (fun j => j = w.heap.size) → Chg u u' GG) := fun u u' h => by rw [hGG]; exact h
              have HGT : Hid (∀ u u', Chg u u' GG → Chg u u' (fun j => j = w.heap.size)) := fun u u' h => by rw [hGG] at h; exact h
              have HGW : Hid (w.heap.size < w1.heap.size) := HG0.out
              have FK : Hid (∀ u, Chg wr u GG → KeyAt u w2.heap.size 0 kk) := fun u hu => (HI.out.2.1.kept ((HGT.out _ _ hu).block _ (HI.out.1.far _ (.inl (.inr rfl))).2 (by have := (HI.out.1.far _ (.inl (.inr rfl))).1; have := HGW.out; omega))).lies
              have HR3 : Hid (Rd wr.drew w.heap.size a cap zs k' false) := HI.out.1.rd.drew
              have HV9 : Hid (∀ y vb k6 b6 (V : Ver) u, Rd y w.heap.size a cap zs k6 b6 → Chg wr y (fun j => j = w.heap.size) → VerMine y vb 0 zeroV → wr.heap.size ≤ vb → Ky V.k → u = y.setCells vb 0 (encV V) → GS (w.alloc (.cells #[.slice a len cap, .int .i64 0, .bool false] 82)) u (w1.heap.size + 2) w.heap.size w1.heap.size (w1.heap.size + 1) a cap zs k6 b6 M' kk (fun j => ((noFoot j ∨ j = w2.heap.size) ∨ j = u7.heap.size) ∨ j = vb) ∧ KeyMine u w2.heap.size 0 kk ∧ StM u u7.heap.size t n ∧ VerMine u vb 0 V) := fun y vb k6 b6 V u R6 C6 hm hvb hk hu => by
                have hlt : vb < y.heap.size := hm.at_.lt hm.key
                have cu := chg_cells vb (encV V) 0 y
                have g2 := (HI.out.1.add C6 R6 hvb hlt).box (cu.mono (fun j _ e => .inr e))
                have f1 := HI.out.1.far _ (.inl (.inr rfl))
                have f2 := HI.out.1.far _ (.inr rfl)
                have sz := C6.size
                have hgw := HGW.out
                have kb : ∀ j, j < wr.heap.size → j ≠ w.heap.size → u.heap[j]? = wr.heap[j]? := fun j h1 h2 => by
                  rw [hu, cu.block j (by omega) (by omega)]
                  exact C6.block j h1 h2
                rw [hu] at kb ⊢
                exact ⟨g2, HI.out.2.1.kept (kb _ f1.2 (by omega)), HI.out.2.2.kept (kb _ f2.2 (by omega)), hm.store hk⟩
              have HLT : Hid (∀ vb, wr.heap.size ≤ vb → w2.heap.size ≠ vb ∧ u7.heap.size ≠ vb) := fun vb h => by
                have f1 := HI.out.1.far _ (.inl (.inr rfl))
                have f2 := HI.out.1.far _ (.inr rfl)
                exact ⟨by omega, by omega⟩
              have HIM1 : Hid (M'.length ≤ 50 * i + qn) := HIM.out
              have HGB : Hid (∀ u, GS (w.alloc (.cells #[.slice a len cap, .int .i64 0, .bool false] 82)) u (w1.heap.size + 2) w.heap.size w1.heap.size (w1.heap.size + 1) a cap zs k' false M' kk (fun j => (noFoot j ∨ j = w2.heap.size) ∨ j = u7.heap.size) → True) := fun _ _ => trivial
              clear hex HIV hQ hGG HIM HGB
              go_upto_region 17 with (fail)
              go_cut [13] from 57 to 103 (fun pv wx => ∃ (vb k6 : Nat) (b6 : Bool) (t5 n5 : Int) (gg : Bool), pv = .pointer (some ⟨vb, 0, none⟩) ∧ Hid (GS (w.alloc (.cells #[.slice a len cap, .int .i64 0, .bool false] 82)) wx (w1.heap.size + 2) w.heap.size w1.heap.size (w1.heap.size + 1) a cap zs k6 b6 M' kk (fun j => ((noFoot j ∨ j = w2.heap.size) ∨ j = u7.heap.size) ∨ j = vb) ∧ KeyMine wx w2.heap.size 0 kk ∧ StM wx u7.heap.size t n ∧ VerMine wx vb 0 ⟨kk, t5, n5, [], gg⟩) ∧ Hid ((okS t5 ∧ 0 ≤ n5 ∧ n5 ≤ 255) ∧ ∃ o1, Rds stampP (stR zs k' false) o1 (t5, n5) ∧ Rds boolP o1 (stR zs k6 b6) gg) ∧ Hid (w2.heap.size ≠ vb ∧ u7.heap.size ≠ vb))
              case first =>
                refine wp_region_noPanic ?_
                refine region_till 7 (fun u => Chg wr u GG) (by kernel_rfl) ?_ (fun hHeld => ?_)
                · exact (Chg.refl _ _).drew
                refine till_take (i := 0) (v := kv kk) 0 (by kernel_rfl) (Or.inl rfl) (by kernel_rfl) rfl (by kernel_rfl) (by kernel_rfl) (by kernel_rfl) (fun _ _ _ h => h) (yieldsIf_load_mid (by rfl) _ _ rfl _ _ rfl (kk.map (Value.int .u8)) _ (fun u hu => (FK.out u hu).range KK.out) Tryz.underlying57 rfl (info_keyl kk KK.out)) hHeld ?_
                change wpTill _ _ _ _ _ _ _ _ (Act.put _ (some 69) _) _
                simp only [Act.put, List.setIfInBounds_toArray, List.set_cons_zero, List.set_cons_succ]
                refine till_take (i := 1) (v := ?_) 1 (by kernel_rfl) (Or.inl rfl) (by kernel_rfl) rfl (by kernel_rfl) (by kernel_rfl) (by kernel_rfl) (fun _ _ _ h => h) (Or.inl ⟨by rfl, ?_⟩) hHeld ?_
                rotate_left
                · intro u hSu
                  (go_simp) <;> (with_reducible rfl)
                change wpTill _ _ _ _ _ _ _ _ (Act.put _ (some 70) _) _
                simp only [Act.put, List.setIfInBounds_toArray, List.set_cons_zero, List.set_cons_succ]
                refine till_take (i := 3) (v := ?_) 3 (by kernel_rfl) (Or.inl rfl) (by kernel_rfl) rfl (by kernel_rfl) (by kernel_rfl) (by kernel_rfl) (fun _ _ _ h => h) (Or.inl ⟨by rfl, ?_⟩) hHeld ?_
                rotate_left
                · intro u hSu
                  (go_simp) <;> (with_reducible rfl)
                change wpTill _ _ _ _ _ _ _ _ (Act.put _ (some 72) _) _
                simp only [Act.put, List.setIfInBounds_toArray, List.set_cons_zero, List.set_cons_succ]
                refine till_ready (rs := [2, 6]) (by kernel_rfl) (by simp) ?_
                refine AllTill.cons rfl (fun K hK => ?_) ?_
                · go_simp
                  go_at_call 39
                  refine (rstamp14_any _ a cap zs k' false _ (HR3.out)).mono ?_
                  rintro e y1 ⟨t5, n5, rfl, ok5, nl5, nh5, ⟨k5, b5, R5, C5, D5⟩⟩
                  have P1 : Hid (Chg wr y1 (fun j => j = w.heap.size) ∧ Rd y1 w.heap.size a cap zs k5 b5) := ⟨⟨C5.os, C5.tape, C5.output, C5.size, C5.block⟩, R5⟩
                  have HD5 : Hid ((okS t5 ∧ 0 ≤ n5 ∧ n5 ≤ 255) ∧ Rds stampP (stR zs k' false) (stR zs k5 b5) (t5, n5)) := ⟨⟨ok5, nl5, nh5⟩, D5⟩
                  clear R5 C5 D5
                  refine hK.out _ _ ?_ (fun hHeld2 => ?_)
                  · exact HGS.out _ _ P1.out.1
                  clear hK K hHeld
                  have hHeld := hHeld2
                  clear hHeld2
                  refine till_ready (rs := [4, 6]) (by kernel_rfl) (by simp) ?_
                  refine AllTill.cons rfl (fun K hK => ?_) ?_
                  · go_simp
                    go_at_call 40
                    refine (rbool14_any _ a cap zs k5 b5 _ (P1.out.2)).mono ?_
                    rintro e y2 ⟨gg, k6, b6, rfl, R6, C6, D6⟩
                    have P2 : Hid (Chg wr y2 (fun j => j = w.heap.size) ∧ Rd y2 w.heap.size a cap zs k6 b6) := ⟨P1.out.1.trans C6 (fun _ _ x => x), R6⟩
                    have HD6 : Hid (Rds boolP (stR zs k5 b5) (stR zs k6 b6) gg) := D6
                    clear R6 C6 D6
                    refine hK.out _ _ ?_ (fun hHeld2 => ?_)
                    · exact HGS.out _ _ P2.out.1
                    clear hK K hHeld
                    have hHeld := hHeld2
                    clear hHeld2
                    refine till_take (i := 5) (v := vv ⟨kk, t5, n5, [], gg⟩) 5 (by kernel_rfl) (Or.inl rfl) (by kernel_rfl) rfl (by kernel_rfl) (by kernel_rfl) (by kernel_rfl) (fun _ _ _ h => h) (yieldsIf_build_v3 (by rfl) (.tmp 69) (.tmp 71) (.tmp 73) rfl kk t5 n5 gg KK.out rfl rfl rfl) hHeld ?_
                    change wpTill _ _ _ _ _ _ _ _ (Act.put _ (some 74) _) _
                    simp only [Act.put, List.setIfInBounds_toArray, List.set_cons_zero, List.set_cons_succ]
                    refine till_ready (rs := [6]) (by kernel_rfl) (by simp) ?_
                    refine AllTill.cons rfl (fun K hK => ?_) AllTill.nil
                    go_simp
                    refine hK.out _ _ ?_ (fun hHeld2 => ?_)
                    · exact hHeld.alloc _
                    clear hK K hHeld
                    have hHeld := hHeld2
                    clear hHeld2
                    refine till_last (by kernel_rfl) (by kernel_rfl) rfl (fun K hK => ?_)
                    refine step_store_ver rfl (.tmp 13) (.tmp 74) rfl (y2.heap.size) 0 zeroV ⟨kk, t5, n5, [], gg⟩ rfl rfl KK.out (mk_ver y2) ?_
                    intro u8 hu8
                    have G9 := HV9.out (y2.alloc (.cells #[.int .u8 0, .int .u8 0, .int .u8 0, .int .u8 0, .int .u8 0, .int .u8 0, .int .u8 0, .int .u8 0, .int .u8 0, .int .u8 0, .int .u8 0, .int .u8 0, .int .u8 0, .int .u8 0, .int .u8 0, .int .u8 0, .int .i64 0, .int .u8 0, .string ⟨#[]⟩, .bool false] 67)) (y2.heap.size) k6 b6 _ u8 (P2.out.2.past ((Below.refl _ _).alloc (Nat.le_refl _) _)) (P2.out.1.alloc _) (mk_ver y2) (P2.out.1.size) KK.out hu8
                    have G9H : Hid _ := G9
                    clear G9 hu8
                    refine hK.out _ _ ?_
                    refine NoPanic.normal ?_
                    clear hK K hHeld
                    go_wp2_with fail
                    go_meet
                    case rel => exact ⟨_, k6, b6, t5, n5, gg, rfl, G9H, ⟨HD5.out.1, _, HD5.out.2, HD6.out⟩, HLT.out _ (P2.out.1.size)⟩
                  refine AllTill.cons rfl (fun K hK => ?_) AllTill.nil
                  go_simp
                  refine hK.out _ _ ?_ (fun hHeld2 => ?_)
                  · exact hHeld.alloc _
                  clear hK K hHeld
                  have hHeld := hHeld2
                  clear hHeld2
                  refine till_ready (rs := [4]) (by kernel_rfl) (by simp) ?_
                  refine AllTill.cons rfl (fun K hK => ?_) AllTill.nil
                  go_simp
                  go_at_call 40
                  refine (rbool14_any _ a cap zs k5 b5 _ (P1.out.2.past ((Below.refl _ _).alloc (Nat.le_refl _) _))).mono ?_
                  rintro e y2 ⟨gg, k6, b6, rfl, R6, C6, D6⟩
                  have P2 : Hid (Chg wr y2 (fun j => j = w.heap.size) ∧ Rd y2 w.heap.size a cap zs k6 b6) := ⟨(P1.out.1.alloc _).trans C6 (fun _ _ x => x), R6⟩
                  have HD6 : Hid (Rds boolP (stR zs k5 b5) (stR zs k6 b6) gg) := D6
                  have MV : Hid (VerMine y2 y1.heap.size 0 zeroV) := (mk_ver y1).kept (C6.block _ (by simp) (by have := P1.out.1.size; have := HI.out.1.hg; have := HI.out.1.chg.size; omega))
                  clear R6 C6 D6
                  refine hK.out _ _ ?_ (fun hHeld2 => ?_)
                  · exact HGS.out _ _ P2.out.1
                  clear hK K hHeld
                  have hHeld := hHeld2
                  clear hHeld2
                  refine till_take (i := 5) (v := vv ⟨kk, t5, n5, [], gg⟩) 5 (by kernel_rfl) (Or.inl rfl) (by kernel_rfl) rfl (by kernel_rfl) (by kernel_rfl) (by kernel_rfl) (fun _ _ _ h => h) (yieldsIf_build_v3 (by rfl) (.tmp 69) (.tmp 71) (.tmp 73) rfl kk t5 n5 gg KK.out rfl rfl rfl) hHeld ?_
                  change wpTill _ _ _ _ _ _ _ _ (Act.put _ (some 74) _) _
                  simp only [Act.put, List.setIfInBounds_toArray, List.set_cons_zero, List.set_cons_succ]
                  refine till_last (by kernel_rfl) (by kernel_rfl) rfl (fun K hK => ?_)
                  refine step_store_ver rfl (.tmp 13) (.tmp 74) rfl (y1.heap.size) 0 zeroV ⟨kk, t5, n5, [], gg⟩ rfl rfl KK.out (MV.out) ?_
                  intro u8 hu8
                  have G9 := HV9.out (y2) (y1.heap.size) k6 b6 _ u8 (P2.out.2) (P2.out.1) (MV.out) (P1.out.1.size) KK.out hu8
                  have G9H : Hid _ := G9
                  clear G9 hu8
                  refine hK.out _ _ ?_
                  refine NoPanic.normal ?_
                  clear hK K hHeld
                  go_wp2_with fail
                  go_meet
                  case rel => exact ⟨_, k6, b6, t5, n5, gg, rfl, G9H, ⟨HD5.out.1, _, HD5.out.2, HD6.out⟩, HLT.out _ (P1.out.1.size)⟩
                refine AllTill.cons rfl (fun K hK => ?_) AllTill.nil
                go_simp
                refine hK.out _ _ ?_ (fun hHeld2 => ?_)
                · exact hHeld.alloc _
                clear hK K hHeld
                have hHeld := hHeld2
                clear hHeld2
                refine till_ready (rs := [2]) (by kernel_rfl) (by simp) ?_
                refine AllTill.cons rfl (fun K hK => ?_) AllTill.nil
                go_simp
                go_at_call 39
                refine (rstamp14_any _ a cap zs k' false _ (HR3.out.past ((Below.refl _ _).alloc (Nat.le_refl _) _))).mono ?_
                rintro e y1 ⟨t5, n5, rfl, ok5, nl5, nh5, ⟨k5, b5, R5, C5, D5⟩⟩
                have P1 : Hid (Chg wr y1 (fun j => j = w.heap.size) ∧ Rd y1 w.heap.size a cap zs k5 b5) := ⟨(Chg.of_below ((Below.refl _ _).drew.alloc (Nat.le_refl _) _) _).trans C5 (fun _ _ x => x), R5⟩
                have HD5 : Hid ((okS t5 ∧ 0 ≤ n5 ∧ n5 ≤ 255) ∧ Rds stampP (stR zs k' false) (stR zs k5 b5) (t5, n5)) := ⟨⟨ok5, nl5, nh5⟩, D5⟩
                have MV1 : Hid (VerMine y1 wr.heap.size 0 zeroV) := (mk_ver wr.drew).kept (C5.block _ (by simp) (by have := HI.out.1.hg; have := HI.out.1.chg.size; simp; omega))
                clear R5 C5 D5
                refine hK.out _ _ ?_ (fun hHeld2 => ?_)
                · exact HGS.out _ _ P1.out.1
                clear hK K hHeld
                have hHeld := hHeld2
                clear hHeld2
                refine till_ready (rs := [4]) (by kernel_rfl) (by simp) ?_
                refine AllTill.cons rfl (fun K hK => ?_) AllTill.nil
                go_simp
                go_at_call 40
                refine (rbool14_any _ a cap zs k5 b5 _ (P1.out.2)).mono ?_
                rintro e y2 ⟨gg, k6, b6, rfl, R6, C6, D6⟩
                have P2 : Hid (Chg wr y2 (fun j => j = w.heap.size) ∧ Rd y2 w.heap.size a cap zs k6 b6) := ⟨P1.out.1.trans C6 (fun _ _ x => x), R6⟩
                have HD6 : Hid (Rds boolP (stR zs k5 b5) (stR zs k6 b6) gg) := D6
                have MV : Hid (VerMine y2 wr.heap.size 0 zeroV) := MV1.out.kept (C6.block _ (MV1.out.at_.lt MV1.out.key) (by have := HI.out.1.hg; have := HI.out.1.chg.size; omega))
                clear R6 C6 D6
                refine hK.out _ _ ?_ (fun hHeld2 => ?_)
                · exact HGS.out _ _ P2.out.1
                clear hK K hHeld
                have hHeld := hHeld2
                clear hHeld2
                refine till_take (i := 5) (v := vv ⟨kk, t5, n5, [], gg⟩) 5 (by kernel_rfl) (Or.inl rfl) (by kernel_rfl) rfl (by kernel_rfl) (by kernel_rfl) (by kernel_rfl) (fun _ _ _ h => h) (yieldsIf_build_v3 (by rfl) (.tmp 69) (.tmp 71) (.tmp 73) rfl kk t5 n5 gg KK.out rfl rfl rfl) hHeld ?_
                change wpTill _ _ _ _ _ _ _ _ (Act.put _ (some 74) _) _
                simp only [Act.put, List.setIfInBounds_toArray, List.set_cons_zero, List.set_cons_succ]
                refine till_last (by kernel_rfl) (by kernel_rfl) rfl (fun K hK => ?_)
                refine step_store_ver rfl (.tmp 13) (.tmp 74) rfl (wr.heap.size) 0 zeroV ⟨kk, t5, n5, [], gg⟩ rfl rfl KK.out (MV.out) ?_
                intro u8 hu8
                have G9 := HV9.out (y2) (wr.heap.size) k6 b6 _ u8 (P2.out.2) (P2.out.1) (MV.out) (Nat.le_refl _) KK.out hu8
                have G9H : Hid _ := G9
                clear G9 hu8
                refine hK.out _ _ ?_
                refine NoPanic.normal ?_
                clear hK K hHeld
                go_wp2_with fail
                go_meet
                case rel => exact ⟨_, k6, b6, t5, n5, gg, rfl, G9H, ⟨HD5.out.1, _, HD5.out.2, HD6.out⟩, HLT.out _ (Nat.le_refl _)⟩
              case rest =>
                obtain ⟨vb, k6, b6, t5, n5, gg, rfl, G9, HDS, HNE⟩ := hcut
                clear HV9 HR3 FK HGS HGT
                obtain ⟨_, _, z18, _⟩ := G9.out.2.2.2.at_.cells KK.out
                have f18 := G9.out.2.2.2.free 18 (by omega)
                go_upto_region 19 with (first
                  | (have hgo := G9.out; clear hgo; go_at_call 41; refine (rtext14_any _ a cap zs k6 b6 _ G9.out.1.rd).mono ?_; rintro e y4 ⟨lv, k7, b7, rfl, lb1, lb2, R7, C7, D7⟩; have bl7 : ∀ j, (fun j => ((noFoot j ∨ j = w2.heap.size) ∨ j = u7.heap.size) ∨ j = vb) j → y4.heap[j]? = wc.heap[j]? := (fun j hj => C7.block j (G9.out.1.far j hj).2 (by have := (G9.out.1.far j hj).1; have := HGW.out; omega)); have G10 : Hid (GS (w.alloc (.cells #[.slice a len cap, .int .i64 0, .bool false] 82)) y4 (w1.heap.size + 2) w.heap.size w1.heap.size (w1.heap.size + 1) a cap zs k7 b7 M' kk (fun j => ((noFoot j ∨ j = w2.heap.size) ∨ j = u7.heap.size) ∨ j = vb) ∧ KeyMine y4 w2.heap.size 0 kk ∧ StM y4 u7.heap.size t n ∧ VerMine y4 vb 0 ⟨kk, t5, n5, [], gg⟩) := ⟨G9.out.1.turn C7 R7, G9.out.2.1.kept (bl7 _ (.inl (.inl (.inr rfl)))), G9.out.2.2.1.kept (bl7 _ (.inl (.inr rfl))), G9.out.2.2.2.kept (bl7 _ (.inr rfl))⟩; have HD7 : Hid (Rds textP (stR zs k6 b6) (stR zs k7 b7) lv ∧ (∀ z ∈ lv, 0 ≤ z ∧ z ≤ 255) ∧ lv.length ≤ zs.length) := ⟨D7, lb1, lb2⟩; clear z18 f18; obtain ⟨_, _, z18, _⟩ := G10.out.2.2.2.at_.cells KK.out; have f18 := G10.out.2.2.2.free 18 (by omega); clear R7 C7 D7 lb1 lb2 bl7 G9))
                obtain ⟨y5, hy5⟩ : ∃ y5, y5 = y4.setCell ⟨vb, 18, none⟩ (.string (strOfNums lv)) := ⟨_, rfl⟩
                rw [← hy5]
                have HBA : Hid (w2.heap.size ≠ vb ∧ u7.heap.size ≠ vb) := HNE.out
                have G11 : Hid (GS (w.alloc (.cells #[.slice a len cap, .int .i64 0, .bool false] 82)) y5 (w1.heap.size + 2) w.heap.size w1.heap.size (w1.heap.size + 1) a cap zs k7 b7 M' kk (fun j => ((noFoot j ∨ j = w2.heap.size) ∨ j = u7.heap.size) ∨ j = vb) ∧ KeyMine y5 w2.heap.size 0 kk ∧ StM y5 u7.heap.size t n ∧ VerMine y5 vb 0 ⟨kk, t5, n5, lv, gg⟩) := by
                  have cs := Chg.set (X := fun j => j = vb) y4 ⟨vb, 18, none⟩ (.string (strOfNums lv)) rfl
                  have g1 := G10.out.1.far _ (.inl (.inl (.inr rfl)))
                  have g2 := G10.out.1.far _ (.inl (.inr rfl))
                  rw [hy5]
                  exact ⟨G10.out.1.box (cs.mono (fun j _ e => .inr e)), G10.out.2.1.kept (cs.block _ g1.2 HBA.out.1), G10.out.2.2.1.kept (cs.block _ g2.2 HBA.out.2), G10.out.2.2.2.text⟩
                obtain ⟨mv, hmv⟩ : ∃ mv, mv = mayV ⟨kk, t5, n5, lv, gg⟩ := ⟨_, rfl⟩
                obtain ⟨cs, hcs⟩ : ∃ cs, cs = cmpS t5 n5 t n := ⟨_, rfl⟩
                obtain ⟨db, hdb⟩ : ∃ db, db = !mayVer (pvV qn t n) ⟨kk, t5, n5, lv, gg⟩ := ⟨_, rfl⟩
                have HDB : Hid (db = !(mv && (decide (qn = 0) || decide (0 < cs)))) := by show _ = _; rw [hdb, hmv, hcs, mayVer_is]
                have HDM : Hid (db = !mayVer (pvV qn t n) ⟨kk, t5, n5, lv, gg⟩) := hdb
                have HMV : Hid (mv = mayV ⟨kk, t5, n5, lv, gg⟩) := hmv
                have HVO : Hid (VerOk ⟨kk, t5, n5, lv, gg⟩) := ⟨KK.out, by have := HDS.out.1.1.1; show -9223372036854775808 ≤ t5; omega, by have := HDS.out.1.1.2; show t5 ≤ 9223372036854775807; omega, HDS.out.1.2.1, HDS.out.1.2.2, HD7.out.2.1, by have := HD7.out.2.2; have := HZL.out; show lv.length ≤ 1000000; omega⟩
                have CMV : Hid (∀ u, Calls Tryz.prog 42 #[vv ⟨kk, t5, n5, lv, gg⟩] u fun e w' => e = .returned (.bool mv) ∧ Below u.heap.size u w') := fun u => by rw [hmv]; exact rmayv_any _ HVO.out u
                have CCS : Hid (∀ u, Calls Tryz.prog 43 #[.agg #[.int .i64 t5, .int .u8 n5], .agg #[.int .i64 t, .int .u8 n]] u fun e w' => e = .returned (.int .i64 cs) ∧ Below u.heap.size u w') := fun u => by rw [hcs]; exact rcmp6_any t5 n5 t n u
                have HPS : Hid (∀ u u', Below u.heap.size u u' → (GS (w.alloc (.cells #[.slice a len cap, .int .i64 0, .bool false] 82)) u (w1.heap.size + 2) w.heap.size w1.heap.size (w1.heap.size + 1) a cap zs k7 b7 M' kk (fun j => ((noFoot j ∨ j = w2.heap.size) ∨ j = u7.heap.size) ∨ j = vb) ∧ KeyMine u w2.heap.size 0 kk ∧ StM u u7.heap.size t n ∧ VerMine u vb 0 ⟨kk, t5, n5, lv, gg⟩) → (GS (w.alloc (.cells #[.slice a len cap, .int .i64 0, .bool false] 82)) u' (w1.heap.size + 2) w.heap.size w1.heap.size (w1.heap.size + 1) a cap zs k7 b7 M' kk (fun j => ((noFoot j ∨ j = w2.heap.size) ∨ j = u7.heap.size) ∨ j = vb) ∧ KeyMine u' w2.heap.size 0 kk ∧ StM u' u7.heap.size t n ∧ VerMine u' vb 0 ⟨kk, t5, n5, lv, gg⟩)) := fun u u' hb h => ⟨h.1.past hb, h.2.1.kept (hb.block _ (h.1.far _ (.inl (.inl (.inr rfl)))).2), h.2.2.1.kept (hb.block _ (h.1.far _ (.inl (.inr rfl))).2), h.2.2.2.kept (hb.block _ (h.1.far _ (.inr rfl)).2)⟩
                clear hy5 hmv hcs hdb z18 f18 G10
                go_cut [91] from 57 to 103 (fun dv wx => dv = .bool db ∧ Hid (GS (w.alloc (.cells #[.slice a len cap, .int .i64 0, .bool false] 82)) wx (w1.heap.size + 2) w.heap.size w1.heap.size (w1.heap.size + 1) a cap zs k7 b7 M' kk (fun j => ((noFoot j ∨ j = w2.heap.size) ∨ j = u7.heap.size) ∨ j = vb) ∧ KeyMine wx w2.heap.size 0 kk ∧ StM wx u7.heap.size t n ∧ VerMine wx vb 0 ⟨kk, t5, n5, lv, gg⟩))
                case first =>
                  cases mv with
                  | false =>
                    go_wp2_with (first | (have hgo := G11.out; clear hgo; (with_reducible show wpList _ _ _ (Oper.mk (some 78) _ _ _ _ _ :: _) _ _); refine wpList_load_ver 78 (by rfl) (by rfl) _ (by rfl) vb 0 (by rfl) ⟨kk, t5, n5, lv, gg⟩ KK.out G11.out.2.2.2.at_ ?_) | (have hgo := G11.out; clear hgo; go_at_call 42; refine (CMV.out _).mono ?_; rintro e w8 ⟨rfl, hb⟩; have G12 : Hid (GS (w.alloc (.cells #[.slice a len cap, .int .i64 0, .bool false] 82)) w8 (w1.heap.size + 2) w.heap.size w1.heap.size (w1.heap.size + 1) a cap zs k7 b7 M' kk (fun j => ((noFoot j ∨ j = w2.heap.size) ∨ j = u7.heap.size) ∨ j = vb) ∧ KeyMine w8 w2.heap.size 0 kk ∧ StM w8 u7.heap.size t n ∧ VerMine w8 vb 0 ⟨kk, t5, n5, lv, gg⟩) := HPS.out _ _ hb G11.out; obtain ⟨z16, z17, z18, z19⟩ := G12.out.2.2.2.at_.cells KK.out; have s0 := G12.out.2.2.1.c0; have s1 := G12.out.2.2.1.c1; clear hb G11))
                    go_meet
                    case rel => exact ⟨by rw [HDB.out]; rfl, G12⟩
                  | true =>
                    by_cases hq1 : qn = 0
                    · subst hq1
                      go_wp2_with (first | (have hgo := G11.out; clear hgo; (with_reducible show wpList _ _ _ (Oper.mk (some 78) _ _ _ _ _ :: _) _ _); refine wpList_load_ver 78 (by rfl) (by rfl) _ (by rfl) vb 0 (by rfl) ⟨kk, t5, n5, lv, gg⟩ KK.out G11.out.2.2.2.at_ ?_) | (have hgo := G11.out; clear hgo; go_at_call 42; refine (CMV.out _).mono ?_; rintro e w8 ⟨rfl, hb⟩; have G12 : Hid (GS (w.alloc (.cells #[.slice a len cap, .int .i64 0, .bool false] 82)) w8 (w1.heap.size + 2) w.heap.size w1.heap.size (w1.heap.size + 1) a cap zs k7 b7 M' kk (fun j => ((noFoot j ∨ j = w2.heap.size) ∨ j = u7.heap.size) ∨ j = vb) ∧ KeyMine w8 w2.heap.size 0 kk ∧ StM w8 u7.heap.size t n ∧ VerMine w8 vb 0 ⟨kk, t5, n5, lv, gg⟩) := HPS.out _ _ hb G11.out; obtain ⟨z16, z17, z18, z19⟩ := G12.out.2.2.2.at_.cells KK.out; have s0 := G12.out.2.2.1.c0; have s1 := G12.out.2.2.1.c1; clear hb G11))
                      go_meet
                      case rel => exact ⟨by rw [HDB.out]; simp, G12⟩
                    · have bq1 : (0 : Int) < (qn : Int) := by omega
                      have bq2 : 0 < qn := by omega
                      by_cases hc0 : cs ≤ 0
                      · go_wp2_with (first | (have hgo := G12.out; clear hgo; go_at_call 43; refine (CCS.out _).mono ?_; rintro e w9 ⟨rfl, hb⟩; have G13 : Hid (GS (w.alloc (.cells #[.slice a len cap, .int .i64 0, .bool false] 82)) w9 (w1.heap.size + 2) w.heap.size w1.heap.size (w1.heap.size + 1) a cap zs k7 b7 M' kk (fun j => ((noFoot j ∨ j = w2.heap.size) ∨ j = u7.heap.size) ∨ j = vb) ∧ KeyMine w9 w2.heap.size 0 kk ∧ StM w9 u7.heap.size t n ∧ VerMine w9 vb 0 ⟨kk, t5, n5, lv, gg⟩) := HPS.out _ _ hb G12.out; clear hb G12) | (have hgo := G11.out; clear hgo; (with_reducible show wpList _ _ _ (Oper.mk (some 78) _ _ _ _ _ :: _) _ _); refine wpList_load_ver 78 (by rfl) (by rfl) _ (by rfl) vb 0 (by rfl) ⟨kk, t5, n5, lv, gg⟩ KK.out G11.out.2.2.2.at_ ?_) | (have hgo := G11.out; clear hgo; go_at_call 42; refine (CMV.out _).mono ?_; rintro e w8 ⟨rfl, hb⟩; have G12 : Hid (GS (w.alloc (.cells #[.slice a len cap, .int .i64 0, .bool false] 82)) w8 (w1.heap.size + 2) w.heap.size w1.heap.size (w1.heap.size + 1) a cap zs k7 b7 M' kk (fun j => ((noFoot j ∨ j = w2.heap.size) ∨ j = u7.heap.size) ∨ j = vb) ∧ KeyMine w8 w2.heap.size 0 kk ∧ StM w8 u7.heap.size t n ∧ VerMine w8 vb 0 ⟨kk, t5, n5, lv, gg⟩) := HPS.out _ _ hb G11.out; obtain ⟨z16, z17, z18, z19⟩ := G12.out.2.2.2.at_.cells KK.out; have s0 := G12.out.2.2.1.c0; have s1 := G12.out.2.2.1.c1; clear hb G11))
                        go_meet
                        case rel => exact ⟨by rw [HDB.out, decide_eq_false (p := qn = 0) hq1, decide_eq_false (p := 0 < cs) (by omega)]; rfl, G13⟩
                      · go_wp2_with (first | (have hgo := G12.out; clear hgo; go_at_call 43; refine (CCS.out _).mono ?_; rintro e w9 ⟨rfl, hb⟩; have G13 : Hid (GS (w.alloc (.cells #[.slice a len cap, .int .i64 0, .bool false] 82)) w9 (w1.heap.size + 2) w.heap.size w1.heap.size (w1.heap.size + 1) a cap zs k7 b7 M' kk (fun j => ((noFoot j ∨ j = w2.heap.size) ∨ j = u7.heap.size) ∨ j = vb) ∧ KeyMine w9 w2.heap.size 0 kk ∧ StM w9 u7.heap.size t n ∧ VerMine w9 vb 0 ⟨kk, t5, n5, lv, gg⟩) := HPS.out _ _ hb G12.out; clear hb G12) | (have hgo := G11.out; clear hgo; (with_reducible show wpList _ _ _ (Oper.mk (some 78) _ _ _ _ _ :: _) _ _); refine wpList_load_ver 78 (by rfl) (by rfl) _ (by rfl) vb 0 (by rfl) ⟨kk, t5, n5, lv, gg⟩ KK.out G11.out.2.2.2.at_ ?_) | (have hgo := G11.out; clear hgo; go_at_call 42; refine (CMV.out _).mono ?_; rintro e w8 ⟨rfl, hb⟩; have G12 : Hid (GS (w.alloc (.cells #[.slice a len cap, .int .i64 0, .bool false] 82)) w8 (w1.heap.size + 2) w.heap.size w1.heap.size (w1.heap.size + 1) a cap zs k7 b7 M' kk (fun j => ((noFoot j ∨ j = w2.heap.size) ∨ j = u7.heap.size) ∨ j = vb) ∧ KeyMine w8 w2.heap.size 0 kk ∧ StM w8 u7.heap.size t n ∧ VerMine w8 vb 0 ⟨kk, t5, n5, lv, gg⟩) := HPS.out _ _ hb G11.out; obtain ⟨z16, z17, z18, z19⟩ := G12.out.2.2.2.at_.cells KK.out; have s0 := G12.out.2.2.1.c0; have s1 := G12.out.2.2.1.c1; clear hb G11))
                        go_meet
                        case rel => exact ⟨by rw [HDB.out]; simp [hq1, show 0 < cs by omega]; try omega, G13⟩
                case rest =>
                  obtain ⟨rfl, HE⟩ := hcut
                  obtain ⟨o1, HS1, HS2⟩ := HDS.out.2
                  clear G11 CMV CCS HPS HDB
                  cases db with
                  | true =>
                    have HNO : Hid (getS zs = none) := by
                      show _ = _
                      rw [HI1.out]
                      exact resV_bad ((verP_rds (k := kk) HS1 HS2 HD7.out.1).2 (of_nt HDM.out.symm))
                    clear HS1 HS2
                    go_wp2
                    go_returns
                    exact ⟨.inr ⟨HNO.out, rfl⟩, HBW.out _ HE.out.1.chg⟩
                  | false =>
                    have HV2 : Hid (getS zs = resV (M' ++ [⟨kk, t5, n5, lv, gg⟩]) kk Q (some (t5, n5)) R (stR zs k7 b7)) := by
                      show _ = _
                      rw [HI1.out]
                      exact resV_next ((verP_rds (k := kk) HS1 HS2 HD7.out.1).1 (of_nf HDM.out.symm))
                    clear HS1 HS2
                    obtain ⟨z16, z17, _, _⟩ := HE.out.2.2.2.at_.cells KK.out
                    have s0 := HE.out.2.2.1.c0
                    have s1 := HE.out.2.2.1.c1
                    have g0 := HE.out.2.2.1.f0
                    have g1 := HE.out.2.2.1.f1
                    go_upto_region 22 with (fail)
                    obtain ⟨W2, hW2⟩ : ∃ W2, W2 = (wc.setCell ⟨u7.heap.size, 0, none⟩ (.int .i64 t5)).setCell ⟨u7.heap.size, 1, none⟩ (.int .u8 n5) := ⟨_, rfl⟩
                    rw [← hW2]
                    have G14 : Hid (GS (w.alloc (.cells #[.slice a len cap, .int .i64 0, .bool false] 82)) W2 (w1.heap.size + 2) w.heap.size w1.heap.size (w1.heap.size + 1) a cap zs k7 b7 M' kk (fun j => ((noFoot j ∨ j = w2.heap.size) ∨ j = u7.heap.size) ∨ j = vb) ∧ KeyMine W2 w2.heap.size 0 kk ∧ StM W2 u7.heap.size t5 n5 ∧ VerMine W2 vb 0 ⟨kk, t5, n5, lv, gg⟩) := by
                      have cs : Chg wc W2 (fun j => j = u7.heap.size) := by rw [hW2]; exact (Chg.set (X := fun j => j = u7.heap.size) wc ⟨u7.heap.size, 0, none⟩ (.int .i64 t5) rfl).trans (Chg.set (X := fun j => j = u7.heap.size) _ ⟨u7.heap.size, 1, none⟩ (.int .u8 n5) rfl) (fun _ _ x => x)
                      have f1 := HE.out.1.far _ (.inl (.inl (.inr rfl)))
                      have f3 := HE.out.1.far _ (.inr rfl)
                      have hkt := HKT.out
                      exact ⟨HE.out.1.box (cs.mono (fun j _ e => .inl (.inr e))), HE.out.2.1.kept (cs.block _ f1.2 (by omega)), by rw [hW2]; exact HE.out.2.2.1.set t5 n5, HE.out.2.2.2.kept (cs.block _ f3.2 (fun e => HBA.out.2 e.symm))⟩
                    clear hW2 z16 z17 s0 s1 g0 g1 HE
                    obtain ⟨la, lc, hl1, hl2, hl3⟩ := G14.out.1.list
                    obtain ⟨m, hm⟩ : ∃ m, m = M'.length := ⟨_, rfl⟩
                    rw [← hm] at hl1 hl2 hl3
                    have hm2 : m ≤ 20000 := by have := HIM1.out; omega
                    obtain ⟨G, hG⟩ : ∃ G : Foot, G = fun b => (Value.slice la m lc).ownBlock = some b := ⟨_, rfl⟩
                    have HGO : Hid (∀ b, (Value.slice la m lc).ownBlock = some b ↔ G b) := fun b => by rw [hG]
                    have hGlo : ∀ b, G b → w1.heap.size + 2 ≤ b := fun b e => (hl2.lt b ((HGO.out b).2 e)).1
                    have hGv : ¬ G vb := fun e => hl3 vb (.inr rfl) ((HGO.out vb).2 e)
                    have hqs : w1.heap.size < W2.heap.size := by have := G14.out.1.bu; omega
                    have HKU : Hid (∀ u, Chg W2 u G → u.cell? ⟨w1.heap.size, 0, none⟩ = some (.slice la m lc) ∧ u.frozen? ⟨w1.heap.size, 0, none⟩ = false) := fun u hu => by
                      have bq := hu.block w1.heap.size hqs (fun e => by have := hGlo _ e; omega)
                      exact ⟨(cell_of_block bq 0).1.trans hl1, (cell_of_block bq 0).2.trans G14.out.1.free⟩
                    have FVV : Hid (∀ u, Chg W2 u G → VerAt u vb 0 ⟨kk, t5, n5, lv, gg⟩) := fun u hu => (G14.out.2.2.2.kept (hu.block _ (G14.out.1.far _ (.inr rfl)).2 hGv)).at_
                    have HOW : Hid (∀ u, Below W2.heap.size W2 u → u.ownsRow (w1.heap.size + 2) 67 20 (.slice la m lc) m (M'.flatMap encV)) := fun u hu => own_below hl2 hu (Nat.le_refl _)
                    have HSZ : Hid (w1.heap.size + 2 ≤ W2.heap.size) := G14.out.1.bu
                    have HLIE : Hid (Lies (W2.drew.alloc (.cells (encV ⟨kk, t5, n5, lv, gg⟩).toArray 67)) (some ⟨W2.heap.size, 0, none⟩) (encV ⟨kk, t5, n5, lv, gg⟩)) := by
                      have := lies_made W2.drew (encV ⟨kk, t5, n5, lv, gg⟩).toArray 67
                      rwa [List.toList_toArray] at this
                    have HEND2 : Hid (∀ w6 a6 c6, Chg W2 w6 G → w6.ownsRow (w1.heap.size + 2) 67 20 (.slice a6 (m + 1) c6) (m + 1) (M'.flatMap encV ++ encV ⟨kk, t5, n5, lv, gg⟩) → (∀ j, (Value.slice a6 (m + 1) c6).ownBlock = some j → (Value.slice la m lc).ownBlock = some j ∨ W2.heap.size ≤ j) → GS (w.alloc (.cells #[.slice a len cap, .int .i64 0, .bool false] 82)) (w6.setCell ⟨w1.heap.size, 0, none⟩ (.slice a6 (m + 1) c6)) (w1.heap.size + 2) w.heap.size w1.heap.size (w1.heap.size + 1) a cap zs k7 b7 (M' ++ [⟨kk, t5, n5, lv, gg⟩]) kk (fun j => (noFoot j ∨ j = w2.heap.size) ∨ j = u7.heap.size) ∧ KeyMine (w6.setCell ⟨w1.heap.size, 0, none⟩ (.slice a6 (m + 1) c6)) w2.heap.size 0 kk ∧ StM (w6.setCell ⟨w1.heap.size, 0, none⟩ (.slice a6 (m + 1) c6)) u7.heap.size t5 n5) := fun w6 a6 c6 hc6 ho6 ht6 => by
                      have hc7 : Chg W2 w6 (fun j => (Value.slice la M'.length lc).ownBlock = some j) := hc6.mono (fun b _ e => by rw [← hm]; exact (HGO.out b).2 e)
                      have hl1' := hl1
                      have hl2' := hl2
                      rw [hm] at hl1' hl2'
                      have hk := G14.out.1.keeps hl1' hc7 (.slice a6 (m + 1) c6)
                      refine ⟨(G14.out.1.more hl1' hl2' hc7 (by rw [hm]) (by rw [List.flatMap_append]; simpa using ho6) (fun j e => by rw [← hm]; exact ht6 j e) HVO.out).less (fun j e => .inl e), G14.out.2.1.kept (hk _ (.inl (.inl (.inr rfl)))), G14.out.2.2.1.kept (hk _ (.inl (.inr rfl)))⟩
                    have HIV2 : Hid (getS zs = resV (M' ++ [⟨kk, t5, n5, lv, gg⟩]) kk (mn - (qn + 1)) (pvV (qn + 1) t5 n5) R (stR zs k7 b7)) := by
                      show _ = _
                      rw [HQN.out, show pvV (qn + 1) t5 n5 = some (t5, n5) from if_neg (by omega)]
                      exact HV2.out
                    have HIM2 : Hid ((M' ++ [(⟨kk, t5, n5, lv, gg⟩ : Ver)]).length ≤ 50 * i + (qn + 1)) := by have := HIM1.out; show _ ≤ _; rw [List.length_append]; simp; omega
                    clear hl1 hl2 hl3 hm hG hGlo hGv hqs HV2
                    go_wp2
                    refine wp_region_noPanic ?_
                    refine region_till 10 (fun u => Chg W2 u G) (by kernel_rfl) ?_ (fun hHeld => ?_)
                    · exact (Chg.refl _ _).drew
                    refine till_take (i := 0) (v := ?_) 0 (by kernel_rfl) (Or.inl rfl) (by kernel_rfl) rfl (by kernel_rfl) (by kernel_rfl) (by kernel_rfl) (fun _ _ _ h => h) (Or.inl ⟨by rfl, ?_⟩) hHeld ?_
                    rotate_left
                    · intro u hSu
                      (go_simp) <;> (with_reducible rfl)
                    change wpTill _ _ _ _ _ _ _ _ (Act.put _ (some 94) _) _
                    simp only [Act.put, List.setIfInBounds_toArray, List.set_cons_zero, List.set_cons_succ]
                    refine till_take (i := 1) (v := ?_) 1 (by kernel_rfl) (Or.inl rfl) (by kernel_rfl) rfl (by kernel_rfl) (by kernel_rfl) (by kernel_rfl) (fun _ _ _ h => h) (Or.inl ⟨by rfl, ?_⟩) hHeld ?_
                    rotate_left
                    · intro u hSu
                      (go_simp) <;> (with_reducible rfl)
                    change wpTill _ _ _ _ _ _ _ _ (Act.put _ (some 95) _) _
                    simp only [Act.put, List.setIfInBounds_toArray, List.set_cons_zero, List.set_cons_succ]
                    refine till_take (i := 2) (v := ?_) 2 (by kernel_rfl) (Or.inl rfl) (by kernel_rfl) rfl (by kernel_rfl) (by kernel_rfl) (by kernel_rfl) (fun _ _ _ h => h) (Or.inl ⟨by rfl, ?_⟩) hHeld ?_
                    rotate_left
                    · intro u hSu
                      (go_simp) <;> (with_reducible rfl)
                    change wpTill _ _ _ _ _ _ _ _ (Act.put _ (some 96) _) _
                    simp only [Act.put, List.setIfInBounds_toArray, List.set_cons_zero, List.set_cons_succ]
                    refine till_take (i := 3) (v := ?_) 3 (by kernel_rfl) (Or.inl rfl) (by kernel_rfl) rfl (by kernel_rfl) (by kernel_rfl) (by kernel_rfl) (fun _ _ _ h => h) (Or.inl ⟨by rfl, ?_⟩) hHeld ?_
                    rotate_left
                    · intro u hSu
                      (go_simp) <;> (with_reducible rfl)
                    change wpTill _ _ _ _ _ _ _ _ (Act.put _ (some 97) _) _
                    simp only [Act.put, List.setIfInBounds_toArray, List.set_cons_zero, List.set_cons_succ]
                    refine till_take (i := 4) (v := ?_) 4 (by kernel_rfl) (Or.inl rfl) (by kernel_rfl) rfl (by kernel_rfl) (by kernel_rfl) (by kernel_rfl) (fun _ _ _ h => h) (Or.inl ⟨by rfl, ?_⟩) hHeld ?_
                    rotate_left
                    · intro u hSu
                      obtain ⟨z1, z3⟩ := HKU.out u hSu
                      (go_simp) <;> (with_reducible rfl)
                    change wpTill _ _ _ _ _ _ _ _ (Act.put _ (some 98) _) _
                    simp only [Act.put, List.setIfInBounds_toArray, List.set_cons_zero, List.set_cons_succ]
                    refine till_take (i := 5) (v := vv ⟨kk, t5, n5, lv, gg⟩) 5 (by kernel_rfl) (Or.inl rfl) (by kernel_rfl) rfl (by kernel_rfl) (by kernel_rfl) (by kernel_rfl) (fun _ _ _ h => h) (yieldsIf_load_mid (by rfl) _ _ rfl _ _ rfl (encV ⟨kk, t5, n5, lv, gg⟩) _ (fun u hu => (FVV.out u hu).range) Tryz.underlying67 rfl (by rw [info_ver, enc_len (V := ⟨kk, t5, n5, lv, gg⟩) KK.out])) hHeld ?_
                    change wpTill _ _ _ _ _ _ _ _ (Act.put _ (some 99) _) _
                    simp only [Act.put, List.setIfInBounds_toArray, List.set_cons_zero, List.set_cons_succ]
                    refine till_ready (rs := [6]) (by kernel_rfl) (by simp) ?_
                    refine AllTill.cons rfl (fun K hK => ?_) AllTill.nil
                    refine step_build_ver rfl (.tmp 99) rfl ⟨kk, t5, n5, lv, gg⟩ KK.out rfl ?_
                    refine hK.out _ _ ?_ (fun hHeld2 => ?_)
                    · exact hHeld.alloc _
                    clear hK K hHeld
                    have hHeld := hHeld2
                    clear hHeld2
                    change wpTill _ _ _ _ _ _ _ _ (Act.put _ (some 100) _) _
                    simp only [Act.put, List.setIfInBounds_toArray, List.set_cons_zero, List.set_cons_succ]
                    refine till_ready (rs := [7]) (by kernel_rfl) (by simp) ?_
                    refine AllTill.cons rfl (fun K hK => ?_) AllTill.nil
                    refine step_append_els_at verEl (w1.heap.size + 2) (by have := HSZ.out; simp; omega) rfl (.tmp 98) (.tmp 100) rfl (.slice la m lc) m (M'.flatMap encV) (encV ⟨kk, t5, n5, lv, gg⟩) rfl (HOW.out _ ((Below.refl _ _).drew.alloc (Nat.le_refl _) _)) _ 1 1 rfl (by rw [enc_len (V := ⟨kk, t5, n5, lv, gg⟩) KK.out]) HLIE.out (enc_one _) (by omega) ?_; intro a6 c6 w6 h6 hg6 ht6; have O6 : Hid (w6.ownsRow (w1.heap.size + 2) 67 20 (.slice a6 (m + 1) c6) (m + 1) (M'.flatMap encV ++ encV ⟨kk, t5, n5, lv, gg⟩)) := h6; have C6 : Hid (Chg W2 w6 G) := (Chg.of_below ((Below.refl _ _).drew.alloc (Nat.le_refl _) _) G).trans (Chg.of_grown hg6 (X := G) (fun b e => (HGO.out b).1 e)) (fun _ _ x => x); have T6 : Hid (∀ j, (Value.slice a6 (m + 1) c6).ownBlock = some j → (Value.slice la m lc).ownBlock = some j ∨ W2.heap.size ≤ j) := (fun j hj => by { rcases ht6 with e | e; exact .inl (e ▸ hj); rw [e] at hj; injection hj with hj; exact .inr (by rw [← hj]; simp) }); clear h6 hg6 ht6
                    refine hK.out _ _ ?_ (fun hHeld2 => ?_)
                    · exact C6.out
                    clear hK K hHeld
                    have hHeld := hHeld2
                    clear hHeld2
                    change wpTill _ _ _ _ _ _ _ _ (Act.put _ (some 101) _) _
                    simp only [Act.put, List.setIfInBounds_toArray, List.set_cons_zero, List.set_cons_succ]
                    refine till_take (i := 8) (v := ?_) 9 (by kernel_rfl) (Or.inr (by kernel_rfl)) (by kernel_rfl) rfl (by kernel_rfl) (by kernel_rfl) (by kernel_rfl) (fun _ _ _ h => h) (Or.inl ⟨by rfl, ?_⟩) hHeld ?_
                    rotate_left
                    · intro u hSu
                      (go_simp) <;> (with_reducible rfl)
                    change wpTill _ _ _ _ _ _ _ _ (Act.put _ (some 102) _) _
                    simp only [Act.put, List.setIfInBounds_toArray, List.set_cons_zero, List.set_cons_succ]
                    refine till_take (i := 9) (v := ?_) 9 (by kernel_rfl) (Or.inl rfl) (by kernel_rfl) rfl (by kernel_rfl) (by kernel_rfl) (by kernel_rfl) (fun _ _ _ h => h) (Or.inl ⟨by rfl, ?_⟩) hHeld ?_
                    rotate_left
                    · intro u hSu
                      (go_simp) <;> (with_reducible rfl)
                    change wpTill _ _ _ _ _ _ _ _ (Act.put _ (some 103) _) _
                    simp only [Act.put, List.setIfInBounds_toArray, List.set_cons_zero, List.set_cons_succ]
                    refine till_last (by kernel_rfl) (by kernel_rfl) rfl (fun K hK => ?_)
                    (obtain ⟨z1, z3⟩ := HKU.out w6 C6.out); go_simp; refine hK.out _ _ ?_; refine NoPanic.normal ?_; clear hK hHeld z1 z3
                    have HI2 : Hid _ := HEND2.out w6 a6 c6 C6.out O6.out T6.out
                    go_wp2
                    go_roundw
                    case rel => exact ⟨qn + 1, k7, b7, M' ++ [⟨kk, t5, n5, lv, gg⟩], t5, n5, by omega, by go_num, HI2, HIV2, HIM2⟩
                    case measure => simp [intOf]; omega
end Go.Proofs.YtpnjcflfnoamoaaGreat
