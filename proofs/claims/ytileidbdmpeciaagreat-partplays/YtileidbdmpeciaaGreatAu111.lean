/-
  The document's own parts: what turns; Abort, Commit.
  What the document's own stores answer: Get, Scan (hourglassref10: Store.Get, Store.Scan).
-/
import Derived.Test.YtileidbdmpeciaaGreatAu115
import Derived.Test.YtileidbdmpeciaaGreatRefSto4
import Derived.Test.YtileidbdmpeciaaGreatAu112
import Derived.Test.YtileidbdmpeciaaGreatAu108
import Derived.Test.YtileidbdmpeciaaGreatAu93
import Derived.Test.YtileidbdmpeciaaGreatAu96
namespace Go.Proofs.YtileidbdmpeciaaGreat
open Go.RowKit
set_option linter.unusedVariables false
set_option linter.unusedSimpArgs false

/-- The blocks that turn: its own, its store's, its table's, that of what is over. -/
def PrtF (u : World) (q s t : Nat) : Foot := fun k => k = q ∨ k = s ∨ k = t ∨ ∃ v, u.cell? ⟨q, 2, none⟩ = some v ∧ v.ownBlock = some k
theorem PrtF.below {w u : World} {q s t : Nat} (hq : q < w.heap.size) (hb : Below w.heap.size w u) : ∀ k, PrtF u q s t k ↔ PrtF w q s t k := fun k => by
  unfold PrtF
  rw [hb.cell (p := ⟨q, 2, none⟩) hq]
/-- The lists of the store and of the table lie where they lay, or are new. -/
def RowsS (w w' : World) (s t : Nat) : Prop := Rowed w w' s ∧ Rowed w w' t
theorem rowed_trans {w u w' : World} {s : Nat} (h : Rowed w u s) (k : Rowed u w' s) (hs : w.heap.size ≤ u.heap.size) : Rowed w w' s := fun v hv g hg => by
  rcases k v hv g hg with e | ⟨v0, e1, e2⟩
  · exact .inl (Nat.le_trans hs e)
  · exact h v0 e1 g e2
theorem rowed_block {w w' : World} {s : Nat} (h : w'.heap[s]? = w.heap[s]?) : Rowed w w' s := fun v hv g hg => .inr ⟨v, (cell_of_block h 0).1.symm.trans hv, hg⟩
theorem RowsS.trans {w u w' : World} {s t : Nat} (h : RowsS w u s t) (k : RowsS u w' s t) (hs : w.heap.size ≤ u.heap.size) : RowsS w w' s t := ⟨rowed_trans h.1 k.1 hs, rowed_trans h.2 k.2 hs⟩
theorem RowsS.of_below {w w' : World} {s t : Nat} (hb : Below w.heap.size w w') (hs : s < w.heap.size) (ht : t < w.heap.size) : RowsS w w' s t := ⟨rowed_block (hb.block s hs), rowed_block (hb.block t ht)⟩
theorem RowsS.turnS {w w' : World} {s t : Nat} (j2 : Chg w w' (fun k => k = s)) (j3 : Rowed w w' s) (ht : t < w.heap.size) (hst : s ≠ t) : RowsS w w' s t := ⟨j3, rowed_block (j2.block t ht (fun e => hst e.symm))⟩
theorem RowsS.turnT {w w' : World} {s t : Nat} (j2 : Chg w w' (fun k => k = t)) (j3 : Rowed w w' t) (hs : s < w.heap.size) (hst : s ≠ t) : RowsS w w' s t := ⟨rowed_block (j2.block s hs hst), j3⟩
/-- What a call leaves. -/
structure PrtD (w w' : World) (B q s t : Nat) (M : List EntM) (P : PSt) : Prop where
  ex : ∃ M', PrtR w' B q s t P.S M' P.O ∧ ents M' = P.T ∧ NewW w M M'
  chg : Chg w w' (PrtF w q s t)
  new : ∀ k, PrtF w' q s t k → PrtF w q s t k ∨ w.heap.size ≤ k
  rows : RowsS w w' s t
theorem PrtR.stay {w w' : World} {B q s t : Nat} {S : List Ver} {M : List EntM} {O : List (Int × Int)} (h : PrtR w B q s t S M O) (hb : Below w.heap.size w w') : PrtD w w' B q s t M ⟨S, ents M, O⟩ :=
  ⟨⟨M, h.past hb, rfl, fun x hx => .inl hx⟩, Chg.of_below hb _, fun k hk => .inl ((PrtF.below h.lt hb k).1 hk), RowsS.of_below hb h.sto.lt h.tab.lt⟩
theorem PrtD.past {w w' v : World} {B q s t : Nat} {M : List EntM} {P : PSt} (h : PrtD w w' B q s t M P) (hb : Below w'.heap.size w' v) : PrtD w v B q s t M P := by
  obtain ⟨M', h1, h2, h3⟩ := h.ex
  exact ⟨⟨M', h1.past hb, h2, h3⟩, h.chg.trans (Chg.of_below hb (PrtF w q s t)) (fun _ _ x => x), fun k hk => h.new k ((PrtF.below h1.lt hb k).1 hk), h.rows.trans (RowsS.of_below hb h1.sto.lt h1.tab.lt) h.chg.size⟩
/-- One more is over. -/
theorem PrtR.more {u w6 : World} {B q s t : Nat} {S : List Ver} {M : List EntM} {O : List (Int × Int)} {x : Int × Int} {a a6 : Option Addr} {c c6 : Nat} (h : PrtR u B q s t S M O) (hO : O.length ≤ 900) (hc : u.cell? ⟨q, 2, none⟩ = some (.slice a O.length c)) (hg : Chg u w6 (fun j => (Value.slice a O.length c).ownBlock = some j)) (ho : w6.ownsRow B 124 2 (.slice a6 (O.length + 1) c6) (O.length + 1) (O.flatMap encO ++ encO x)) (hl : ∀ g, (Value.slice a6 (O.length + 1) c6).ownBlock = some g → (Value.slice a O.length c).ownBlock = some g ∨ u.heap.size ≤ g) :
    PrtR (w6.setCell ⟨q, 2, none⟩ (.slice a6 (O.length + 1) c6)) B q s t S M (O ++ [x]) ∧ Chg u (w6.setCell ⟨q, 2, none⟩ (.slice a6 (O.length + 1) c6)) (PrtF u q s t) ∧ (∀ k, PrtF (w6.setCell ⟨q, 2, none⟩ (.slice a6 (O.length + 1) c6)) q s t k → PrtF u q s t k ∨ u.heap.size ≤ k) ∧ RowsS u (w6.setCell ⟨q, 2, none⟩ (.slice a6 (O.length + 1) c6)) s t := by
  obtain ⟨a0, c0, h1, h2, h3⟩ := h.over
  rw [hc] at h1
  injection h1 with h1
  injection h1 with h1a h1b h1c
  subst h1a; subst h1c
  have hq := h.lt
  have hs := h.sto.lt
  have ht := h.tab.lt
  have hn : ∀ j, j = q ∨ j = s ∨ j = t → ¬ (Value.slice a O.length c).ownBlock = some j := fun j hj e => by
    have := h3 j e
    rcases hj with e1 | e1 | e1 <;> omega
  have hgq := hg.block q hq (hn q (.inl rfl))
  have hgs := hg.block s hs (hn s (.inr (.inl rfl)))
  have hgt := hg.block t ht (hn t (.inr (.inr rfl)))
  have hset : Chg w6 (w6.setCell ⟨q, 2, none⟩ (.slice a6 (O.length + 1) c6)) (fun k => k = q) := Chg.set w6 ⟨q, 2, none⟩ _ rfl
  have hall : Chg u (w6.setCell ⟨q, 2, none⟩ (.slice a6 (O.length + 1) c6)) (fun k => k = q ∨ (Value.slice a O.length c).ownBlock = some k) := (hg.mono (Y := fun k => k = q ∨ (Value.slice a O.length c).ownBlock = some k) (fun k _ e => .inr e)).trans hset (fun j _ e => .inl e)
  have hbs := hall.block s hs (fun e => e.elim (fun e => h.qs e.symm) (hn s (.inr (.inl rfl))))
  have hbt := hall.block t ht (fun e => e.elim (fun e => h.qt e.symm) (hn t (.inr (.inr rfl))))
  have k0 : (w6.setCell ⟨q, 2, none⟩ (.slice a6 (O.length + 1) c6)).cell? ⟨q, 0, none⟩ = some (.pointer (some ⟨s, 0, none⟩)) := (set_off _ _ _ _ _ (by omega)).trans ((cell_of_block hgq 0).1.trans h.c0)
  have k1 : (w6.setCell ⟨q, 2, none⟩ (.slice a6 (O.length + 1) c6)).cell? ⟨q, 1, none⟩ = some (.pointer (some ⟨t, 0, none⟩)) := (set_off _ _ _ _ _ (by omega)).trans ((cell_of_block hgq 1).1.trans h.c1)
  have k2 : (w6.setCell ⟨q, 2, none⟩ (.slice a6 (O.length + 1) c6)).cell? ⟨q, 2, none⟩ = some (.slice a6 (O.length + 1) c6) := World.cell?_setCell_same _ _ _ ((cell_of_block hgq 2).1.trans hc)
  obtain ⟨a2, c2, m1, m2, m3⟩ := h.sto.list
  obtain ⟨a3, c3, n1, n2, n3⟩ := h.tab.list
  have typ : ∀ g, (Value.slice a O.length c).ownBlock = some g → (Value.slice a2 S.length c2).ownBlock ≠ some g ∧ (Value.slice a3 M.length c3).ownBlock ≠ some g := fun g e => by
    refine ⟨fun e2 => ?_, fun e2 => ?_⟩
    · exact rows_apartS h2 m2 (by decide) e e2
    · exact rows_apartS h2 n2 (by decide) e e2
  refine ⟨⟨k0, k1, ⟨a6, c6, by rw [List.length_append]; exact k2, ?_, fun g e => ?_⟩, by rw [World.frozen?_setCell]; exact (cell_of_block hgq 2).2.trans h.free, ⟨Nat.lt_of_lt_of_le hs hall.size, h.sto.lo, ⟨a2, c2, (cell_of_block hbs 0).1.trans m1, row_keptT m2 (fun k e => hall.block k (m2.lt k e).2 (fun e2 => ?_)), m3⟩, (cell_of_block hbs 0).2.trans h.sto.free, h.sto.oks, h.sto.few⟩, ⟨Nat.lt_of_lt_of_le ht hall.size, h.tab.lo, ⟨a3, c3, (cell_of_block hbt 0).1.trans n1, row_keptT n2 (fun k e => hall.block k (n2.lt k e).2 (fun e2 => ?_)), n3⟩, (cell_of_block hbt 0).2.trans h.tab.free, fun y hy => (h.tab.wrs y hy).kept (fun hl b o e => hall.block b ((h.tab.wrs y hy).wr.blt hl e) (fun e2 => ?_)), h.tab.far, h.tab.few⟩, h.lo, h.qs, h.qt, h.st, fun v hv => h.sl v ((cell_of_block hbs 0).1.symm.trans hv), fun v hv => h.tl v ((cell_of_block hbt 0).1.symm.trans hv), fun y hy hl2 b o e => ?_, by rw [List.length_append]; simp; omega⟩, hall.mono (fun k _ e => ?_), fun k e => ?_, rowed_block hbs, rowed_block hbt⟩
  · rw [List.length_append, List.flatMap_append]
    have e5 : [x].flatMap encO = encO x := by simp
    rw [e5]
    refine row_keptT ho (fun k e => hset.block k (ho.lt k e).2 (fun e2 => ?_))
    rcases hl k e with e3 | e3
    · exact (h3 k e3).1 e2
    · omega
  · rw [List.length_append] at e
    rcases hl g e with e3 | e3
    · exact h3 g e3
    · exact ⟨by omega, by omega, by omega⟩
  · rcases e2 with e2 | e2
    · exact (h.sl _ m1 k e).1 e2
    · exact (typ k e2).1 e
  · rcases e2 with e2 | e2
    · exact (h.tl _ n1 k e).1 e2
    · exact (typ k e2).2 e
  · rcases e2 with e2 | e2
    · exact (h.far y hy hl b o e).1 e2
    · exact (h.far y hy hl b o e).2.2.2 _ hc e2
  · obtain ⟨f1, f2, f3, f4⟩ := h.far y hy hl2 b o e
    refine ⟨f1, f2, f3, fun v hv ev => ?_⟩
    rw [k2] at hv
    injection hv with hv
    rw [← hv] at ev
    rcases hl b ev with e3 | e3
    · exact f4 _ hc e3
    · have := (h.tab.wrs y hy).wr.blt hl2 e; omega
  · rcases e with e | e
    · exact .inl e
    · exact .inr (.inr (.inr ⟨_, hc, e⟩))
  · rcases e with e | e | e | ⟨v, e1, e2⟩
    · exact .inl (.inl e)
    · exact .inl (.inr (.inl e))
    · exact .inl (.inr (.inr (.inl e)))
    · rw [k2] at e1
      injection e1 with e1
      rw [← e1] at e2
      rcases hl k e2 with e3 | e3
      · exact .inl (.inr (.inr (.inr ⟨_, hc, e3⟩)))
      · exact .inr e3
end Go.Proofs.YtileidbdmpeciaaGreat

namespace Go.Proofs.YtileidbdmpeciaaGreat
open Go.RowKit
set_option linter.unusedVariables false

theorem VerAt.cellsG {w : World} {b : Nat} {V : Ver} (h : VerAt w b 0 V) (hk : Ky V.k) : w.cell? ⟨b, 18, none⟩ = some (.string (strOfNums V.v)) ∧ w.cell? ⟨b, 19, none⟩ = some (.bool V.g) := by
  have := h.cells hk
  simp only [Nat.zero_add] at this
  exact this.2.2
theorem at_ky {L : List Ver} (h : OkL L) (k : List Int) (t n : Int) : Ky (orZero (atV L k t n)).k := by
  cases hR : atV L k t n with
  | none => exact zeroV_ky
  | some X =>
    have hX : X ∈ chainV L k := by
      unfold atV at hR
      exact List.mem_reverse.1 (List.mem_of_find?_eq_some hR)
    exact (h X (List.mem_of_mem_drop (List.mem_of_mem_take hX))).key
theorem get_at (L : List Ver) (k : List Int) (t n : Int) : getV L k t n = if (atV L k t n).isSome = true then (if (orZero (atV L k t n)).g = true then none else some (orZero (atV L k t n)).v) else none := by
  unfold getV
  cases atV L k t n <;> rfl
set_option maxHeartbeats 4000000 in
set_option maxRecDepth 8000 in
theorem rget10_any (B p : Nat) (L : List Ver) (k : List Int) (hk : Ky k) (t n : Int) (w : World) (h : StoreR w B p L) :
    Calls Tryz.prog 76 #[.pointer (some ⟨p, 0, none⟩), kv k, .agg #[.int .i64 t, .int .u8 n]] w fun e w' => e = .returned (.tuple #[.string (strOfNums ((getV L k t n).getD [])), .bool (getV L k t n).isSome]) ∧ Below w.heap.size w w' := by
  have KY : Hid (Ky k) := hk
  obtain ⟨w1, hw1⟩ : ∃ u, u = (w.alloc (.cells (kcs k) 38)).alloc (.cells #[.int .i64 t, .int .u8 n] 28) := ⟨_, rfl⟩
  have hK1 : KBox w w1 k := by rw [hw1]; exact (KBox.made w hk).alloc _
  have HB1 : Hid (Below w.heap.size w w1) := hK1.below
  have hs1 : w1.heap.size = w.heap.size + 2 := by rw [hw1]; simp
  have FT : Hid (w1.cell? ⟨w.heap.size + 1, 0, none⟩ = some (.int .i64 t) ∧ w1.cell? ⟨w.heap.size + 1, 1, none⟩ = some (.int .u8 n)) := by
    have e : ∀ o, w1.cell? ⟨w.heap.size + 1, o, none⟩ = (#[.int .i64 t, .int .u8 n] : Array Value)[o]? := fun o => by
      have := World.cell?_alloc_new (w.alloc (.cells (kcs k) 38)) #[.int .i64 t, .int .u8 n] 28 o
      rw [World.size_alloc] at this
      rw [hw1, this]
    exact ⟨e 0, e 1⟩
  have FK : Hid (KeyAt w1 w.heap.size 0 k) := hK1.key
  have HW1 : Hid ((w.alloc (.cells (kcs k) 38)).alloc (.cells #[.int .i64 t, .int .u8 n] 28) = w1) := hw1.symm
  have hget := get_at L k t n
  obtain ⟨R, hR⟩ : ∃ R, R = getV L k t n := ⟨_, rfl⟩
  rw [← hR] at hget ⊢
  obtain ⟨Z, hZ⟩ : ∃ Z, Z = orZero (atV L k t n) := ⟨_, rfl⟩
  obtain ⟨ok, hok⟩ : ∃ ok, ok = (atV L k t n).isSome := ⟨_, rfl⟩
  have HZK : Hid (Ky Z.k) := by rw [hZ]; exact at_ky h.oks k t n
  have CA : Hid (∀ u, Below w.heap.size w u → Calls Tryz.prog 73 #[.pointer (some ⟨p, 0, none⟩), kv k, .agg #[.int .i64 t, .int .u8 n]] u fun e w' => e = .returned (.tuple #[vv Z, .bool ok]) ∧ Below u.heap.size u w') := fun u hb => by rw [hZ, hok]; exact rat10_any B p L k t n hk u (h.past hb)
  rw [← hZ, ← hok] at hget
  obtain ⟨S, hS⟩ : ∃ S, S = strOfNums Z.v := ⟨_, rfl⟩
  obtain ⟨zg, hzg⟩ : ∃ g, g = Z.g := ⟨_, rfl⟩
  have HZC : Hid (∀ u b, VerMine u b 0 Z → u.cell? ⟨b, 18, none⟩ = some (.string S) ∧ u.cell? ⟨b, 19, none⟩ = some (.bool zg)) := fun u b hm => by rw [hS, hzg]; exact hm.at_.cellsG hm.key
  rw [← hzg] at hget
  have HS : Hid (S = strOfNums Z.v) := hS
  clear h hk hw1 hK1 hs1 hR hZ hok hS hzg
  cases ok with
  | false =>
    have HR : Hid (R = none) := hget
    clear hget HS
    go_enter Tryz.func76, Tryz.ntmps76
    go_wp2_with (first | ((with_reducible show wpList _ _ _ (Oper.mk (some 12) _ _ _ _ _ :: _) _ _); rw [HW1.out]; refine wpList_load_keyD 12 (by rfl) (by rfl) _ (by rfl) w.heap.size 0 (by rfl) k KY.out FK.out ?_; obtain ⟨y0, y1⟩ := FT.out) | (go_at_call 73; refine (CA.out _ HB1.out).mono ?_; rintro e w2 ⟨rfl, hb2⟩; have HB2 : Hid (Below w.heap.size w w2) := HB1.out.trans (hb2.mono HB1.out.size); have hmi := VerMine.made w2 127 zeroV zeroV_ky; rw [zeroV_cells] at hmi; have HMI : Hid _ := hmi; clear hmi hb2 y0 y1) | (have hgo := HMI.out; clear hgo; refine wpList_store_ver (.tmp 8) (by rfl) _ (by rfl) w2.heap.size 0 zeroV Z (by rfl) (by rfl) HZK.out HMI.out ?_; intro u3 hu; have HV3 : Hid (VerMine u3 w2.heap.size 0 Z) := hu ▸ HMI.out.store HZK.out; have HB3 : Hid (Below w.heap.size w u3) := hu ▸ below_cells HB2.out.size (HB2.out.alloc HB2.out.size _); clear hu HMI))
    go_ret2
    exact ⟨by rw [HR.out]; rfl, HB3.out⟩
  | true =>
    cases zg with
    | true =>
      have HR : Hid (R = none) := hget
      clear hget HS
      go_enter Tryz.func76, Tryz.ntmps76
      go_wp2_with (first | ((with_reducible show wpList _ _ _ (Oper.mk (some 12) _ _ _ _ _ :: _) _ _); rw [HW1.out]; refine wpList_load_keyD 12 (by rfl) (by rfl) _ (by rfl) w.heap.size 0 (by rfl) k KY.out FK.out ?_; obtain ⟨y0, y1⟩ := FT.out) | (go_at_call 73; refine (CA.out _ HB1.out).mono ?_; rintro e w2 ⟨rfl, hb2⟩; have HB2 : Hid (Below w.heap.size w w2) := HB1.out.trans (hb2.mono HB1.out.size); have hmi := VerMine.made w2 127 zeroV zeroV_ky; rw [zeroV_cells] at hmi; have HMI : Hid _ := hmi; clear hmi hb2 y0 y1) | (have hgo := HMI.out; clear hgo; refine wpList_store_ver (.tmp 8) (by rfl) _ (by rfl) w2.heap.size 0 zeroV Z (by rfl) (by rfl) HZK.out HMI.out ?_; intro u3 hu; have HV3 : Hid (VerMine u3 w2.heap.size 0 Z) := hu ▸ HMI.out.store HZK.out; have HB3 : Hid (Below w.heap.size w u3) := hu ▸ below_cells HB2.out.size (HB2.out.alloc HB2.out.size _); obtain ⟨z0, z1⟩ := HZC.out _ _ HV3.out; clear hu HMI))
      go_ret2
      exact ⟨by rw [HR.out]; rfl, HB3.out⟩
    | false =>
      have HR : Hid (R = some Z.v) := hget
      clear hget
      go_enter Tryz.func76, Tryz.ntmps76
      go_wp2_with (first | ((with_reducible show wpList _ _ _ (Oper.mk (some 12) _ _ _ _ _ :: _) _ _); rw [HW1.out]; refine wpList_load_keyD 12 (by rfl) (by rfl) _ (by rfl) w.heap.size 0 (by rfl) k KY.out FK.out ?_; obtain ⟨y0, y1⟩ := FT.out) | (go_at_call 73; refine (CA.out _ HB1.out).mono ?_; rintro e w2 ⟨rfl, hb2⟩; have HB2 : Hid (Below w.heap.size w w2) := HB1.out.trans (hb2.mono HB1.out.size); have hmi := VerMine.made w2 127 zeroV zeroV_ky; rw [zeroV_cells] at hmi; have HMI : Hid _ := hmi; clear hmi hb2 y0 y1) | (have hgo := HMI.out; clear hgo; refine wpList_store_ver (.tmp 8) (by rfl) _ (by rfl) w2.heap.size 0 zeroV Z (by rfl) (by rfl) HZK.out HMI.out ?_; intro u3 hu; have HV3 : Hid (VerMine u3 w2.heap.size 0 Z) := hu ▸ HMI.out.store HZK.out; have HB3 : Hid (Below w.heap.size w u3) := hu ▸ below_cells HB2.out.size (HB2.out.alloc HB2.out.size _); obtain ⟨z0, z1⟩ := HZC.out _ _ HV3.out; clear hu HMI))
      go_ret2
      exact ⟨by rw [HR.out, HS.out]; rfl, HB3.out⟩
set_option maxHeartbeats 8000000 in
set_option maxRecDepth 8000 in
theorem rscan10_any (B p : Nat) (L : List Ver) (a b : List Int) (ha : Ky a) (hb : Ky b) (t n most : Int) (hmo : -9223372036854775808 ≤ most ∧ most ≤ 9223372036854775807) (w : World) (h : StoreR w B p L) (hg : StoG L) :
    Calls Tryz.prog 78 #[.pointer (some ⟨p, 0, none⟩), kv a, kv b, .agg #[.int .i64 t, .int .u8 n], .int .i64 most] w fun e w' => (∃ a' c', e = .returned (.slice a' ((scanV L a b t n).take most.toNat).length c') ∧ ItmsAt w' a' ((scanV L a b t n).take most.toNat) ∧ ((scanV L a b t n).take most.toNat).length ≤ c') ∧ Below w.heap.size w w' := by
  have HG : Hid (StoG L) := hg
  have KA : Hid (Ky a) := ha
  have KB : Hid (Ky b) := hb
  obtain ⟨W0, hW0⟩ : ∃ u, u = ((w.alloc (.cells (kcs a) 38)).alloc (.cells (kcs b) 38)).alloc (.cells #[.int .i64 t, .int .u8 n] 28) := ⟨_, rfl⟩
  have HB0 : Hid (ScB w W0 a b t n) := by rw [hW0]; exact ScB.made w ha hb t n 38 28
  have HW0 : Hid (((w.alloc (.cells (kcs a) 38)).alloc (.cells (kcs b) 38)).alloc (.cells #[.int .i64 t, .int .u8 n] 28) = W0) := hW0.symm
  have HST : Hid (∀ u, Below w.heap.size w u → StoreR u B p L) := fun u hb => h.past hb
  obtain ⟨K, hK⟩ : ∃ K, K = keysV L := ⟨_, rfl⟩
  obtain ⟨N, hN⟩ : ∃ N, N = K.length := ⟨_, rfl⟩
  have hN200 : N ≤ 200 := by rw [hN, hK]; exact hg.few
  have CK : Hid (Calls Tryz.prog 61 #[.pointer (some ⟨p, 0, none⟩)] W0 fun e w' => (∃ a' cap', e = .returned (.slice a' N cap') ∧ KeysAt w' a' K ∧ N ≤ cap') ∧ Below W0.heap.size W0 w') := by
    rw [hN, hK]; exact rkeys10_any B p L W0 (h.past HB0.out.below)
  have HKN : Hid (K = keysV L ∧ K.length = N) := ⟨hK, hN.symm⟩
  obtain ⟨R, hR⟩ : ∃ R, R = (scanV L a b t n).take most.toNat := ⟨_, rfl⟩
  have HEND : Hid (∀ (U u : World) (v : Value) (i : Nat), ScR w U u a b t n v (scanN L a b t n i) → scanN L a b t n i = R → (∃ a' c', Ending.returned v = Ending.returned (.slice a' R.length c') ∧ ItmsAt u a' R ∧ R.length ≤ c') ∧ Below w.heap.size w u) := fun U u v i hr he => by
    obtain ⟨a', c', e1, e2, e3⟩ := own_itms hr.own.own rfl (scanN_ok hg)
    exact ⟨⟨a', c', by rw [e1, he], by rw [← he]; exact e3, by rw [← he]; exact e2⟩, hr.here.below⟩
  have HSTOP : Hid (∀ i, ((scanN L a b t n i).length : Int) ≤ max most 0 → most ≤ ((scanN L a b t n i).length : Int) → scanN L a b t n i = R) := fun i h1 h2 => by
    obtain ⟨r, hr⟩ := scan_pre L a b t n i
    rw [hR, hr]
    have : most.toNat = (scanN L a b t n i).length := by omega
    rw [this, List.take_left]
  have HALL : Hid (((scanN L a b t n N).length : Int) ≤ max most 0 → scanN L a b t n N = R) := fun h1 => by
    have e : scanN L a b t n N = scanV L a b t n := by
      unfold scanN scanV
      rw [List.take_of_length_le (by rw [hN, hK]; exact Nat.le_refl _)]
    rw [hR, ← e, List.take_of_length_le (by omega)]
  have HLEN : Hid (∀ i, (scanN L a b t n i).length ≤ 200) := fun i => Nat.le_trans (scanN_len L a b t n i) hg.few
  rw [← hR]
  clear hg ha hb hW0 h hK hN hR
  go_enter Tryz.func78, Tryz.ntmps78
  go_wp2_with (go_at_call 61; rw [HW0.out]; refine CK.out.mono ?_; rintro e w1 ⟨⟨ka, kcap, rfl, hka, hkc⟩, hb1⟩; have HKA : Hid (KeysAt w1 ka K) := hka; have HB1 : Hid (ScB w w1 a b t n) := HB0.out.past hb1; clear hka hb1)
  clear CK
  go_loopw [11, 13] (fun lv iv wr => ∃ (i m : Nat) (la : Option Addr) (lc : Nat), i ≤ N ∧ iv = .int .i64 i ∧ lv = .slice la m lc ∧ m ≤ 200 ∧ Hid (m = (scanN L a b t n i).length) ∧ Hid ((m : Int) ≤ max most 0) ∧ Hid (ScR w w1 wr a b t n (.slice la m lc) (scanN L a b t n i))) (fun _ iv _ => N - (intOf iv).toNat)
  case atStart => exact ⟨0, 0, none, 0, Nat.zero_le _, rfl, rfl, by omega, rfl, by show ((0 : Nat) : Int) ≤ max most 0; omega, ⟨HB1.out, ⟨World.ownsRow_nil _ _ _ _, Below.refl _ _⟩⟩⟩
  case round =>
    obtain ⟨i, m, la, lc, hi, rfl, rfl, hm200, HM, HMX, HS⟩ := hrel
    have hi0 : (0 : Int) ≤ (i : Int) := by omega
    by_cases hlt : i < N
    · have h1 : (i : Int) < (N : Int) := by omega
      by_cases hbr : most ≤ (m : Int)
      · have HX : Hid (scanN L a b t n i = R) := HSTOP.out i (by rw [← HM.out]; exact HMX.out) (by rw [← HM.out]; exact hbr)
        have h2 : ¬ (m : Int) < most := by omega
        go_wp2
        go_ret
        exact HEND.out _ _ _ _ HS.out HX.out
      · have h2 : (m : Int) < most := by omega
        obtain ⟨kb, ko, rfl, hkat, hky⟩ := (HKA.out.past (w' := wr) HS.out.own.below).key (i := i) (by rw [HKN.out.2]; exact hlt)
        obtain ⟨k, hk⟩ : ∃ k, k = K.getD i [] := ⟨_, rfl⟩
        rw [← hk] at hkat hky
        have HKI : Hid ((keysV L)[i]? = some k) := by
          show _ = _
          have : i < K.length := by rw [HKN.out.2]; exact hlt
          rw [← HKN.out.1, hk]
          simp [List.getD, this]
        have KW : Hid (∀ u, Below wr.heap.size wr u → KeyAt u kb (ko + i * 16) k) := fun u hb => hkat.past hb
        have KK : Hid (Ky k) := hky
        have FT : Hid (∀ u, Below wr.heap.size wr u → u.cell? ⟨w.heap.size + 2, 0, none⟩ = some (.int .i64 t) ∧ u.cell? ⟨w.heap.size + 2, 1, none⟩ = some (.int .u8 n)) := fun u hb => ⟨(HS.out.here.past hb).c0, (HS.out.here.past hb).c1⟩
        clear hkat hky hk
        obtain ⟨gv, hgv⟩ : ∃ x, x = getV L k t n := ⟨_, rfl⟩
        have CG0 : ∀ u, Below wr.heap.size wr u → Calls Tryz.prog 76 #[.pointer (some ⟨p, 0, none⟩), kv k, .agg #[.int .i64 t, .int .u8 n]] u fun e w' => e = .returned (.tuple #[.string (strOfNums (gv.getD [])), .bool gv.isSome]) ∧ Below u.heap.size u w' := fun u hb => by rw [hgv]; exact rget10_any B p L k KK.out t n u (HST.out u (HS.out.here.past hb).below)
        obtain ⟨wi, hwi⟩ : ∃ x, x = withinK k a b := ⟨_, rfl⟩
        have CW : Hid (∀ u, Calls Tryz.prog 77 #[kv k, kv a, kv b] u fun e w' => e = .returned (.bool wi) ∧ Below u.heap.size u w') := fun u => by rw [hwi]; exact rwithin_any k a b KK.out KA.out KB.out u
        have HNX := scan_next (a := a) (b := b) (t := t) (n := n) HKI.out
        have hitem : itemV L a b t n k = gv.bind (fun v => if wi = true then some (k, v) else none) := by
          rw [hgv, hwi]
          unfold itemV
          cases getV L k t n <;> rfl
        clear hgv hwi HKI
        cases gv with
        | none =>
          have HX : Hid (scanN L a b t n (i + 1) = scanN L a b t n i) := by
            show _ = _
            rw [HNX, hitem]; simp
          have CG : Hid (∀ u, Below wr.heap.size wr u → Calls Tryz.prog 76 #[.pointer (some ⟨p, 0, none⟩), kv k, .agg #[.int .i64 t, .int .u8 n]] u fun e w' => e = .returned (.tuple #[.string (strOfNums []), .bool false]) ∧ Below u.heap.size u w') := CG0
          generalize strOfNums [] = S0 at CG
          clear hitem HNX CG0 CW
          go_wp2
          refine wp_region_noPanic ?_
          refine wp_region_held_drew (S := fun u => Below wr.heap.size wr u) (by kernel_rfl) ?_ (fun hHeld => ?_)
          · exact (Below.refl _ _).drew
          refine wpAnyH_take (i := 0) (v := ?_) rfl (by kernel_rfl) (by kernel_rfl) (by kernel_rfl) (fun _ _ _ h => h) (Or.inl ⟨by rfl, ?_⟩) hHeld ?_
          rotate_left
          · intro u hSu
            (go_simp) <;> (with_reducible rfl)
          change wpAnyH _ _ _ _ _ _ _ (Act.put _ (some 31) _) _
          simp only [Act.put, List.setIfInBounds_toArray, List.set_cons_zero, List.set_cons_succ]
          refine wpAnyH_take (i := 1) (v := ?_) rfl (by kernel_rfl) (by kernel_rfl) (by kernel_rfl) (fun _ _ _ h => h) (Or.inl ⟨by rfl, ?_⟩) hHeld ?_
          rotate_left
          · intro u hSu
            (go_simp) <;> (with_reducible rfl)
          change wpAnyH _ _ _ _ _ _ _ (Act.put _ (some 32) _) _
          simp only [Act.put, List.setIfInBounds_toArray, List.set_cons_zero, List.set_cons_succ]
          refine wpAnyH_take (i := 2) (v := ?_) rfl (by kernel_rfl) (by kernel_rfl) (by kernel_rfl) (fun _ _ _ h => h) (Or.inl ⟨by rfl, ?_⟩) hHeld ?_
          rotate_left
          · intro u hSu
            (go_simp) <;> (with_reducible rfl)
          change wpAnyH _ _ _ _ _ _ _ (Act.put _ (some 33) _) _
          simp only [Act.put, List.setIfInBounds_toArray, List.set_cons_zero, List.set_cons_succ]
          refine wpAnyH_take (i := 3) (v := ?_) rfl (by kernel_rfl) (by kernel_rfl) (by kernel_rfl) (fun _ _ _ h => h) (Or.inl ⟨by rfl, ?_⟩) hHeld ?_
          rotate_left
          · intro u hSu
            (go_simp) <;> (with_reducible rfl)
          change wpAnyH _ _ _ _ _ _ _ (Act.put _ (some 34) _) _
          simp only [Act.put, List.setIfInBounds_toArray, List.set_cons_zero, List.set_cons_succ]
          refine wpAnyH_take (i := 4) (v := kv k) rfl (by kernel_rfl) (by kernel_rfl) (by kernel_rfl) (fun _ _ _ h => h) (yieldsIf_load_mid (by rfl) _ _ rfl _ _ rfl (k.map (Value.int .u8)) _ (fun u hu => (KW.out u hu).range KK.out) Tryz.underlying38 rfl (info_keyl k KK.out)) hHeld ?_
          change wpAnyH _ _ _ _ _ _ _ (Act.put _ (some 35) _) _
          simp only [Act.put, List.setIfInBounds_toArray, List.set_cons_zero, List.set_cons_succ]
          refine wpAnyH_take (i := 5) (v := ?_) rfl (by kernel_rfl) (by kernel_rfl) (by kernel_rfl) (fun _ _ _ h => h) (Or.inl ⟨by rfl, ?_⟩) hHeld ?_
          rotate_left
          · intro u hSu
            obtain ⟨r1, r2⟩ := FT.out u hSu
            (go_simp) <;> (with_reducible rfl)
          change wpAnyH _ _ _ _ _ _ _ (Act.put _ (some 36) _) _
          simp only [Act.put, List.setIfInBounds_toArray, List.set_cons_zero, List.set_cons_succ]
          refine wpAnyH_ready (rs := [6]) (by kernel_rfl) (by simp) ?_
          refine AllReadyH.cons rfl (fun K hK => ?_) AllReadyH.nil
          go_simp
          go_at_call 76
          refine (CG.out _ hHeld).mono ?_
          rintro e v8 ⟨rfl, hb8⟩
          have B8 : Hid (Below wr.heap.size wr v8) := hHeld.trans (hb8.mono hHeld.size)
          refine hK.out _ _ ?_ (fun hHeld2 => ?_)
          · exact B8.out
          clear hK K hHeld
          have hHeld := hHeld2
          clear hHeld2
          refine wpAnyH_take (i := 7) (v := ?_) rfl (by kernel_rfl) (by kernel_rfl) (by kernel_rfl) (fun _ _ _ h => h) (Or.inl ⟨by rfl, ?_⟩) hHeld ?_
          rotate_left
          · intro u hSu
            (go_simp) <;> (with_reducible rfl)
          change wpAnyH _ _ _ _ _ _ _ (Act.put _ (some 30) _) _
          simp only [Act.put, List.setIfInBounds_toArray, List.set_cons_zero, List.set_cons_succ]
          refine wpAnyH_take (i := 8) (v := ?_) rfl (by kernel_rfl) (by kernel_rfl) (by kernel_rfl) (fun _ _ _ h => h) (Or.inl ⟨by rfl, ?_⟩) hHeld ?_
          rotate_left
          · intro u hSu
            (go_simp) <;> (with_reducible rfl)
          change wpAnyH _ _ _ _ _ _ _ (Act.put _ (some 38) _) _
          simp only [Act.put, List.setIfInBounds_toArray, List.set_cons_zero, List.set_cons_succ]
          refine wpAnyH_take (i := 9) (v := ?_) rfl (by kernel_rfl) (by kernel_rfl) (by kernel_rfl) (fun _ _ _ h => h) (Or.inl ⟨by rfl, ?_⟩) hHeld ?_
          rotate_left
          · intro u hSu
            (go_simp) <;> (with_reducible rfl)
          change wpAnyH _ _ _ _ _ _ _ (Act.put _ (some 39) _) _
          simp only [Act.put, List.setIfInBounds_toArray, List.set_cons_zero, List.set_cons_succ]
          refine wpAnyH_take (i := 10) (v := ?_) rfl (by kernel_rfl) (by kernel_rfl) (by kernel_rfl) (fun _ _ _ h => h) (Or.inl ⟨by rfl, ?_⟩) hHeld ?_
          rotate_left
          · intro u hSu
            (go_simp) <;> (with_reducible rfl)
          change wpAnyH _ _ _ _ _ _ _ (Act.put _ (some 14) _) _
          simp only [Act.put, List.setIfInBounds_toArray, List.set_cons_zero, List.set_cons_succ]
          refine wpAnyH_take (i := 11) (v := ?_) rfl (by kernel_rfl) (by kernel_rfl) (by kernel_rfl) (fun _ _ _ h => h) (Or.inl ⟨by rfl, ?_⟩) hHeld ?_
          rotate_left
          · intro u hSu
            (go_simp) <;> (with_reducible rfl)
          change wpAnyH _ _ _ _ _ _ _ (Act.put _ (some 15) _) _
          simp only [Act.put, List.setIfInBounds_toArray, List.set_cons_zero, List.set_cons_succ]
          refine wpAnyH_done (by kernel_rfl) ?_ _
          refine NoPanic.normal ?_
          clear hb8
          go_wp2
          refine wp_region_noPanic ?_
          refine wp_region_held_drew (S := fun u => Below v8.heap.size v8 u) (by kernel_rfl) ?_ (fun hHeld => ?_)
          · exact (Below.refl _ _).drew
          refine wpAnyH_take (i := 0) (v := ?_) rfl (by kernel_rfl) (by kernel_rfl) (by kernel_rfl) (fun _ _ _ h => h) (Or.inl ⟨by rfl, ?_⟩) hHeld ?_
          rotate_left
          · intro u hSu
            (go_simp) <;> (with_reducible rfl)
          change wpAnyH _ _ _ _ _ _ _ (Act.put _ (some 40) _) _
          simp only [Act.put, List.setIfInBounds_toArray, List.set_cons_zero, List.set_cons_succ]
          refine wpAnyH_take (i := 1) (v := ?_) rfl (by kernel_rfl) (by kernel_rfl) (by kernel_rfl) (fun _ _ _ h => h) (Or.inl ⟨by rfl, ?_⟩) hHeld ?_
          rotate_left
          · intro u hSu
            (go_simp) <;> (with_reducible rfl)
          change wpAnyH _ _ _ _ _ _ _ (Act.put _ (some 41) _) _
          simp only [Act.put, List.setIfInBounds_toArray, List.set_cons_zero, List.set_cons_succ]
          refine wpAnyH_take (i := 2) (v := undef) rfl (by kernel_rfl) (by kernel_rfl) (by kernel_rfl) (fun _ _ _ h => h) (Or.inr ⟨by rfl, rfl⟩) hHeld ?_
          change wpAnyH _ _ _ _ _ _ _ (Act.put _ (some 42) _) _
          simp only [Act.put, List.setIfInBounds_toArray, List.set_cons_zero, List.set_cons_succ]
          refine wpAnyH_take (i := 3) (v := undef) rfl (by kernel_rfl) (by kernel_rfl) (by kernel_rfl) (fun _ _ _ h => h) (Or.inr ⟨by rfl, rfl⟩) hHeld ?_
          change wpAnyH _ _ _ _ _ _ _ (Act.put _ (some 43) _) _
          simp only [Act.put, List.setIfInBounds_toArray, List.set_cons_zero, List.set_cons_succ]
          refine wpAnyH_take (i := 4) (v := undef) rfl (by kernel_rfl) (by kernel_rfl) (by kernel_rfl) (fun _ _ _ h => h) (Or.inr ⟨by rfl, rfl⟩) hHeld ?_
          change wpAnyH _ _ _ _ _ _ _ (Act.put _ (some 44) _) _
          simp only [Act.put, List.setIfInBounds_toArray, List.set_cons_zero, List.set_cons_succ]
          refine wpAnyH_take (i := 5) (v := undef) rfl (by kernel_rfl) (by kernel_rfl) (by kernel_rfl) (fun _ _ _ h => h) (Or.inr ⟨by rfl, rfl⟩) hHeld ?_
          change wpAnyH _ _ _ _ _ _ _ (Act.put _ (some 45) _) _
          simp only [Act.put, List.setIfInBounds_toArray, List.set_cons_zero, List.set_cons_succ]
          refine wpAnyH_take (i := 6) (v := undef) rfl (by kernel_rfl) (by kernel_rfl) (by kernel_rfl) (fun _ _ _ h => h) (Or.inr ⟨by rfl, rfl⟩) hHeld ?_
          change wpAnyH _ _ _ _ _ _ _ (Act.put _ (some 46) _) _
          simp only [Act.put, List.setIfInBounds_toArray, List.set_cons_zero, List.set_cons_succ]
          refine wpAnyH_take (i := 7) (v := undef) rfl (by kernel_rfl) (by kernel_rfl) (by kernel_rfl) (fun _ _ _ h => h) (Or.inr ⟨by rfl, rfl⟩) hHeld ?_
          change wpAnyH _ _ _ _ _ _ _ (Act.put _ (some 47) _) _
          simp only [Act.put, List.setIfInBounds_toArray, List.set_cons_zero, List.set_cons_succ]
          refine wpAnyH_take (i := 8) (v := undef) rfl (by kernel_rfl) (by kernel_rfl) (by kernel_rfl) (fun _ _ _ h => h) (Or.inr ⟨by rfl, rfl⟩) hHeld ?_
          change wpAnyH _ _ _ _ _ _ _ (Act.put _ (some 48) _) _
          simp only [Act.put, List.setIfInBounds_toArray, List.set_cons_zero, List.set_cons_succ]
          refine wpAnyH_take (i := 9) (v := ?_) rfl (by kernel_rfl) (by kernel_rfl) (by kernel_rfl) (fun _ _ _ h => h) (Or.inl ⟨by rfl, ?_⟩) hHeld ?_
          rotate_left
          · intro u hSu
            (go_simp) <;> (with_reducible rfl)
          change wpAnyH _ _ _ _ _ _ _ (Act.put _ (some 49) _) _
          simp only [Act.put, List.setIfInBounds_toArray, List.set_cons_zero, List.set_cons_succ]
          refine wpAnyH_done (by kernel_rfl) ?_ _
          refine NoPanic.normal ?_
          go_wp2
          go_roundw
          case rel => exact ⟨i + 1, m, la, lc, by omega, by go_num, rfl, hm200, by show _ = _; rw [HX.out]; exact HM.out, HMX, by rw [HX.out]; exact HS.out.past B8.out.drew⟩
          case measure => simp [intOf]; omega
        | some v =>
          have CG : Hid (∀ u, Below wr.heap.size wr u → Calls Tryz.prog 76 #[.pointer (some ⟨p, 0, none⟩), kv k, .agg #[.int .i64 t, .int .u8 n]] u fun e w' => e = .returned (.tuple #[.string (strOfNums v), .bool true]) ∧ Below u.heap.size u w') := CG0
          clear CG0
          cases wi with
          | false =>
            have HX : Hid (scanN L a b t n (i + 1) = scanN L a b t n i) := by
              show _ = _
              rw [HNX, hitem]; simp
            generalize strOfNums v = S0 at CG
            clear hitem HNX
            go_wp2
            refine wp_region_noPanic ?_
            refine wp_region_held_drew (S := fun u => Below wr.heap.size wr u) (by kernel_rfl) ?_ (fun hHeld => ?_)
            · exact (Below.refl _ _).drew
            refine wpAnyH_take (i := 0) (v := ?_) rfl (by kernel_rfl) (by kernel_rfl) (by kernel_rfl) (fun _ _ _ h => h) (Or.inl ⟨by rfl, ?_⟩) hHeld ?_
            rotate_left
            · intro u hSu
              (go_simp) <;> (with_reducible rfl)
            change wpAnyH _ _ _ _ _ _ _ (Act.put _ (some 31) _) _
            simp only [Act.put, List.setIfInBounds_toArray, List.set_cons_zero, List.set_cons_succ]
            refine wpAnyH_take (i := 1) (v := ?_) rfl (by kernel_rfl) (by kernel_rfl) (by kernel_rfl) (fun _ _ _ h => h) (Or.inl ⟨by rfl, ?_⟩) hHeld ?_
            rotate_left
            · intro u hSu
              (go_simp) <;> (with_reducible rfl)
            change wpAnyH _ _ _ _ _ _ _ (Act.put _ (some 32) _) _
            simp only [Act.put, List.setIfInBounds_toArray, List.set_cons_zero, List.set_cons_succ]
            refine wpAnyH_take (i := 2) (v := ?_) rfl (by kernel_rfl) (by kernel_rfl) (by kernel_rfl) (fun _ _ _ h => h) (Or.inl ⟨by rfl, ?_⟩) hHeld ?_
            rotate_left
            · intro u hSu
              (go_simp) <;> (with_reducible rfl)
            change wpAnyH _ _ _ _ _ _ _ (Act.put _ (some 33) _) _
            simp only [Act.put, List.setIfInBounds_toArray, List.set_cons_zero, List.set_cons_succ]
            refine wpAnyH_take (i := 3) (v := ?_) rfl (by kernel_rfl) (by kernel_rfl) (by kernel_rfl) (fun _ _ _ h => h) (Or.inl ⟨by rfl, ?_⟩) hHeld ?_
            rotate_left
            · intro u hSu
              (go_simp) <;> (with_reducible rfl)
            change wpAnyH _ _ _ _ _ _ _ (Act.put _ (some 34) _) _
            simp only [Act.put, List.setIfInBounds_toArray, List.set_cons_zero, List.set_cons_succ]
            refine wpAnyH_take (i := 4) (v := kv k) rfl (by kernel_rfl) (by kernel_rfl) (by kernel_rfl) (fun _ _ _ h => h) (yieldsIf_load_mid (by rfl) _ _ rfl _ _ rfl (k.map (Value.int .u8)) _ (fun u hu => (KW.out u hu).range KK.out) Tryz.underlying38 rfl (info_keyl k KK.out)) hHeld ?_
            change wpAnyH _ _ _ _ _ _ _ (Act.put _ (some 35) _) _
            simp only [Act.put, List.setIfInBounds_toArray, List.set_cons_zero, List.set_cons_succ]
            refine wpAnyH_take (i := 5) (v := ?_) rfl (by kernel_rfl) (by kernel_rfl) (by kernel_rfl) (fun _ _ _ h => h) (Or.inl ⟨by rfl, ?_⟩) hHeld ?_
            rotate_left
            · intro u hSu
              obtain ⟨r1, r2⟩ := FT.out u hSu
              (go_simp) <;> (with_reducible rfl)
            change wpAnyH _ _ _ _ _ _ _ (Act.put _ (some 36) _) _
            simp only [Act.put, List.setIfInBounds_toArray, List.set_cons_zero, List.set_cons_succ]
            refine wpAnyH_ready (rs := [6]) (by kernel_rfl) (by simp) ?_
            refine AllReadyH.cons rfl (fun K hK => ?_) AllReadyH.nil
            go_simp
            go_at_call 76
            refine (CG.out _ hHeld).mono ?_
            rintro e v8 ⟨rfl, hb8⟩
            have B8 : Hid (Below wr.heap.size wr v8) := hHeld.trans (hb8.mono hHeld.size)
            refine hK.out _ _ ?_ (fun hHeld2 => ?_)
            · exact B8.out
            clear hK K hHeld
            have hHeld := hHeld2
            clear hHeld2
            refine wpAnyH_take (i := 7) (v := ?_) rfl (by kernel_rfl) (by kernel_rfl) (by kernel_rfl) (fun _ _ _ h => h) (Or.inl ⟨by rfl, ?_⟩) hHeld ?_
            rotate_left
            · intro u hSu
              (go_simp) <;> (with_reducible rfl)
            change wpAnyH _ _ _ _ _ _ _ (Act.put _ (some 30) _) _
            simp only [Act.put, List.setIfInBounds_toArray, List.set_cons_zero, List.set_cons_succ]
            refine wpAnyH_take (i := 8) (v := ?_) rfl (by kernel_rfl) (by kernel_rfl) (by kernel_rfl) (fun _ _ _ h => h) (Or.inl ⟨by rfl, ?_⟩) hHeld ?_
            rotate_left
            · intro u hSu
              (go_simp) <;> (with_reducible rfl)
            change wpAnyH _ _ _ _ _ _ _ (Act.put _ (some 38) _) _
            simp only [Act.put, List.setIfInBounds_toArray, List.set_cons_zero, List.set_cons_succ]
            refine wpAnyH_take (i := 9) (v := ?_) rfl (by kernel_rfl) (by kernel_rfl) (by kernel_rfl) (fun _ _ _ h => h) (Or.inl ⟨by rfl, ?_⟩) hHeld ?_
            rotate_left
            · intro u hSu
              (go_simp) <;> (with_reducible rfl)
            change wpAnyH _ _ _ _ _ _ _ (Act.put _ (some 39) _) _
            simp only [Act.put, List.setIfInBounds_toArray, List.set_cons_zero, List.set_cons_succ]
            refine wpAnyH_take (i := 10) (v := ?_) rfl (by kernel_rfl) (by kernel_rfl) (by kernel_rfl) (fun _ _ _ h => h) (Or.inl ⟨by rfl, ?_⟩) hHeld ?_
            rotate_left
            · intro u hSu
              (go_simp) <;> (with_reducible rfl)
            change wpAnyH _ _ _ _ _ _ _ (Act.put _ (some 14) _) _
            simp only [Act.put, List.setIfInBounds_toArray, List.set_cons_zero, List.set_cons_succ]
            refine wpAnyH_take (i := 11) (v := ?_) rfl (by kernel_rfl) (by kernel_rfl) (by kernel_rfl) (fun _ _ _ h => h) (Or.inl ⟨by rfl, ?_⟩) hHeld ?_
            rotate_left
            · intro u hSu
              (go_simp) <;> (with_reducible rfl)
            change wpAnyH _ _ _ _ _ _ _ (Act.put _ (some 15) _) _
            simp only [Act.put, List.setIfInBounds_toArray, List.set_cons_zero, List.set_cons_succ]
            refine wpAnyH_done (by kernel_rfl) ?_ _
            refine NoPanic.normal ?_
            clear hb8
            have K8 : Hid (∀ u, Below v8.heap.size v8 u → KeyAt u kb (ko + i * 16) k) := fun u hb => KW.out u (B8.out.trans (hb.mono B8.out.size))
            have A8 : Hid (∀ u, Below v8.heap.size v8 u → KeyAt u w.heap.size 0 a) := fun u hb => ((HS.out.past B8.out).here.past hb).a
            have E8 : Hid (∀ u, Below v8.heap.size v8 u → KeyAt u (w.heap.size + 1) 0 b) := fun u hb => ((HS.out.past B8.out).here.past hb).b
            go_wp2
            refine wp_region_noPanic ?_
            refine wp_region_held_drew (S := fun u => Below v8.heap.size v8 u) (by kernel_rfl) ?_ (fun hHeld => ?_)
            · exact (Below.refl _ _).drew
            refine wpAnyH_take (i := 0) (v := ?_) rfl (by kernel_rfl) (by kernel_rfl) (by kernel_rfl) (fun _ _ _ h => h) (Or.inl ⟨by rfl, ?_⟩) hHeld ?_
            rotate_left
            · intro u hSu
              (go_simp) <;> (with_reducible rfl)
            change wpAnyH _ _ _ _ _ _ _ (Act.put _ (some 40) _) _
            simp only [Act.put, List.setIfInBounds_toArray, List.set_cons_zero, List.set_cons_succ]
            refine wpAnyH_take (i := 1) (v := ?_) rfl (by kernel_rfl) (by kernel_rfl) (by kernel_rfl) (fun _ _ _ h => h) (Or.inl ⟨by rfl, ?_⟩) hHeld ?_
            rotate_left
            · intro u hSu
              (go_simp) <;> (with_reducible rfl)
            change wpAnyH _ _ _ _ _ _ _ (Act.put _ (some 41) _) _
            simp only [Act.put, List.setIfInBounds_toArray, List.set_cons_zero, List.set_cons_succ]
            refine wpAnyH_take (i := 2) (v := ?_) rfl (by kernel_rfl) (by kernel_rfl) (by kernel_rfl) (fun _ _ _ h => h) (Or.inl ⟨by rfl, ?_⟩) hHeld ?_
            rotate_left
            · intro u hSu
              (go_simp) <;> (with_reducible rfl)
            change wpAnyH _ _ _ _ _ _ _ (Act.put _ (some 42) _) _
            simp only [Act.put, List.setIfInBounds_toArray, List.set_cons_zero, List.set_cons_succ]
            refine wpAnyH_take (i := 3) (v := ?_) rfl (by kernel_rfl) (by kernel_rfl) (by kernel_rfl) (fun _ _ _ h => h) (Or.inl ⟨by rfl, ?_⟩) hHeld ?_
            rotate_left
            · intro u hSu
              (go_simp) <;> (with_reducible rfl)
            change wpAnyH _ _ _ _ _ _ _ (Act.put _ (some 43) _) _
            simp only [Act.put, List.setIfInBounds_toArray, List.set_cons_zero, List.set_cons_succ]
            refine wpAnyH_take (i := 4) (v := ?_) rfl (by kernel_rfl) (by kernel_rfl) (by kernel_rfl) (fun _ _ _ h => h) (Or.inl ⟨by rfl, ?_⟩) hHeld ?_
            rotate_left
            · intro u hSu
              (go_simp) <;> (with_reducible rfl)
            change wpAnyH _ _ _ _ _ _ _ (Act.put _ (some 44) _) _
            simp only [Act.put, List.setIfInBounds_toArray, List.set_cons_zero, List.set_cons_succ]
            refine wpAnyH_take (i := 5) (v := kv k) rfl (by kernel_rfl) (by kernel_rfl) (by kernel_rfl) (fun _ _ _ h => h) (yieldsIf_load_mid (by rfl) _ _ rfl _ _ rfl (k.map (Value.int .u8)) _ (fun u hu => (K8.out u hu).range KK.out) Tryz.underlying38 rfl (info_keyl k KK.out)) hHeld ?_
            change wpAnyH _ _ _ _ _ _ _ (Act.put _ (some 45) _) _
            simp only [Act.put, List.setIfInBounds_toArray, List.set_cons_zero, List.set_cons_succ]
            refine wpAnyH_take (i := 6) (v := kv a) rfl (by kernel_rfl) (by kernel_rfl) (by kernel_rfl) (fun _ _ _ h => h) (yieldsIf_load_mid (by rfl) _ _ rfl _ _ rfl (a.map (Value.int .u8)) _ (fun u hu => (A8.out u hu).range KA.out) Tryz.underlying38 rfl (info_keyl a KA.out)) hHeld ?_
            change wpAnyH _ _ _ _ _ _ _ (Act.put _ (some 46) _) _
            simp only [Act.put, List.setIfInBounds_toArray, List.set_cons_zero, List.set_cons_succ]
            refine wpAnyH_take (i := 7) (v := kv b) rfl (by kernel_rfl) (by kernel_rfl) (by kernel_rfl) (fun _ _ _ h => h) (yieldsIf_load_mid (by rfl) _ _ rfl _ _ rfl (b.map (Value.int .u8)) _ (fun u hu => (E8.out u hu).range KB.out) Tryz.underlying38 rfl (info_keyl b KB.out)) hHeld ?_
            change wpAnyH _ _ _ _ _ _ _ (Act.put _ (some 47) _) _
            simp only [Act.put, List.setIfInBounds_toArray, List.set_cons_zero, List.set_cons_succ]
            refine wpAnyH_ready (rs := [8]) (by kernel_rfl) (by simp) ?_
            refine AllReadyH.cons rfl (fun K hK => ?_) AllReadyH.nil
            go_simp
            go_at_call 77
            refine (CW.out _).mono ?_
            rintro e v9 ⟨rfl, hbv9⟩
            have B9 : Hid (Below v8.heap.size v8 v9) := hHeld.trans (hbv9.mono hHeld.size)
            clear hbv9
            refine hK.out _ _ ?_ (fun hHeld2 => ?_)
            · exact B9.out
            clear hK K hHeld
            have hHeld := hHeld2
            clear hHeld2
            refine wpAnyH_take (i := 9) (v := ?_) rfl (by kernel_rfl) (by kernel_rfl) (by kernel_rfl) (fun _ _ _ h => h) (Or.inl ⟨by rfl, ?_⟩) hHeld ?_
            rotate_left
            · intro u hSu
              (go_simp) <;> (with_reducible rfl)
            change wpAnyH _ _ _ _ _ _ _ (Act.put _ (some 49) _) _
            simp only [Act.put, List.setIfInBounds_toArray, List.set_cons_zero, List.set_cons_succ]
            refine wpAnyH_done (by kernel_rfl) ?_ _
            refine NoPanic.normal ?_
            go_wp2
            go_roundw
            case rel => exact ⟨i + 1, m, la, lc, by omega, by go_num, rfl, hm200, by show _ = _; rw [HX.out]; exact HM.out, HMX, by rw [HX.out]; exact (HS.out.past B8.out).past B9.out⟩
            case measure => simp [intOf]; omega
          | true =>
            have HX : Hid (scanN L a b t n (i + 1) = scanN L a b t n i ++ [(k, v)]) := by
              show _ = _
              rw [HNX, hitem]; simp
            have HFL : Hid ((scanN L a b t n i).flatMap encI ++ encI (k, v) = (scanN L a b t n (i + 1)).flatMap encI) := by show _ = _; rw [HX.out, List.flatMap_append]; simp
            clear hitem HNX
            go_wp2
            refine wp_region_noPanic ?_
            refine wp_region_held_drew (S := fun u => Below wr.heap.size wr u) (by kernel_rfl) ?_ (fun hHeld => ?_)
            · exact (Below.refl _ _).drew
            refine wpAnyH_take (i := 0) (v := ?_) rfl (by kernel_rfl) (by kernel_rfl) (by kernel_rfl) (fun _ _ _ h => h) (Or.inl ⟨by rfl, ?_⟩) hHeld ?_
            rotate_left
            · intro u hSu
              (go_simp) <;> (with_reducible rfl)
            change wpAnyH _ _ _ _ _ _ _ (Act.put _ (some 31) _) _
            simp only [Act.put, List.setIfInBounds_toArray, List.set_cons_zero, List.set_cons_succ]
            refine wpAnyH_take (i := 1) (v := ?_) rfl (by kernel_rfl) (by kernel_rfl) (by kernel_rfl) (fun _ _ _ h => h) (Or.inl ⟨by rfl, ?_⟩) hHeld ?_
            rotate_left
            · intro u hSu
              (go_simp) <;> (with_reducible rfl)
            change wpAnyH _ _ _ _ _ _ _ (Act.put _ (some 32) _) _
            simp only [Act.put, List.setIfInBounds_toArray, List.set_cons_zero, List.set_cons_succ]
            refine wpAnyH_take (i := 2) (v := ?_) rfl (by kernel_rfl) (by kernel_rfl) (by kernel_rfl) (fun _ _ _ h => h) (Or.inl ⟨by rfl, ?_⟩) hHeld ?_
            rotate_left
            · intro u hSu
              (go_simp) <;> (with_reducible rfl)
            change wpAnyH _ _ _ _ _ _ _ (Act.put _ (some 33) _) _
            simp only [Act.put, List.setIfInBounds_toArray, List.set_cons_zero, List.set_cons_succ]
            refine wpAnyH_take (i := 3) (v := ?_) rfl (by kernel_rfl) (by kernel_rfl) (by kernel_rfl) (fun _ _ _ h => h) (Or.inl ⟨by rfl, ?_⟩) hHeld ?_
            rotate_left
            · intro u hSu
              (go_simp) <;> (with_reducible rfl)
            change wpAnyH _ _ _ _ _ _ _ (Act.put _ (some 34) _) _
            simp only [Act.put, List.setIfInBounds_toArray, List.set_cons_zero, List.set_cons_succ]
            refine wpAnyH_take (i := 4) (v := kv k) rfl (by kernel_rfl) (by kernel_rfl) (by kernel_rfl) (fun _ _ _ h => h) (yieldsIf_load_mid (by rfl) _ _ rfl _ _ rfl (k.map (Value.int .u8)) _ (fun u hu => (KW.out u hu).range KK.out) Tryz.underlying38 rfl (info_keyl k KK.out)) hHeld ?_
            change wpAnyH _ _ _ _ _ _ _ (Act.put _ (some 35) _) _
            simp only [Act.put, List.setIfInBounds_toArray, List.set_cons_zero, List.set_cons_succ]
            refine wpAnyH_take (i := 5) (v := ?_) rfl (by kernel_rfl) (by kernel_rfl) (by kernel_rfl) (fun _ _ _ h => h) (Or.inl ⟨by rfl, ?_⟩) hHeld ?_
            rotate_left
            · intro u hSu
              obtain ⟨r1, r2⟩ := FT.out u hSu
              (go_simp) <;> (with_reducible rfl)
            change wpAnyH _ _ _ _ _ _ _ (Act.put _ (some 36) _) _
            simp only [Act.put, List.setIfInBounds_toArray, List.set_cons_zero, List.set_cons_succ]
            refine wpAnyH_ready (rs := [6]) (by kernel_rfl) (by simp) ?_
            refine AllReadyH.cons rfl (fun K hK => ?_) AllReadyH.nil
            go_simp
            go_at_call 76
            refine (CG.out _ hHeld).mono ?_
            rintro e v8 ⟨rfl, hb8⟩
            have B8 : Hid (Below wr.heap.size wr v8) := hHeld.trans (hb8.mono hHeld.size)
            refine hK.out _ _ ?_ (fun hHeld2 => ?_)
            · exact B8.out
            clear hK K hHeld
            have hHeld := hHeld2
            clear hHeld2
            refine wpAnyH_take (i := 7) (v := ?_) rfl (by kernel_rfl) (by kernel_rfl) (by kernel_rfl) (fun _ _ _ h => h) (Or.inl ⟨by rfl, ?_⟩) hHeld ?_
            rotate_left
            · intro u hSu
              (go_simp) <;> (with_reducible rfl)
            change wpAnyH _ _ _ _ _ _ _ (Act.put _ (some 30) _) _
            simp only [Act.put, List.setIfInBounds_toArray, List.set_cons_zero, List.set_cons_succ]
            refine wpAnyH_take (i := 8) (v := ?_) rfl (by kernel_rfl) (by kernel_rfl) (by kernel_rfl) (fun _ _ _ h => h) (Or.inl ⟨by rfl, ?_⟩) hHeld ?_
            rotate_left
            · intro u hSu
              (go_simp) <;> (with_reducible rfl)
            change wpAnyH _ _ _ _ _ _ _ (Act.put _ (some 38) _) _
            simp only [Act.put, List.setIfInBounds_toArray, List.set_cons_zero, List.set_cons_succ]
            refine wpAnyH_take (i := 9) (v := ?_) rfl (by kernel_rfl) (by kernel_rfl) (by kernel_rfl) (fun _ _ _ h => h) (Or.inl ⟨by rfl, ?_⟩) hHeld ?_
            rotate_left
            · intro u hSu
              (go_simp) <;> (with_reducible rfl)
            change wpAnyH _ _ _ _ _ _ _ (Act.put _ (some 39) _) _
            simp only [Act.put, List.setIfInBounds_toArray, List.set_cons_zero, List.set_cons_succ]
            refine wpAnyH_take (i := 10) (v := ?_) rfl (by kernel_rfl) (by kernel_rfl) (by kernel_rfl) (fun _ _ _ h => h) (Or.inl ⟨by rfl, ?_⟩) hHeld ?_
            rotate_left
            · intro u hSu
              (go_simp) <;> (with_reducible rfl)
            change wpAnyH _ _ _ _ _ _ _ (Act.put _ (some 14) _) _
            simp only [Act.put, List.setIfInBounds_toArray, List.set_cons_zero, List.set_cons_succ]
            refine wpAnyH_take (i := 11) (v := ?_) rfl (by kernel_rfl) (by kernel_rfl) (by kernel_rfl) (fun _ _ _ h => h) (Or.inl ⟨by rfl, ?_⟩) hHeld ?_
            rotate_left
            · intro u hSu
              (go_simp) <;> (with_reducible rfl)
            change wpAnyH _ _ _ _ _ _ _ (Act.put _ (some 15) _) _
            simp only [Act.put, List.setIfInBounds_toArray, List.set_cons_zero, List.set_cons_succ]
            refine wpAnyH_done (by kernel_rfl) ?_ _
            refine NoPanic.normal ?_
            clear hb8
            have K8 : Hid (∀ u, Below v8.heap.size v8 u → KeyAt u kb (ko + i * 16) k) := fun u hb => KW.out u (B8.out.trans (hb.mono B8.out.size))
            have A8 : Hid (∀ u, Below v8.heap.size v8 u → KeyAt u w.heap.size 0 a) := fun u hb => ((HS.out.past B8.out).here.past hb).a
            have E8 : Hid (∀ u, Below v8.heap.size v8 u → KeyAt u (w.heap.size + 1) 0 b) := fun u hb => ((HS.out.past B8.out).here.past hb).b
            go_wp2
            refine wp_region_noPanic ?_
            refine wp_region_held_drew (S := fun u => Below v8.heap.size v8 u) (by kernel_rfl) ?_ (fun hHeld => ?_)
            · exact (Below.refl _ _).drew
            refine wpAnyH_take (i := 0) (v := ?_) rfl (by kernel_rfl) (by kernel_rfl) (by kernel_rfl) (fun _ _ _ h => h) (Or.inl ⟨by rfl, ?_⟩) hHeld ?_
            rotate_left
            · intro u hSu
              (go_simp) <;> (with_reducible rfl)
            change wpAnyH _ _ _ _ _ _ _ (Act.put _ (some 40) _) _
            simp only [Act.put, List.setIfInBounds_toArray, List.set_cons_zero, List.set_cons_succ]
            refine wpAnyH_take (i := 1) (v := ?_) rfl (by kernel_rfl) (by kernel_rfl) (by kernel_rfl) (fun _ _ _ h => h) (Or.inl ⟨by rfl, ?_⟩) hHeld ?_
            rotate_left
            · intro u hSu
              (go_simp) <;> (with_reducible rfl)
            change wpAnyH _ _ _ _ _ _ _ (Act.put _ (some 41) _) _
            simp only [Act.put, List.setIfInBounds_toArray, List.set_cons_zero, List.set_cons_succ]
            refine wpAnyH_take (i := 2) (v := ?_) rfl (by kernel_rfl) (by kernel_rfl) (by kernel_rfl) (fun _ _ _ h => h) (Or.inl ⟨by rfl, ?_⟩) hHeld ?_
            rotate_left
            · intro u hSu
              (go_simp) <;> (with_reducible rfl)
            change wpAnyH _ _ _ _ _ _ _ (Act.put _ (some 42) _) _
            simp only [Act.put, List.setIfInBounds_toArray, List.set_cons_zero, List.set_cons_succ]
            refine wpAnyH_take (i := 3) (v := ?_) rfl (by kernel_rfl) (by kernel_rfl) (by kernel_rfl) (fun _ _ _ h => h) (Or.inl ⟨by rfl, ?_⟩) hHeld ?_
            rotate_left
            · intro u hSu
              (go_simp) <;> (with_reducible rfl)
            change wpAnyH _ _ _ _ _ _ _ (Act.put _ (some 43) _) _
            simp only [Act.put, List.setIfInBounds_toArray, List.set_cons_zero, List.set_cons_succ]
            refine wpAnyH_take (i := 4) (v := ?_) rfl (by kernel_rfl) (by kernel_rfl) (by kernel_rfl) (fun _ _ _ h => h) (Or.inl ⟨by rfl, ?_⟩) hHeld ?_
            rotate_left
            · intro u hSu
              (go_simp) <;> (with_reducible rfl)
            change wpAnyH _ _ _ _ _ _ _ (Act.put _ (some 44) _) _
            simp only [Act.put, List.setIfInBounds_toArray, List.set_cons_zero, List.set_cons_succ]
            refine wpAnyH_take (i := 5) (v := kv k) rfl (by kernel_rfl) (by kernel_rfl) (by kernel_rfl) (fun _ _ _ h => h) (yieldsIf_load_mid (by rfl) _ _ rfl _ _ rfl (k.map (Value.int .u8)) _ (fun u hu => (K8.out u hu).range KK.out) Tryz.underlying38 rfl (info_keyl k KK.out)) hHeld ?_
            change wpAnyH _ _ _ _ _ _ _ (Act.put _ (some 45) _) _
            simp only [Act.put, List.setIfInBounds_toArray, List.set_cons_zero, List.set_cons_succ]
            refine wpAnyH_take (i := 6) (v := kv a) rfl (by kernel_rfl) (by kernel_rfl) (by kernel_rfl) (fun _ _ _ h => h) (yieldsIf_load_mid (by rfl) _ _ rfl _ _ rfl (a.map (Value.int .u8)) _ (fun u hu => (A8.out u hu).range KA.out) Tryz.underlying38 rfl (info_keyl a KA.out)) hHeld ?_
            change wpAnyH _ _ _ _ _ _ _ (Act.put _ (some 46) _) _
            simp only [Act.put, List.setIfInBounds_toArray, List.set_cons_zero, List.set_cons_succ]
            refine wpAnyH_take (i := 7) (v := kv b) rfl (by kernel_rfl) (by kernel_rfl) (by kernel_rfl) (fun _ _ _ h => h) (yieldsIf_load_mid (by rfl) _ _ rfl _ _ rfl (b.map (Value.int .u8)) _ (fun u hu => (E8.out u hu).range KB.out) Tryz.underlying38 rfl (info_keyl b KB.out)) hHeld ?_
            change wpAnyH _ _ _ _ _ _ _ (Act.put _ (some 47) _) _
            simp only [Act.put, List.setIfInBounds_toArray, List.set_cons_zero, List.set_cons_succ]
            refine wpAnyH_ready (rs := [8]) (by kernel_rfl) (by simp) ?_
            refine AllReadyH.cons rfl (fun K hK => ?_) AllReadyH.nil
            go_simp
            go_at_call 77
            refine (CW.out _).mono ?_
            rintro e v9 ⟨rfl, hbv9⟩
            have B9 : Hid (Below v8.heap.size v8 v9) := hHeld.trans (hbv9.mono hHeld.size)
            clear hbv9
            refine hK.out _ _ ?_ (fun hHeld2 => ?_)
            · exact B9.out
            clear hK K hHeld
            have hHeld := hHeld2
            clear hHeld2
            refine wpAnyH_take (i := 9) (v := ?_) rfl (by kernel_rfl) (by kernel_rfl) (by kernel_rfl) (fun _ _ _ h => h) (Or.inl ⟨by rfl, ?_⟩) hHeld ?_
            rotate_left
            · intro u hSu
              (go_simp) <;> (with_reducible rfl)
            change wpAnyH _ _ _ _ _ _ _ (Act.put _ (some 49) _) _
            simp only [Act.put, List.setIfInBounds_toArray, List.set_cons_zero, List.set_cons_succ]
            refine wpAnyH_done (by kernel_rfl) ?_ _
            refine NoPanic.normal ?_
            have HS9 : Hid (ScR w w1 v9 a b t n (.slice la m lc) (scanN L a b t n i)) := (HS.out.past B8.out).past B9.out
            go_wp2_with (first | ((with_reducible show wpList _ _ _ (Oper.mk (some 54) _ _ _ _ _ :: _) _ _); refine wpList_load_keyD 54 (by rfl) (by rfl) _ (by rfl) kb (ko + i * 16) (by rfl) k KK.out (K8.out _ B9.out) ?_) | ((with_reducible show wpList _ _ _ (Oper.mk (some 56) _ _ _ _ _ :: _) _ _); refine wpList_build_itm 56 (by rfl) (by rfl) (.tmp 54) (.tmp 55) (by rfl) k v KK.out (by rfl) (by rfl) ?_) | ((with_reducible show wpList _ _ _ (Oper.mk (some 57) _ _ _ _ _ :: _) _ _); refine wpList_build_itms 57 (by rfl) (by rfl) (.tmp 56) (by rfl) (k, v) KK.out (by rfl) ?_) | (at_builtin; refine wpList_own itmEl (w0 := w1) rfl (.tmp 50) (.tmp 57) rfl _ m ((scanN L a b t n i).flatMap encI) (encI (k, v)) rfl (by rw [HM.out] at HS9 ⊢; exact HS9.out.own.alloc _) _ _ _ rfl (by rw [encI_len KK.out]) (lies_made _ _ _) (encI_one (k, v)) (fun h => by cases h) (m + 1) rfl (by omega) _ HFL.out ?_; intro a6 c6 w6 h6 hg6; have O6 : Hid (OwnB 132 17 w1 w6 (.slice a6 (m + 1) c6) (m + 1) ((scanN L a b t n (i + 1)).flatMap encI)) := h6; clear h6 hg6))
            have HM2 : Hid (m + 1 = (scanN L a b t n (i + 1)).length) := by show _ = _; rw [HX.out, List.length_append, ← HM.out]; rfl
            have h201 := HLEN.out (i + 1)
            rw [← HM2.out] at h201
            go_roundw
            case rel => exact ⟨i + 1, m + 1, a6, c6, by omega, by go_num, rfl, h201, HM2, by show ((m + 1 : Nat) : Int) ≤ max most 0; omega, ⟨HB1.out, by rw [← HM2.out]; exact O6.out⟩⟩
            case measure => simp [intOf]; omega
    · obtain rfl : i = N := by omega
      have HX : Hid (scanN L a b t n i = R) := HALL.out (by rw [← HM.out]; exact HMX.out)
      go_wp2
      go_ret
      exact HEND.out _ _ _ _ HS.out HX.out
end Go.Proofs.YtileidbdmpeciaaGreat

