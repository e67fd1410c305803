/-
  The landed writer: Text, Key.
  The landed writer: Text, and where its bytes lie behind it.
  Bytes that the document's own writers make: what is there, one piece behind another.
-/
import Derived.Test.YtpnjcflfnoamoaaGreatWireW1
import Derived.Test.YtpnjcflfnoamoaaGreatAu33
import Derived.Test.YtpnjcflfnoamoaaGreatAu40
namespace Go.Proofs.YtpnjcflfnoamoaaGreat
open Go.RowKit
set_option linter.unusedVariables false

set_option maxHeartbeats 1000000 in
set_option maxRecDepth 8000 in
theorem wkey_any (p : Nat) (zs k : List Int) (X : Foot) (w : World) (h : Wtr w p zs X) (hm : zs.length ≤ 1000000) (hk : Ky k) :
    Calls Tryz.prog 22 #[.pointer (some ⟨p, 0, none⟩), kv k] w fun e w' => e = .returned (.tuple #[]) ∧ Wrote w w' p (zs ++ k) X := by
  obtain ⟨U, hU⟩ : ∃ U, U = w.alloc (.cells (kcs k) 57) := ⟨_, rfl⟩
  have HU : Hid (w.alloc (.cells (kcs k) 57) = U) := hU.symm
  have hUb : Below w.heap.size w U := by rw [hU]; exact (Below.refl _ _).alloc (Nat.le_refl _) _
  have hrow : Row U (some ⟨w.heap.size, 0, none⟩) k := by
    rw [hU]
    refine ⟨hk.bytes, .inr ⟨w.heap.size, 0, rfl, fun j hj => ?_⟩⟩
    exact (KeyAt.made w 57 k hk).cell j (by rw [hk.len] at hj; exact hj)
  have hlt : w.heap.size < U.heap.size := by rw [hU]; simp
  have HPW : Hid (p < w.heap.size) := h.hi
  have HW : Hid (Wtr U p zs X) := h.past hUb
  have hip := HW.out.hi
  obtain ⟨⟨a, c, q0, own0, hxo⟩, f0, hbz, hxp, hxl⟩ := HW.out
  obtain ⟨len, hl⟩ : ∃ len, len = zs.length := ⟨_, rfl⟩
  rw [← hl] at q0 own0 hm hxo
  have HL : Hid (len = zs.length) := hl
  have HKL : Hid (k.length = 16) := hk.len
  obtain ⟨G, hG⟩ : ∃ G : Foot, G = fun j => (Value.slice a len c).ownBlock = some j := ⟨_, rfl⟩
  have hGp : ∀ k, G k → p < k := fun k hk => by rw [hG] at hk; exact (own0.lt k hk).1
  have HKU : Hid (∀ u, Chg U u G → u.cell? ⟨p, 0, none⟩ = some (.slice a len c) ∧ u.frozen? ⟨p, 0, none⟩ = false) := fun u hc => by
    have hb := hc.block p hip (fun e => absurd (hGp p e) (Nat.lt_irrefl p))
    exact ⟨(cell_of_block hb 0).1.trans q0, (cell_of_block hb 0).2.trans f0⟩
  have HO : Hid (U.drew.ownsRow (p + 1) 5 1 (.slice a len c) len (bs zs)) := own_below own0 (Below.refl _ _).drew (Nat.le_refl _)
  have HR : Hid (Row U.drew (some ⟨w.heap.size, 0, none⟩) k) := ⟨hrow.bytes, hrow.cells⟩
  have HG : Hid (∀ j, (Value.slice a len c).ownBlock = some j → G j) := fun j hj => by rw [hG]; exact hj
  have HBZ : Hid (Bys zs) := hbz
  have HE : Hid (∀ w6 a6 c6, Chg U w6 G → w6.ownsRow (p + 1) 5 1 (.slice a6 (len + 16) c6) (len + 16) (bs (zs ++ k)) → (∀ k, (Value.slice a6 (len + 16) c6).ownBlock = some k → X k ∨ w.heap.size ≤ k) → Wrote w (w6.setCell ⟨p, 0, none⟩ (.slice a6 (len + 16) c6)) p (zs ++ k) X) := fun w6 a6 c6 hc ho hy => by
    have r := HW.out.put (Y := fun k => X k ∨ w.heap.size ≤ k) hk.bytes hc hGp ho (by rw [List.length_append, ← HL.out, HKL.out]) hy
    refine ⟨_, r.1, (Chg.of_below hUb X).trans (r.2.mono (Y := X) (fun k _ e => ?_)) (fun _ _ x => x), fun k e => ?_⟩
    · rcases e with rfl | e
      · exact hxp
      · rw [hG] at e; exact hxo k e
    · rw [World.size_setCell]
      rcases e with rfl | e
      · exact ⟨.inl hxp, Nat.lt_of_lt_of_le hip hc.size⟩
      · exact ⟨e.1, e.2.2⟩
  have HX : Hid (∀ k, (Value.slice a len c).ownBlock = some k → X k) := hxo
  have HH : Hid (p + 1 ≤ U.drew.heap.size) := hip
  have HSZ : Hid (w.heap.size ≤ U.heap.size) := hUb.size
  have HC0 : Hid (Chg U U.drew G) := (Chg.refl _ _).drew
  clear own0 hl hbz hG hrow hlt hUb hU h hGp hxo hxp hxl
  go_enter Tryz.func22, Tryz.ntmps22
  go_wp2
  rw [HU.out]
  refine wp_region_noPanic ?_
  refine region_till 9 (fun u => Chg U u G) (by kernel_rfl) ?_ (fun hHeld => ?_)
  · exact (Chg.refl _ _).drew
  refine till_take (i := 0) (v := ?_) 0 (by kernel_rfl) (Or.inl rfl) (by kernel_rfl) rfl (by kernel_rfl) (by kernel_rfl) (by kernel_rfl) (fun _ _ _ h => h) (Or.inl ⟨by rfl, ?_⟩) hHeld ?_
  rotate_left
  · intro u hSu
    (go_simp) <;> (with_reducible rfl)
  change wpTill _ _ _ _ _ _ _ _ (Act.put _ (some 4) _) _
  simp only [Act.put, List.setIfInBounds_toArray, List.set_cons_zero, List.set_cons_succ]
  refine till_take (i := 1) (v := ?_) 1 (by kernel_rfl) (Or.inl rfl) (by kernel_rfl) rfl (by kernel_rfl) (by kernel_rfl) (by kernel_rfl) (fun _ _ _ h => h) (Or.inl ⟨by rfl, ?_⟩) hHeld ?_
  rotate_left
  · intro u hSu
    (go_simp) <;> (with_reducible rfl)
  change wpTill _ _ _ _ _ _ _ _ (Act.put _ (some 5) _) _
  simp only [Act.put, List.setIfInBounds_toArray, List.set_cons_zero, List.set_cons_succ]
  refine till_take (i := 2) (v := ?_) 2 (by kernel_rfl) (Or.inl rfl) (by kernel_rfl) rfl (by kernel_rfl) (by kernel_rfl) (by kernel_rfl) (fun _ _ _ h => h) (Or.inl ⟨by rfl, ?_⟩) hHeld ?_
  rotate_left
  · intro u hSu
    (go_simp) <;> (with_reducible rfl)
  change wpTill _ _ _ _ _ _ _ _ (Act.put _ (some 6) _) _
  simp only [Act.put, List.setIfInBounds_toArray, List.set_cons_zero, List.set_cons_succ]
  refine till_take (i := 3) (v := ?_) 3 (by kernel_rfl) (Or.inl rfl) (by kernel_rfl) rfl (by kernel_rfl) (by kernel_rfl) (by kernel_rfl) (fun _ _ _ h => h) (Or.inl ⟨by rfl, ?_⟩) hHeld ?_
  rotate_left
  · intro u hSu
    (go_simp) <;> (with_reducible rfl)
  change wpTill _ _ _ _ _ _ _ _ (Act.put _ (some 7) _) _
  simp only [Act.put, List.setIfInBounds_toArray, List.set_cons_zero, List.set_cons_succ]
  refine till_take (i := 4) (v := ?_) 4 (by kernel_rfl) (Or.inl rfl) (by kernel_rfl) rfl (by kernel_rfl) (by kernel_rfl) (by kernel_rfl) (fun _ _ _ h => h) (Or.inl ⟨by rfl, ?_⟩) hHeld ?_
  rotate_left
  · intro u hSu
    obtain ⟨q1, q3⟩ := HKU.out u hSu
    (go_simp) <;> (with_reducible rfl)
  change wpTill _ _ _ _ _ _ _ _ (Act.put _ (some 8) _) _
  simp only [Act.put, List.setIfInBounds_toArray, List.set_cons_zero, List.set_cons_succ]
  refine till_take (i := 5) (v := ?_) 5 (by kernel_rfl) (Or.inl rfl) (by kernel_rfl) rfl (by kernel_rfl) (by kernel_rfl) (by kernel_rfl) (fun _ _ _ h => h) (Or.inl ⟨by rfl, ?_⟩) hHeld ?_
  rotate_left
  · intro u hSu
    (go_simp) <;> (with_reducible rfl)
  change wpTill _ _ _ _ _ _ _ _ (Act.put _ (some 9) _) _
  simp only [Act.put, List.setIfInBounds_toArray, List.set_cons_zero, List.set_cons_succ]
  refine till_ready (rs := [6]) (by kernel_rfl) (by simp) ?_
  refine AllTill.cons rfl (fun K hK => ?_) AllTill.nil
  refine step_append_row_at rfl (.tmp 8) (.tmp 9) rfl (p + 1) (.slice a len c) len zs k rfl HO.out _ 16 16 rfl HR.out HKL.out (fun e => by cases e) HBZ.out (by omega) HH.out ?_; intro a6 c6 w6 o6 g6 t6; have O6 : Hid (w6.ownsRow (p + 1) 5 1 (.slice a6 (len + 16) c6) (len + 16) (bs (zs ++ k))) := o6; have C6 : Hid (Chg U w6 G) := HC0.out.trans (Chg.of_grown g6 (X := G) (fun k e => HG.out k e)) (fun _ _ x => x); have T6 : Hid (∀ k, (Value.slice a6 (len + 16) c6).ownBlock = some k → X k ∨ w.heap.size ≤ k) := fun k hk => by { rcases t6 with e | e; exact .inl (HX.out k (e ▸ hk)); rw [e] at hk; injection hk with hk; exact .inr (hk ▸ HSZ.out) }; clear o6 g6 t6
  refine hK.out _ _ ?_ (fun hHeld2 => ?_)
  · exact C6.out
  clear hK K hHeld
  have hHeld := hHeld2
  clear hHeld2
  change wpTill _ _ _ _ _ _ _ _ (Act.put _ (some 10) _) _
  simp only [Act.put, List.setIfInBounds_toArray, List.set_cons_zero, List.set_cons_succ]
  refine till_take (i := 7) (v := ?_) 8 (by kernel_rfl) (Or.inr (by kernel_rfl)) (by kernel_rfl) rfl (by kernel_rfl) (by kernel_rfl) (by kernel_rfl) (fun _ _ _ h => h) (Or.inl ⟨by rfl, ?_⟩) hHeld ?_
  rotate_left
  · intro u hSu
    (go_simp) <;> (with_reducible rfl)
  change wpTill _ _ _ _ _ _ _ _ (Act.put _ (some 11) _) _
  simp only [Act.put, List.setIfInBounds_toArray, List.set_cons_zero, List.set_cons_succ]
  refine till_take (i := 8) (v := ?_) 8 (by kernel_rfl) (Or.inl rfl) (by kernel_rfl) rfl (by kernel_rfl) (by kernel_rfl) (by kernel_rfl) (fun _ _ _ h => h) (Or.inl ⟨by rfl, ?_⟩) hHeld ?_
  rotate_left
  · intro u hSu
    (go_simp) <;> (with_reducible rfl)
  change wpTill _ _ _ _ _ _ _ _ (Act.put _ (some 12) _) _
  simp only [Act.put, List.setIfInBounds_toArray, List.set_cons_zero, List.set_cons_succ]
  refine till_last (by kernel_rfl) (by kernel_rfl) rfl (fun K hK => ?_)
  (obtain ⟨q1, q3⟩ := HKU.out w6 C6.out); go_simp; refine hK.out _ _ ?_; refine NoPanic.normal ?_; clear hK K hHeld q1 q3
  go_wp2
  go_end0
  exact ⟨rfl, HE.out w6 a6 c6 C6.out O6.out T6.out⟩
end Go.Proofs.YtpnjcflfnoamoaaGreat

namespace Go.Proofs.YtpnjcflfnoamoaaGreat
open Go.RowKit
set_option linter.unusedVariables false

/-- A text's bytes behind bytes of the call's own: in their block, or in a new one. -/
theorem run_append_str_at (w : World) (base t u ty e : Nat) (i : TypeInfo) (ht : Tryz.prog.underlying t = some (.slice e)) (hu : Tryz.prog.underlying u = some .string) (hi : Tryz.prog.info? e = some i) (hz : i.zero = some (.int .u8 0)) (hsize : i.size = 1) (hby : i.bytes = 1)
    (v : Value) (n : Nat) (xs : List Value) (hown : w.ownsRow base e 1 v n xs) (s : ByteArray) (h63 : n + s.size ≤ maxLen) (hbytes : n + s.size ≤ 140737488355328) (hbase : base ≤ w.heap.size) :
    ∃ v' w', (Builtin.append_ #[t, u] ty #[v, .string s]).run Tryz.prog w = .ok v' w' ∧ w'.ownsRow base e 1 v' (n + s.size) (xs ++ Lib.strCells s) ∧ w.grownBy w' v.ownBlock ∧ (v'.ownBlock = v.ownBlock ∨ ∀ k, v'.ownBlock = some k → w.heap.size ≤ k) := by
  have hown' := hown
  rcases hown.2 with ⟨rfl, rfl⟩ | ⟨g, cap, cur, rfl, hbg, hg, hnc, hcm, hcs, htake⟩
  · obtain ⟨v', w', hr, h2, h3, _⟩ := Lib.run_append_own_string (P := Tryz.prog) w w.heap.size t u ty e i ht hu hi hz hsize hby (.slice none 0 0) 0 xs ⟨hown.1, .inl ⟨rfl, rfl⟩⟩ s h63 hbytes (Nat.le_refl _)
    exact ⟨v', w', hr, ⟨h2.1, h2.2.imp id (fun ⟨g, c, r, e1, e2, e3⟩ => ⟨g, c, r, e1, Nat.le_trans hbase e2, e3⟩)⟩, h3, .inr (fun k hk => (h2.lt k hk).1)⟩
  · have hxl : xs.length = n := by simpa using hown.1
    obtain ⟨v', w', hr, h2, h3, _⟩ := Lib.run_append_own_string (P := Tryz.prog) w base t u ty e i ht hu hi hz hsize hby _ n xs hown' s h63 hbytes hbase
    refine ⟨v', w', hr, h2, h3, ?_⟩
    by_cases hroom : n + s.size ≤ cap
    · have hcs' : cur.size = cap := by simpa using hcs
      have hr2 := Lib.run_append_room_string (P := Tryz.prog) w t u ty e i ht hu hi hsize g n cap cur hg s hroom (by omega)
      rw [hr] at hr2
      injection hr2 with e1 e2
      left
      rw [e1]
      rfl
    · have hr2 := Lib.run_append_grow_string (P := Tryz.prog) w t u ty e i (.int .u8 0) ht hu hi hz ⟨g, 0, none⟩ n cap xs (by rw [hsize]; omega) (hown.cells (g := g) rfl) s (by omega) (by unfold maxLen at h63; omega) (by rw [hby]; exact growslice_fits (by omega) (by omega))
      rw [hr] at hr2
      injection hr2 with e1 e2
      right
      intro k hk
      rw [e1] at hk
      injection hk with hk
      exact Nat.le_of_eq hk
theorem wpList_append_str_at (w : World) {ops : Array Oper} {rest : List Oper} {o : Oper} {a : Act} {Q : Exit → Act → World → Prop} (hgd : o.guard = none) (sl x : Operand) (t u : TypeId)
    (ho : o.op = .call { callee := .builtin .append, args := #[sl, x], argTypes := #[t, u] })
    (base : Nat) (e : TypeId) (i : TypeInfo) (ht : Tryz.prog.underlying t = some (.slice e)) (hu : Tryz.prog.underlying u = some .string) (hi : Tryz.prog.info? e = some i) (hz : i.zero = some (.int .u8 0)) (hsize : i.size = 1) (hby : i.bytes = 1)
    (v : Value) (n : Nat) (xs : List Value) (hs : a.eval sl = v) (hown : w.ownsRow base e 1 v n xs) (s : ByteArray) (hx : a.eval x = .string s) (h63 : n + s.size ≤ maxLen) (hbytes : n + s.size ≤ 140737488355328) (hbase : base ≤ w.heap.size)
    (h : ∀ v' w', w'.ownsRow base e 1 v' (n + s.size) (xs ++ Lib.strCells s) → w.grownBy w' v.ownBlock → (v'.ownBlock = v.ownBlock ∨ ∀ k, v'.ownBlock = some k → w.heap.size ≤ k) → wpList Tryz.prog ops Q rest (a.put o.dst v') w') : wpList Tryz.prog ops Q (o :: rest) a w := by
  refine wpList_plain hgd fun K hK => ?_
  obtain ⟨v', w', hr, h2, h3, h4⟩ := run_append_str_at w base t u o.type e i ht hu hi hz hsize hby v n xs hown s h63 hbytes hbase
  unfold Oper.wp execOp
  simp only [ho, resolve, invoke, builtin, Sem.run_bind, Sem.run_pure, Result.andThen_ok, List.map_toArray, List.map_cons, List.map_nil, hs, hx, hr]
  exact hK _ _ (h v' w' h2 h3 h4)
set_option maxRecDepth 8000 in
theorem wtextW_any (p : Nat) (zs l : List Int) (X : Foot) (w : World) (h : Wtr w p zs X) (hm : zs.length ≤ 1000000) (hb : Bys l) (hlm : l.length ≤ 1000000) :
    Calls Tryz.prog 62 #[.pointer (some ⟨p, 0, none⟩), .string (strOfNums l)] w fun e w' => e = .returned (.tuple #[]) ∧ Wrote w w' p (zs ++ txtB l) X := by
  have HZ : Hid ((strOfNums l).size = l.length) := strOfNums_size l
  obtain ⟨s, hs⟩ : ∃ s, s = strOfNums l := ⟨_, rfl⟩
  have HS : Hid (Lib.strCells s = bs l) := hs ▸ strs_cells hb
  rw [← hs] at HZ ⊢
  have hsz : s.size ≤ 1000000 := by rw [HZ.out]; exact hlm
  have HBL : Hid (Bys l) := hb
  have CN : Hid (Calls Tryz.prog 21 #[.pointer (some ⟨p, 0, none⟩), .int .u64 (s.size : Nat)] w fun e w'' => e = .returned (.tuple #[]) ∧ Wrote w w'' p (zs ++ Pl.putI s.size) X) := wnum_any p zs X s.size w h hm (by omega) (by omega)
  have hmx : (zs ++ Pl.putI s.size).length ≤ 1000010 := by have := Pl.put_length_le 9 (s.size : Int); rw [List.length_append]; unfold Pl.putI; omega
  have HE : Hid (zs ++ Pl.putI s.size ++ l = zs ++ txtB l ∧ l.length = s.size) := by
    exact ⟨by unfold txtB; rw [HZ.out, List.append_assoc], HZ.out.symm⟩
  obtain ⟨ys, hys⟩ : ∃ ys, ys = zs ++ Pl.putI s.size := ⟨_, rfl⟩
  rw [← hys] at CN hmx HE
  obtain ⟨i0, hi, hz0, hz1, hz2⟩ := info_parts info5
  have HI : Hid (Tryz.prog.info? 5 = some i0) := hi
  clear h hm hs hys hi hb hlm
  go_enter Tryz.func62, Tryz.ntmps62
  go_wp2_with (first | (have hgo := HQ.out; clear hgo; at_builtin; refine wpList_append_str_at _ rfl (.tmp 13) (.tmp 14) 23 9 rfl (p + 1) 5 i0 Tryz.underlying23 Tryz.underlying9 HI.out hz0 hz1 hz2 _ M (bs ys) rfl HQ.out.2.1 s rfl (by unfold maxLen; omega) (by omega) HW1.out.1.hi ?_; intro v6 w6 o6 g6 t6; obtain ⟨a6, c6, rfl⟩ := own_form o6; have C6 : Chg w1 w6 (fun j => (Value.slice a1 M c1).ownBlock = some j) := Chg.of_grown g6 (fun k e => e); have hpn : ¬ (Value.slice a1 M c1).ownBlock = some p := (fun e => absurd (HQ.out.2.1.lt p e).1 (by omega)); have q6 : w6.cell? ⟨p, 0, none⟩ = some (.slice a1 M c1) := (cell_of_block (C6.block p HW1.out.1.hi hpn) 0).1.trans HQ.out.1; have f6 : w6.frozen? ⟨p, 0, none⟩ = false := (cell_of_block (C6.block p HW1.out.1.hi hpn) 0).2.trans HW1.out.1.free; have H6 : Hid (Chg w1 w6 (fun j => (Value.slice a1 M c1).ownBlock = some j) ∧ w6.ownsRow (p + 1) 5 1 (.slice a6 (M + s.size) c6) (M + s.size) (bs (ys ++ l)) ∧ ∀ k, (Value.slice a6 (M + s.size) c6).ownBlock = some k → X1 k ∨ w1.heap.size ≤ k) := ⟨C6, by rw [HS.out, ← bs_app] at o6; exact o6, fun k hk => t6.elim (fun e => .inl (HQ.out.2.2 k (e ▸ hk))) (fun e => .inr (e k hk))⟩; clear o6 g6 t6 C6 hpn) | (go_at_call 21; refine CN.out.mono ?_; rintro e w1 ⟨rfl, X1, h1, h2⟩; have h1' := h1; obtain ⟨⟨a1, c1, q1, own1, x1⟩, f1, _, _, _⟩ := h1'; obtain ⟨M, hM⟩ : ∃ M, M = ys.length := ⟨_, rfl⟩; rw [← hM] at q1 own1 x1 hmx; have HM : Hid (M = ys.length) := hM; have HQ : Hid (w1.cell? ⟨p, 0, none⟩ = some (.slice a1 M c1) ∧ w1.ownsRow (p + 1) 5 1 (.slice a1 M c1) M (bs ys) ∧ ∀ k, (Value.slice a1 M c1).ownBlock = some k → X1 k) := ⟨q1, own1, x1⟩; have HW1 : Hid (Wtr w1 p ys X1 ∧ Did w w1 X X1) := ⟨h1, h2⟩; clear h1 h2 own1 x1 hM))
  go_end0
  have hW := HW1.out.1.put (Y := fun k => X1 k ∨ w1.heap.size ≤ k) HBL.out H6.out.1 (fun k e => (HQ.out.2.1.lt k e).1) H6.out.2.1 (by rw [List.length_append, ← HM.out, HE.out.2]) H6.out.2.2
  rw [HE.out.1] at hW
  refine ⟨rfl, _, hW.1, HW1.out.2.trans ⟨hW.2.mono (fun k _ e => ?_), fun k e => ?_⟩⟩
  · rcases e with rfl | e
    · exact HW1.out.1.xp
    · exact HQ.out.2.2 k e
  · rw [World.size_setCell]
    rcases e with rfl | e
    · exact ⟨.inl HW1.out.1.xp, Nat.lt_of_lt_of_le HW1.out.1.hi H6.out.1.size⟩
    · exact ⟨e.1, e.2.2⟩
end Go.Proofs.YtpnjcflfnoamoaaGreat

namespace Go.Proofs.YtpnjcflfnoamoaaGreat
open Go.RowKit
set_option linter.unusedVariables false
set_option linter.unusedSimpArgs false

/-- Bytes of the call's own, all made behind w. -/
structure Bt (w u : World) (zs : List Int) (a : Option Addr) (m c : Nat) : Prop where
  own : u.ownsRow w.heap.size 5 1 (.slice a m c) m (bs zs)
  len : zs.length = m
  bytes : Bys zs
  below : Below w.heap.size w u
theorem Bt.row {w u : World} {zs : List Int} {a : Option Addr} {m c : Nat} (h : Bt w u zs a m c) : Row u a zs := by
  obtain ⟨a', c', e, hrow, _⟩ := own_shape h.own h.bytes
  injection e with e1 e2 e3
  subst e1
  exact hrow
theorem Bt.nil {w u : World} {zs : List Int} {a : Option Addr} {m c : Nat} (h : Bt w u zs a m c) (e1 : a = none) : m = 0 ∧ c = 0 := by
  rcases h.own.2 with ⟨e2, e3⟩ | ⟨g, cap, cur, e2, _⟩
  · injection e2 with _ _ e4
    exact ⟨e3, e4⟩
  · injection e2 with e4
    rw [e1] at e4; cases e4
theorem Bt.made {w u u' : World} {zs : List Int} {a : Option Addr} {m c : Nat} (hb : Below w.heap.size w u) (ho : u'.ownsRow u.heap.size 5 1 (.slice a m c) m (bs zs)) (hl : m = zs.length) (hz : Bys zs) (hu : Below u.heap.size u u') : Bt w u' zs a m c :=
  ⟨⟨ho.1, ho.2.imp (fun x => x) (fun ⟨g, cc, cur, x1, x2, x3⟩ => ⟨g, cc, cur, x1, Nat.le_trans hb.size x2, x3⟩)⟩, hl.symm, hz, hb.trans (hu.mono hb.size)⟩
theorem Bt.drew {w u : World} {zs : List Int} {a : Option Addr} {m c : Nat} (h : Bt w u zs a m c) : Bt w u.drew zs a m c := ⟨own_below h.own (Below.refl _ _).drew (Nat.le_refl _), h.len, h.bytes, h.below.drew⟩
theorem Bt.base {w U u : World} {zs : List Int} {a : Option Addr} {m c : Nat} (h : Bt U u zs a m c) (hb : Below w.heap.size w U) : Bt w u zs a m c :=
  ⟨⟨h.own.1, h.own.2.imp (fun x => x) (fun ⟨g, cc, cur, x1, x2, x3⟩ => ⟨g, cc, cur, x1, Nat.le_trans hb.size x2, x3⟩)⟩, h.len, h.bytes, hb.trans (h.below.mono hb.size)⟩
theorem stp_bytes (t n : Int) (hn : 0 ≤ n ∧ n ≤ 255) : Bys (stpB t n) := by
  unfold stpB
  by_cases h : okS t
  · rw [if_pos h]
    obtain ⟨h1, h2⟩ := h
    exact putI_bytes _ (by omega) (by omega)
  · rw [if_neg h]; exact putI_bytes _ (by omega) (by omega)
theorem num_nil (w u : World) (hb : Below w.heap.size w u) (v : Int) (h0 : 0 ≤ v) (h1 : v ≤ 18446744073709551615) :
    Calls Tryz.prog 26 #[.slice none 0 0, .int .u64 v] u fun e w' => ∃ a' m' c', e = .returned (.slice a' m' c') ∧ Bt w w' (Pl.putI v) a' m' c' ∧ Below u.heap.size u w' := by
  refine (rnum14_any none 0 0 [] v u (Row.nil _ _) rfl (by omega) (fun _ => ⟨rfl, rfl⟩) h0 h1).mono ?_
  rintro e w' ⟨a', m, c', rfl, h2, h3, h4⟩
  exact ⟨a', m, c', rfl, Bt.made hb h3 h2 (putI_bytes v h0 h1) h4, h4⟩
theorem Bt.num {w u : World} {zs : List Int} {a : Option Addr} {m c : Nat} (h : Bt w u zs a m c) (hm : m ≤ 1000000) (v : Int) (h0 : 0 ≤ v) (h1 : v ≤ 18446744073709551615) :
    Calls Tryz.prog 26 #[.slice a m c, .int .u64 v] u fun e w' => ∃ a' m' c', e = .returned (.slice a' m' c') ∧ Bt w w' (zs ++ Pl.putI v) a' m' c' ∧ Below u.heap.size u w' := by
  refine (rnum14_any a c m zs v u h.row h.len (by omega) h.nil h0 h1).mono ?_
  rintro e w' ⟨a', m', c', rfl, h2, h3, h4⟩
  exact ⟨a', m', c', rfl, Bt.made h.below h3 h2 (h.bytes.app (putI_bytes v h0 h1)) h4, h4⟩
theorem Bt.txt {w u : World} {zs : List Int} {a : Option Addr} {m c : Nat} (h : Bt w u zs a m c) (hm : m ≤ 1000000) (v : List Int) (hv : Bys v) (hl : v.length ≤ 1000000) :
    Calls Tryz.prog 30 #[.slice a m c, .string (strOfNums v)] u fun e w' => ∃ a' m' c', e = .returned (.slice a' m' c') ∧ Bt w w' (zs ++ txtB v) a' m' c' ∧ Below u.heap.size u w' := by
  refine (rtxt14_any a c m zs v u h.row h.len hm h.nil hv hl).mono ?_
  rintro e w' ⟨a', m', c', rfl, h2, h3, h4⟩
  exact ⟨a', m', c', rfl, Bt.made h.below h3 h2 (h.bytes.app ((putI_bytes _ (by omega) (by omega)).app hv)) h4, h4⟩
theorem row_made (u : World) (x : Int) (h0 : 0 ≤ x) (h1 : x ≤ 255) (q : Nat) (hq : q = u.heap.size) : Row (u.alloc (.cells #[.int .u8 x] 5)) (some ⟨q, 0, none⟩) [x] := by
  subst hq
  refine ⟨fun z hz => by simp at hz; omega, .inr ⟨_, 0, rfl, fun j hj => ?_⟩⟩
  simp at hj
  subst hj
  rw [World.cell?_alloc_new]
  rfl
theorem flagB_bd (g : Bool) : 0 ≤ flagB g ∧ flagB g ≤ 255 := by cases g <;> decide
theorem Bt.room {w u : World} {zs : List Int} {a : Option Addr} {m c : Nat} (h : Bt w u zs a m c) : m ≤ c := by
  rcases h.own.2 with ⟨e2, e3⟩ | ⟨g, cap, cur, e2, _, _, h1, _⟩
  · omega
  · injection e2 with _ _ e4; omega
theorem Bt.past {w u u' : World} {zs : List Int} {a : Option Addr} {m c : Nat} (h : Bt w u zs a m c) (hb : Below u.heap.size u u') : Bt w u' zs a m c := ⟨own_below h.own hb (Nat.le_refl _), h.len, h.bytes, h.below.trans (hb.mono h.below.size)⟩
end Go.Proofs.YtpnjcflfnoamoaaGreat

