/-
  The landed writer of bytes (package wire): Number, Flag, Stamp, Bytes.
-/
import Derived.Test.YtpnjcflfnoamoaaGreatAu33
import Derived.Test.YtpnjcflfnoamoaaGreatAu27
import Derived.Test.YtpnjcflfnoamoaaGreatAu29
import Derived.Maps.AppendAt
namespace Go.Proofs.YtpnjcflfnoamoaaGreat
open Go.RowKit
set_option linter.unusedVariables false

theorem run_append_row_at (w : World) (base : Nat) (v : Value) (n : Nat) (xs zs : List Int) (hown : w.ownsRow base 5 1 v n (bs xs)) (ao : Option Addr) (m c : Nat) (hrow : Row w ao zs) (hm : zs.length = m) (hnil : ao = none → m = 0 ∧ c = 0)
    (hxs : ∀ z ∈ xs, 0 ≤ z ∧ z ≤ 255) (hbytes : n + m ≤ 140737488355328) (hbase : base ≤ w.heap.size) (ty : TypeId) :
    ∃ a' cap' w', (Builtin.append_ #[23, 23] ty #[v, .slice ao m c]).run Tryz.prog w = .ok (.slice a' (n + m) cap') w' ∧ w'.ownsRow base 5 1 (.slice a' (n + m) cap') (n + m) (bs (xs ++ zs)) ∧ w.grownBy w' v.ownBlock ∧ ((Value.slice a' (n + m) cap').ownBlock = v.ownBlock ∨ (Value.slice a' (n + m) cap').ownBlock = some w.heap.size) := by
  obtain ⟨i0, hi, hz0, hz1, hz2⟩ := info_parts info5
  cases ao with
  | none =>
    obtain ⟨rfl, rfl⟩ := hnil rfl
    obtain rfl : zs = [] := List.eq_nil_of_length_eq_zero hm
    have hrun := run_append_owned_none (P := Tryz.prog) (w := w) base 23 ty 5 i0 1 Tryz.underlying23 hi v n (bs xs) hown
    obtain ⟨a', cap', rfl, _, _⟩ := own_shape hown hxs
    exact ⟨a', cap', w, hrun, by simpa using hown, World.grownBy.refl _ _, .inl rfl⟩
  | some ad =>
    have hnews : ∀ j u, (bs zs)[j]? = some u → w.cell? (ad.add j) = some u := by
      intro j u hj
      obtain ⟨hj1, rfl⟩ := bs_at zs j u hj
      rcases hrow.2 with rfl | ⟨b, off, he, hc⟩
      · simp at hj1
      · simp at he; subst he
        rw [add_plain]; exact hc j hj1
    obtain ⟨v', w', hrun, h1, h2, _, h4⟩ := run_append_own_at (P := Tryz.prog) w base 23 ty 5 i0 (.int .u8 0) 1 1 Tryz.underlying23 hi hz0 hz1 hz2 rfl (by decide) v n (bs xs) hown ad m c (bs zs) (by rw [bs_len, hm]; omega) hnews (bs_one zs) (by unfold maxLen; omega) (by omega) hbase
    rw [← bs_app] at h1
    obtain ⟨a', cap', rfl⟩ := own_form h1
    exact ⟨a', cap', w', hrun, h1, h2, h4⟩
theorem step_append_row_at {w : World} {ops : Array Oper} {o : Oper} {a : Act} {K : Act → World → Prop} {Q : Exit → Act → World → Prop} {E : Prop} (hgd : o.guard = none) (s x : Operand)
    (ho : o.op = .call { callee := .builtin .append, args := #[s, x], argTypes := #[23, 23] })
    (base : Nat) (v : Value) (n : Nat) (xs zs : List Int) (hs : a.eval s = v) (hown : w.ownsRow base 5 1 v n (bs xs)) (ao : Option Addr) (m c : Nat) (hx : a.eval x = .slice ao m c) (hrow : Row w ao zs) (hm : zs.length = m) (hnil : ao = none → m = 0 ∧ c = 0)
    (hxs : ∀ z ∈ xs, 0 ≤ z ∧ z ≤ 255) (hbytes : n + m ≤ 140737488355328) (hbase : base ≤ w.heap.size)
    (h : ∀ a' cap' w', w'.ownsRow base 5 1 (.slice a' (n + m) cap') (n + m) (bs (xs ++ zs)) → w.grownBy w' v.ownBlock → ((Value.slice a' (n + m) cap').ownBlock = v.ownBlock ∨ (Value.slice a' (n + m) cap').ownBlock = some w.heap.size) → K (a.put o.dst (.slice a' (n + m) cap')) w') :
    if Region.wanted o (yielded ops a.tmps) = true then Oper.wp Tryz.prog o a w K Q else E := by
  have hw : Region.wanted o (yielded ops a.tmps) = true := by simp [Region.wanted, hgd]
  rw [if_pos hw]
  obtain ⟨a', cap', w', hrun, h1, h2, h3⟩ := run_append_row_at w base v n xs zs hown ao m c hrow hm hnil hxs hbytes hbase o.type
  unfold Oper.wp
  simp [execOp, ho, resolve, invoke, builtin, hs, hx, hrun, Result.andThen]
  exact h a' cap' w' h1 h2 h3
/-- A writer in block p: bytes of its own, in a block that came behind; X: its blocks. -/
structure Wtr (w : World) (p : Nat) (zs : List Int) (X : Foot) : Prop where
  ex : ∃ a c, w.cell? ⟨p, 0, none⟩ = some (.slice a zs.length c) ∧ w.ownsRow (p + 1) 5 1 (.slice a zs.length c) zs.length (bs zs) ∧ ∀ k, (Value.slice a zs.length c).ownBlock = some k → X k
  free : w.frozen? ⟨p, 0, none⟩ = false
  bytes : Bys zs
  xp : X p
  lt : ∀ k, X k → p ≤ k ∧ k < w.heap.size
theorem Wtr.hi {w : World} {p : Nat} {zs : List Int} {X : Foot} (h : Wtr w p zs X) : p < w.heap.size := (h.lt p h.xp).2
theorem Wtr.made (w : World) (T : TypeId) : Wtr (w.alloc (.cells #[.slice none 0 0] T)) w.heap.size [] (fun j => j = w.heap.size) :=
  ⟨⟨none, 0, by rw [World.cell?_alloc_new]; rfl, ⟨rfl, .inl ⟨rfl, rfl⟩⟩, fun k hk => by simp [Value.ownBlock] at hk⟩, World.frozen?_alloc_new _ _ _ _, fun z hz => by simp at hz, rfl, fun k hk => by simp [hk]⟩
theorem Wtr.past {w w' : World} {p : Nat} {zs : List Int} {X : Foot} (h : Wtr w p zs X) (hb : Below w.heap.size w w') : Wtr w' p zs X := by
  have h7 := h.hi
  obtain ⟨⟨a, c, h1, h2, h3⟩, h4, h5, h6, h8⟩ := h
  exact ⟨⟨a, c, (hb.cell (p := ⟨p, 0, none⟩) h7).trans h1, own_below h2 hb (Nat.le_refl _), h3⟩, (hb.frozen (p := ⟨p, 0, none⟩) h7).trans h4, h5, h6, fun k hk => ⟨(h8 k hk).1, Nat.lt_of_lt_of_le (h8 k hk).2 hb.size⟩⟩
/-- What a call of the writer leaves. -/
structure Wrote (w w' : World) (p : Nat) (zs : List Int) (X : Foot) : Prop where
  ex : ∃ X', Wtr w' p zs X' ∧ Did w w' X X'
theorem Did.past {w u w' : World} {X X' : Foot} (hb : Below w.heap.size w u) (hX : ∀ k, X k → k < w.heap.size) (hd : Did u w' X X') : Did w w' X X' :=
  ⟨(Chg.of_below hb X).trans hd.chg (fun _ _ x => x), fun k hk => ⟨(hd.new k hk).1.imp id (fun e => Nat.le_trans hb.size e), (hd.new k hk).2⟩⟩
theorem lput_any (v : Int) (h0 : 0 ≤ v) (h1 : v ≤ 18446744073709551615) (pl : Nat) (hp : (Pl.putI v).length = pl) (u : World) :
    Calls Tryz.prog 59 #[.slice none 0 0, .int .u64 v] u fun e w' => e = .returned (.slice (some ⟨u.heap.size, 0, none⟩) pl pl) ∧ Row w' (some ⟨u.heap.size, 0, none⟩) (Pl.putI v) ∧ Below u.heap.size u w' := by
  refine (put_row none 0 [] v u (Row.nil _ _) (by simp) h0 h1).mono ?_
  rintro e w' ⟨rfl, h2, h3, _⟩
  rw [List.nil_append] at h2 ⊢
  rw [hp]
  exact ⟨rfl, h2, h3⟩
/-- What is stored into the writer. -/
theorem Wtr.put {w w6 : World} {p : Nat} {zs ys : List Int} {a6 : Option Addr} {c6 n : Nat} {X G Y : Foot} (h : Wtr w p zs X) (hy : Bys ys) (hc : Chg w w6 G) (hG : ∀ k, G k → p < k) (ho : w6.ownsRow (p + 1) 5 1 (.slice a6 n c6) n (bs (zs ++ ys))) (hn : n = (zs ++ ys).length) (hY : ∀ k, (Value.slice a6 n c6).ownBlock = some k → Y k) :
    Wtr (w6.setCell ⟨p, 0, none⟩ (.slice a6 n c6)) p (zs ++ ys) (fun k => k = p ∨ (Y k ∧ p < k ∧ k < w6.heap.size)) ∧ Chg w (w6.setCell ⟨p, 0, none⟩ (.slice a6 n c6)) (fun k => k = p ∨ G k) := by
  have h7 := h.hi
  obtain ⟨⟨a, c, h1, h2, h3⟩, h4, h5, h6, h8⟩ := h
  subst hn
  have hb := hc.block p h7 (fun e => by have := hG p e; omega)
  refine ⟨⟨⟨a6, c6, World.cell?_setCell_same _ _ _ ((cell_of_block hb 0).1.trans h1), ?_, fun k hk => .inr ⟨hY k hk, (ho.lt k hk).1, (ho.lt k hk).2⟩⟩, by rw [World.frozen?_setCell]; exact (cell_of_block hb 0).2.trans h4, h5.app hy, .inl rfl, fun k hk => ?_⟩, ?_⟩
  · exact owns_stay ho (fun q hq hq2 => (Chg.set (X := fun j => j = p) w6 ⟨p, 0, none⟩ _ rfl).block q hq2 (by omega))
  · rw [World.size_setCell]
    rcases hk with rfl | hk
    · exact ⟨Nat.le_refl _, Nat.lt_of_lt_of_le h7 hc.size⟩
    · exact ⟨Nat.le_of_lt hk.2.1, hk.2.2⟩
  · exact (hc.mono (Y := fun k => k = p ∨ G k) (fun k _ e => .inr e)).trans (Chg.set (X := fun k => k = p ∨ G k) w6 ⟨p, 0, none⟩ _ (.inl rfl)) (fun _ _ x => x)
set_option maxHeartbeats 1000000 in
set_option maxRecDepth 8000 in
theorem wnum_any (p : Nat) (zs : List Int) (X : Foot) (v : Int) (w : World) (h : Wtr w p zs X) (hm : zs.length ≤ 1000000) (h0 : 0 ≤ v) (h1 : v ≤ 18446744073709551615) :
    Calls Tryz.prog 21 #[.pointer (some ⟨p, 0, none⟩), .int .u64 v] w fun e w' => e = .returned (.tuple #[]) ∧ Wrote w w' p (zs ++ Pl.putI v) X := by
  have HW : Hid (Wtr w p zs X) := h
  have hip := h.hi
  obtain ⟨⟨a, c, q0, own0, hxo⟩, f0, hbz, hxp, hxl⟩ := h
  obtain ⟨len, hl⟩ : ∃ len, len = zs.length := ⟨_, rfl⟩
  rw [← hl] at q0 own0 hm hxo
  have HL : Hid (len = zs.length) := hl
  obtain ⟨pl, hpl⟩ : ∃ pl, (Pl.putI v).length = pl := ⟨_, rfl⟩
  have HPL : Hid ((Pl.putI v).length = pl) := hpl
  have p1 : 1 ≤ pl := hpl ▸ Pl.put_length_pos 9 v
  have p2 : pl ≤ 10 := hpl ▸ Pl.put_length_le 9 v
  obtain ⟨G, hG⟩ : ∃ G : Foot, G = fun j => (Value.slice a len c).ownBlock = some j := ⟨_, rfl⟩
  have hGp : ∀ k, G k → p < k := fun k hk => by rw [hG] at hk; exact (own0.lt k hk).1
  have HKU : Hid (∀ u, Chg w u G → u.cell? ⟨p, 0, none⟩ = some (.slice a len c) ∧ u.frozen? ⟨p, 0, none⟩ = false) := fun u hc => by
    have hb := hc.block p hip (fun e => absurd (hGp p e) (Nat.lt_irrefl p))
    exact ⟨(cell_of_block hb 0).1.trans q0, (cell_of_block hb 0).2.trans f0⟩
  have HO : Hid (w.ownsRow (p + 1) 5 1 (.slice a len c) len (bs zs)) := own0
  have HG : Hid (∀ k, (Value.slice a len c).ownBlock = some k → G k) := fun k hk => by rw [hG]; exact hk
  have HBZ : Hid (Bys zs) := hbz
  have HP : Hid (∀ u, Calls Tryz.prog 59 #[.slice none 0 0, .int .u64 v] u fun e w' => e = .returned (.slice (some ⟨u.heap.size, 0, none⟩) pl pl) ∧ Row w' (some ⟨u.heap.size, 0, none⟩) (Pl.putI v) ∧ Below u.heap.size u w') := fun u => lput_any v h0 h1 pl hpl u
  have HE : Hid (∀ w6 a6 c6, Chg w w6 G → w6.ownsRow (p + 1) 5 1 (.slice a6 (len + pl) c6) (len + pl) (bs (zs ++ Pl.putI v)) → (∀ k, (Value.slice a6 (len + pl) c6).ownBlock = some k → X k ∨ w.heap.size ≤ k) → Wrote w (w6.setCell ⟨p, 0, none⟩ (.slice a6 (len + pl) c6)) p (zs ++ Pl.putI v) X) := fun w6 a6 c6 hc ho hk => by
    have r := HW.out.put (Y := fun k => X k ∨ w.heap.size ≤ k) (putI_bytes v h0 h1) hc hGp ho (by rw [List.length_append, ← HL.out, HPL.out]) hk
    refine ⟨_, r.1, r.2.mono (fun k _ e => ?_), fun k e => ?_⟩
    · rcases e with rfl | e
      · exact hxp
      · rw [hG] at e; exact hxo k e
    · rw [World.size_setCell]
      rcases e with rfl | e
      · exact ⟨.inl hxp, Nat.lt_of_lt_of_le hip hc.size⟩
      · exact ⟨e.1, e.2.2⟩
  have HH : Hid (p < w.heap.size) := hip
  have HX : Hid (∀ k, (Value.slice a len c).ownBlock = some k → X k) := hxo
  clear own0 hl hpl hbz hG hGp hxo hxp hxl
  have q0' := q0
  go_enter Tryz.func21, Tryz.ntmps21
  go_wp2
  refine wp_region_noPanic ?_
  refine region_till 10 (fun u => Chg w u G) (by kernel_rfl) ?_ (fun hHeld => ?_)
  · exact (Chg.refl _ _).drew
  refine till_take (i := 0) (v := ?_) 0 (by kernel_rfl) (Or.inl rfl) (by kernel_rfl) rfl (by kernel_rfl) (by kernel_rfl) (by kernel_rfl) (fun _ _ _ h => h) (Or.inl ⟨by rfl, ?_⟩) hHeld ?_
  rotate_left
  · intro u hSu
    (go_simp) <;> (with_reducible rfl)
  change wpTill _ _ _ _ _ _ _ _ (Act.put _ (some 4) _) _
  simp only [Act.put, List.setIfInBounds_toArray, List.set_cons_zero, List.set_cons_succ]
  refine till_take (i := 1) (v := ?_) 1 (by kernel_rfl) (Or.inl rfl) (by kernel_rfl) rfl (by kernel_rfl) (by kernel_rfl) (by kernel_rfl) (fun _ _ _ h => h) (Or.inl ⟨by rfl, ?_⟩) hHeld ?_
  rotate_left
  · intro u hSu
    (go_simp) <;> (with_reducible rfl)
  change wpTill _ _ _ _ _ _ _ _ (Act.put _ (some 5) _) _
  simp only [Act.put, List.setIfInBounds_toArray, List.set_cons_zero, List.set_cons_succ]
  refine till_take (i := 2) (v := ?_) 2 (by kernel_rfl) (Or.inl rfl) (by kernel_rfl) rfl (by kernel_rfl) (by kernel_rfl) (by kernel_rfl) (fun _ _ _ h => h) (Or.inl ⟨by rfl, ?_⟩) hHeld ?_
  rotate_left
  · intro u hSu
    (go_simp) <;> (with_reducible rfl)
  change wpTill _ _ _ _ _ _ _ _ (Act.put _ (some 6) _) _
  simp only [Act.put, List.setIfInBounds_toArray, List.set_cons_zero, List.set_cons_succ]
  refine till_take (i := 3) (v := ?_) 3 (by kernel_rfl) (Or.inl rfl) (by kernel_rfl) rfl (by kernel_rfl) (by kernel_rfl) (by kernel_rfl) (fun _ _ _ h => h) (Or.inl ⟨by rfl, ?_⟩) hHeld ?_
  rotate_left
  · intro u hSu
    (go_simp) <;> (with_reducible rfl)
  change wpTill _ _ _ _ _ _ _ _ (Act.put _ (some 7) _) _
  simp only [Act.put, List.setIfInBounds_toArray, List.set_cons_zero, List.set_cons_succ]
  refine till_take (i := 4) (v := ?_) 4 (by kernel_rfl) (Or.inl rfl) (by kernel_rfl) rfl (by kernel_rfl) (by kernel_rfl) (by kernel_rfl) (fun _ _ _ h => h) (Or.inl ⟨by rfl, ?_⟩) hHeld ?_
  rotate_left
  · intro u hSu
    obtain ⟨q1, q3⟩ := HKU.out u hSu
    (go_simp) <;> (with_reducible rfl)
  change wpTill _ _ _ _ _ _ _ _ (Act.put _ (some 8) _) _
  simp only [Act.put, List.setIfInBounds_toArray, List.set_cons_zero, List.set_cons_succ]
  refine till_take (i := 5) (v := ?_) 5 (by kernel_rfl) (Or.inl rfl) (by kernel_rfl) rfl (by kernel_rfl) (by kernel_rfl) (by kernel_rfl) (fun _ _ _ h => h) (Or.inl ⟨by rfl, ?_⟩) hHeld ?_
  rotate_left
  · intro u hSu
    (go_simp) <;> (with_reducible rfl)
  change wpTill _ _ _ _ _ _ _ _ (Act.put _ (some 9) _) _
  simp only [Act.put, List.setIfInBounds_toArray, List.set_cons_zero, List.set_cons_succ]
  refine till_ready (rs := [6]) (by kernel_rfl) (by simp) ?_
  refine AllTill.cons rfl (fun K hK => ?_) AllTill.nil
  go_simp; go_at_call 59; refine (HP.out _).mono ?_; rintro e w3 ⟨rfl, r3, b3⟩; have B3 : Hid (Below w.heap.size w w3) := ⟨b3.os, b3.tape, b3.output, b3.size, b3.block⟩; have R3 : Hid (Row w3 (some ⟨_, 0, none⟩) (Pl.putI v)) := r3; clear r3 b3
  refine hK.out _ _ ?_ (fun hHeld2 => ?_)
  · exact Chg.of_below B3.out G
  clear hK K hHeld
  have hHeld := hHeld2
  clear hHeld2
  refine till_ready (rs := [7]) (by kernel_rfl) (by simp) ?_
  refine AllTill.cons rfl (fun K hK => ?_) AllTill.nil
  refine step_append_row_at rfl (.tmp 8) (.tmp 10) rfl (p + 1) (.slice a len c) len zs (Pl.putI v) rfl (own_below HO.out B3.out (Nat.le_refl _)) _ _ _ rfl R3.out HPL.out (fun e => by cases e) HBZ.out (by omega) (Nat.le_trans HH.out B3.out.size) ?_; intro a6 c6 w6 o6 g6 t6; have O6 : Hid (w6.ownsRow (p + 1) 5 1 (.slice a6 (len + pl) c6) (len + pl) (bs (zs ++ Pl.putI v))) := o6; have C6 : Hid (Chg w w6 G) := (Chg.of_below B3.out G).trans (Chg.of_grown g6 (X := G) (fun k e => HG.out k e)) (fun _ _ x => x); have T6 : Hid (∀ k, (Value.slice a6 (len + pl) c6).ownBlock = some k → X k ∨ w.heap.size ≤ k) := fun k hk => by { rcases t6 with e | e; exact .inl (HX.out k (e ▸ hk)); rw [e] at hk; injection hk with hk; exact .inr (hk ▸ B3.out.size) }; clear o6 g6 t6
  refine hK.out _ _ ?_ (fun hHeld2 => ?_)
  · exact C6.out
  clear hK K hHeld
  have hHeld := hHeld2
  clear hHeld2
  change wpTill _ _ _ _ _ _ _ _ (Act.put _ (some 11) _) _
  simp only [Act.put, List.setIfInBounds_toArray, List.set_cons_zero, List.set_cons_succ]
  refine till_take (i := 8) (v := ?_) 9 (by kernel_rfl) (Or.inr (by kernel_rfl)) (by kernel_rfl) rfl (by kernel_rfl) (by kernel_rfl) (by kernel_rfl) (fun _ _ _ h => h) (Or.inl ⟨by rfl, ?_⟩) hHeld ?_
  rotate_left
  · intro u hSu
    (go_simp) <;> (with_reducible rfl)
  change wpTill _ _ _ _ _ _ _ _ (Act.put _ (some 12) _) _
  simp only [Act.put, List.setIfInBounds_toArray, List.set_cons_zero, List.set_cons_succ]
  refine till_take (i := 9) (v := ?_) 9 (by kernel_rfl) (Or.inl rfl) (by kernel_rfl) rfl (by kernel_rfl) (by kernel_rfl) (by kernel_rfl) (fun _ _ _ h => h) (Or.inl ⟨by rfl, ?_⟩) hHeld ?_
  rotate_left
  · intro u hSu
    (go_simp) <;> (with_reducible rfl)
  change wpTill _ _ _ _ _ _ _ _ (Act.put _ (some 13) _) _
  simp only [Act.put, List.setIfInBounds_toArray, List.set_cons_zero, List.set_cons_succ]
  refine till_last (by kernel_rfl) (by kernel_rfl) rfl (fun K hK => ?_)
  (obtain ⟨q1, q3⟩ := HKU.out w6 C6.out); go_simp; refine hK.out _ _ ?_; refine NoPanic.normal ?_; clear hK K hHeld q1 q3
  go_wp2
  go_end0
  exact ⟨rfl, HE.out w6 a6 c6 C6.out O6.out T6.out⟩
theorem num_flag (g : Bool) : Pl.putI (if g then 1 else 0) = [flagB g] := by cases g <;> rfl
theorem wflag_any (p : Nat) (zs : List Int) (X : Foot) (g : Bool) (w : World) (h : Wtr w p zs X) (hm : zs.length ≤ 1000000) :
    Calls Tryz.prog 61 #[.pointer (some ⟨p, 0, none⟩), .bool g] w fun e w' => e = .returned (.tuple #[]) ∧ Wrote w w' p (zs ++ [flagB g]) X := by
  have C : Hid (Calls Tryz.prog 21 #[.pointer (some ⟨p, 0, none⟩), .int .u64 (if g then 1 else 0)] w fun e w' => e = .returned (.tuple #[]) ∧ Wrote w w' p (zs ++ [flagB g]) X) := by
    have := wnum_any p zs X (if g then 1 else 0) w h hm (by cases g <;> simp) (by cases g <;> simp)
    rw [num_flag] at this
    exact this
  clear h
  cases g with
  | true =>
    go_enter Tryz.func61, Tryz.ntmps61
    go_wp2_with (first | (go_at_call 21; refine C.out.mono ?_; rintro e w1 ⟨rfl, h1⟩; have H1 : Hid (Wrote w w1 p (zs ++ [flagB true]) X) := h1; clear h1))
    refine bodyPost_ret (results_none rfl _ _ _) rfl ?_
    exact ⟨rfl, H1.out⟩
  | false =>
    go_enter Tryz.func61, Tryz.ntmps61
    go_wp2_with (first | (go_at_call 21; refine C.out.mono ?_; rintro e w1 ⟨rfl, h1⟩; have H1 : Hid (Wrote w w1 p (zs ++ [flagB false]) X) := h1; clear h1))
    go_end0
    exact ⟨rfl, H1.out⟩
/-- A stamp that may be. -/
theorem wstamp_any (p : Nat) (zs : List Int) (X : Foot) (t n : Int) (w : World) (h : Wtr w p zs X) (hm : zs.length ≤ 1000000) (ht : okS t) (hn : 0 ≤ n ∧ n ≤ 255) :
    Calls Tryz.prog 60 #[.pointer (some ⟨p, 0, none⟩), .agg #[.int .i64 t, .int .u8 n]] w fun e w' => e = .returned (.tuple #[]) ∧ Wrote w w' p (zs ++ stpB t n) X := by
  have CP : Hid (∀ u, Calls Tryz.prog 91 #[.agg #[.int .i64 t, .int .u8 n]] u fun e w' => e = .returned (.tuple #[.int .u64 (t * 256 + n), .int .i64 0]) ∧ Below u.heap.size u w') := fun u => by
    have := spack_any t n u hn
    rw [if_pos ht, if_pos ht] at this
    exact this
  have hb : 0 ≤ t * 256 + n ∧ t * 256 + n ≤ 18446744073709551615 := by obtain ⟨a, b⟩ := ht; omega
  have CN : Hid (∀ u, Below w.heap.size w u → Calls Tryz.prog 21 #[.pointer (some ⟨p, 0, none⟩), .int .u64 (t * 256 + n)] u fun e w' => e = .returned (.tuple #[]) ∧ Wrote w w' p (zs ++ stpB t n) X) := fun u hu => by
    refine (wnum_any p zs X (t * 256 + n) u (h.past hu) hm hb.1 hb.2).mono ?_
    rintro e w' ⟨rfl, X', h1, h2⟩
    have e2 : stpB t n = Pl.putI (t * 256 + n) := by unfold stpB; rw [if_pos ht]
    rw [e2]
    exact ⟨rfl, X', h1, h2.past hu (fun k hk => (h.lt k hk).2)⟩
  obtain ⟨V, hV⟩ : ∃ V, V = t * 256 + n := ⟨_, rfl⟩
  rw [← hV] at CP CN
  have HB : Hid (∀ u, Below (w.alloc (.cells #[.int .i64 t, .int .u8 n] 42)).heap.size (w.alloc (.cells #[.int .i64 t, .int .u8 n] 42)) u → Below w.heap.size w u) := fun u hu => ((Below.refl _ _).alloc (Nat.le_refl _) _).trans (hu.mono (by simp))
  clear h hm ht hn hb hV
  go_enter Tryz.func60, Tryz.ntmps60
  go_wp2_with (first | (have hgo := B1.out; clear hgo; go_at_call 21; refine (CN.out _ B1.out).mono ?_; rintro e w2 ⟨rfl, h1⟩; have H2 : Hid (Wrote w w2 p (zs ++ stpB t n) X) := h1; clear h1) | (go_at_call 91; refine (CP.out _).mono ?_; rintro e w1 ⟨rfl, hb1⟩; have B1 : Hid (Below w.heap.size w w1) := HB.out _ hb1; clear hb1))
  go_end0
  exact ⟨rfl, H2.out⟩
theorem wbytes_any (p : Nat) (zs : List Int) (X : Foot) (w : World) (h : Wtr w p zs X) :
    Calls Tryz.prog 24 #[.pointer (some ⟨p, 0, none⟩)] w fun e w' => ∃ a c, e = .returned (.slice a zs.length c) ∧ w'.ownsRow (p + 1) 5 1 (.slice a zs.length c) zs.length (bs zs) ∧ Below p w w' := by
  have HW : Hid (Wtr w p zs X) := h
  obtain ⟨⟨a, c, q0, own0, _⟩, f0, hbz, _, _⟩ := h
  have HO : Hid (w.ownsRow (p + 1) 5 1 (.slice a zs.length c) zs.length (bs zs)) := own0
  obtain ⟨len, hl⟩ : ∃ len, len = zs.length := ⟨_, rfl⟩
  rw [← hl] at q0 HO ⊢
  clear own0 hbz hl
  go_enter Tryz.func24, Tryz.ntmps24
  go_wp2
  go_returns
  exact ⟨a, c, rfl, owns_stay HO.out (fun q hq hq2 => (Chg.set (X := fun j => j = p) w ⟨p, 0, none⟩ _ rfl).block q hq2 (by omega)), (Chg.set (X := fun j => p ≤ j) w ⟨p, 0, none⟩ _ (Nat.le_refl p)).below (Nat.le_of_lt HW.out.hi) (fun k e => e)⟩
end Go.Proofs.YtpnjcflfnoamoaaGreat
