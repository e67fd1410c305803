/-
  The landed package disk: bytes behind a file's own; a new file among the others. No function of the program is named here.
-/
import Derived.Test.YtlfmhdljldbjmaaDskB
namespace Go.Proofs.Ytlfmhdljldbjmaa
open Go.RowKit
set_option linter.unusedVariables false

/-- 'append(own, src...)', and where the new list lies. -/
theorem run_append_at (w : World) (v : Value) (n : Nat) (xs zs : List Int) (hown : w.ownsRow 0 5 1 v n (bs xs)) (ao : Option Addr) (m c : Nat) (hrow : Row w ao zs) (hm : zs.length = m) (hnil : ao = none → m = 0 ∧ c = 0)
    (hxs : ∀ z ∈ xs, 0 ≤ z ∧ z ≤ 255) (hbytes : n + m ≤ 140737488355328) (ty : TypeId) :
    ∃ a' cap' w', (Builtin.append_ #[31, 31] ty #[v, .slice ao m c]).run Try.prog w = .ok (.slice a' (n + m) cap') w' ∧ w'.ownsRow 0 5 1 (.slice a' (n + m) cap') (n + m) (bs (xs ++ zs)) ∧ w.grownBy w' v.ownBlock ∧ ((Value.slice a' (n + m) cap').ownBlock = v.ownBlock ∨ (Value.slice a' (n + m) cap').ownBlock = some w.heap.size) := by
  obtain ⟨i0, hi, hz0, hz1, hz2⟩ := info_parts info5
  cases ao with
  | none =>
    obtain ⟨rfl, rfl⟩ := hnil rfl
    obtain rfl : zs = [] := List.eq_nil_of_length_eq_zero hm
    have hrun := run_append_owned_none (P := Try.prog) (w := w) 0 31 ty 5 i0 1 Try.underlying31 hi v n (bs xs) hown
    obtain ⟨a', cap', rfl, _, _⟩ := own_shape hown hxs
    exact ⟨a', cap', w, hrun, by simpa using hown, World.grownBy.refl _ _, .inl rfl⟩
  | some ad =>
    have hnews : ∀ j u, (bs zs)[j]? = some u → w.cell? (ad.add j) = some u := by
      intro j u hj
      obtain ⟨hj1, rfl⟩ := bs_at zs j u hj
      rcases hrow.2 with rfl | ⟨b, off, he, hc⟩
      · simp at hj1
      · simp at he; subst he
        rw [add_plain]; exact hc j hj1
    obtain ⟨v', w', hrun, h1, h2, _, h4⟩ := run_append_own_at (P := Try.prog) w 0 31 ty 5 i0 (.int .u8 0) 1 1 Try.underlying31 hi hz0 hz1 hz2 rfl (by decide) v n (bs xs) hown ad m c (bs zs) (by rw [bs_len]; omega) hnews (bs_one zs) (by unfold maxLen; omega) (by omega) (Nat.zero_le _)
    rw [← bs_app] at h1
    have hall : ∀ z ∈ xs ++ zs, 0 ≤ z ∧ z ≤ 255 := by
      intro z hz
      rcases List.mem_append.1 hz with h | h
      · exact hxs z h
      · exact hrow.1 z h
    obtain ⟨a', cap', rfl, _, _⟩ := own_shape h1 hall
    exact ⟨a', cap', w', hrun, h1, h2, h4⟩
theorem wpList_append_at {w : World} {ops : Array Oper} {rest : List Oper} {o : Oper} {a : Act} {Q : Exit → Act → World → Prop} (hgd : o.guard = none) (s x : Operand)
    (ho : o.op = .call { callee := .builtin .append, args := #[s, x], argTypes := #[31, 31] })
    (v : Value) (n : Nat) (xs zs : List Int) (hs : a.eval s = v) (hown : w.ownsRow 0 5 1 v n (bs xs)) (ao : Option Addr) (m c : Nat) (hx : a.eval x = .slice ao m c) (hrow : Row w ao zs) (hm : zs.length = m) (hnil : ao = none → m = 0 ∧ c = 0)
    (hxs : ∀ z ∈ xs, 0 ≤ z ∧ z ≤ 255) (hbytes : n + m ≤ 140737488355328)
    (h : ∀ a' cap' w', w'.ownsRow 0 5 1 (.slice a' (n + m) cap') (n + m) (bs (xs ++ zs)) → w.grownBy w' v.ownBlock → ((Value.slice a' (n + m) cap').ownBlock = v.ownBlock ∨ (Value.slice a' (n + m) cap').ownBlock = some w.heap.size) → wpList Try.prog ops Q rest (a.put o.dst (.slice a' (n + m) cap')) w') : wpList Try.prog ops Q (o :: rest) a w := by
  refine wpList_plain hgd fun K hK => ?_
  obtain ⟨a', cap', w', hrun, h1, h2, h3⟩ := run_append_at w v n xs zs hown ao m c hrow hm hnil hxs hbytes o.type
  unfold Oper.wp
  simp [execOp, ho, resolve, invoke, builtin, hs, hx, hrun, Result.andThen]
  exact hK _ _ (h a' cap' w' h1 h2 h3)
/-- A file whose bytes lie anew: its list and the count of all have been written. -/
theorem DiskI.wrote {u u1 : World} {b m g i n cc c' M : Nat} {S : DS} {X : Foot} {G : ByteArray → Option Nat} {Y : List Int → Foot} {f : FileV} {aa a' : Option Addr} {zs : List Int} (h : DiskI u b S X m G Y) (hi : S.fs[i]? = some f) (hg : G (strOfNums f.name) = some g) (hd : FileD u g f (Y f.name))
    (k0 : u.cell? ⟨g, 0, none⟩ = some (.slice aa f.b.length cc)) (hq : ∀ q, (Value.slice aa f.b.length cc).ownBlock = some q → Y f.name q ∧ q ≠ g)
    (ho : u1.ownsRow 0 5 1 (.slice a' n c') n (bs (f.b ++ zs))) (hgr : u.grownBy u1 (Value.slice aa f.b.length cc).ownBlock) (hat : (Value.slice a' n c').ownBlock = (Value.slice aa f.b.length cc).ownBlock ∨ (Value.slice a' n c').ownBlock = some u.heap.size) (hn : f.b.length + zs.length = n) (hby : By (f.b ++ zs)) (hM : M = sizeN S.fs + zs.length) :
    ∃ X' Y2, DiskI ((u1.setCell ⟨g, 0, none⟩ (.slice a' n c')).setCell ⟨b, 2, none⟩ (.int .i64 (M : Nat))) b { S with fs := setF S.fs i { f with b := f.b ++ zs } } X' m G Y2 ∧ Did u ((u1.setCell ⟨g, 0, none⟩ (.slice a' n c')).setCell ⟨b, 2, none⟩ (.int .i64 (M : Nat))) X X' := by
  have hgY : Y f.name g := hd.own
  have hgb : g ≠ b := (h.foot _ _ hgY).2.1
  have hbl : b < u.heap.size := h.lt b h.own
  have hgl : g < u.heap.size := hd.lt g hgY
  have hbq : ∀ q, (Value.slice aa f.b.length cc).ownBlock = some q → q ≠ b := fun q e => (h.foot _ _ (hq q e).1).2.1
  have b1 : u1.heap[b]? = u.heap[b]? := hgr.block b hbl (fun e => hbq b e.symm rfl)
  have g1 : u1.heap[g]? = u.heap[g]? := hgr.block g hgl (fun e => (hq g e.symm).2 rfl)
  have hlen : (f.b ++ zs).length = n := by rw [List.length_append]; exact hn
  obtain ⟨u3, hu3⟩ : ∃ u3, u3 = (u1.setCell ⟨g, 0, none⟩ (.slice a' n c')).setCell ⟨b, 2, none⟩ (.int .i64 (M : Nat)) := ⟨_, rfl⟩
  have hoth : ∀ k, k ≠ g → k ≠ b → u3.heap[k]? = u1.heap[k]? := fun k hg hb => by rw [hu3]; exact (Below.heap_setCell _ ⟨b, 2, none⟩ _ k hb).trans (Below.heap_setCell _ ⟨g, 0, none⟩ _ k hg)
  have hcb : ∀ j, j ≠ 2 → u3.cell? ⟨b, j, none⟩ = u.cell? ⟨b, j, none⟩ := fun j hj => by rw [hu3, set_other _ _ _ _ _ hj]; exact cell_kept ((Below.heap_setCell _ ⟨g, 0, none⟩ _ b (Ne.symm hgb)).trans b1) j
  have hsz : u3.heap.size = u1.heap.size := by rw [hu3, World.size_setCell, World.size_setCell]
  have hfr : ∀ (x j : Nat), u3.frozen? ⟨x, j, none⟩ = u1.frozen? ⟨x, j, none⟩ := fun x j => by rw [hu3, World.frozen?_setCell, World.frozen?_setCell]
  have hown3 : ∀ q, (Value.slice a' n c').ownBlock = some q → u3.heap[q]? = u1.heap[q]? := fun q e => by
    rcases hat with e2 | e2
    · rw [e2] at e; exact hoth q (hq q e).2 (hbq q e)
    · rw [e2] at e; injection e with e; exact hoth q (by omega) (by omega)
  have c0 : u3.cell? ⟨g, 0, none⟩ = some (.slice a' n c') := by
    rw [hu3, cell_kept (Below.heap_setCell _ ⟨b, 2, none⟩ _ g hgb)]
    exact World.cell?_setCell_same _ _ _ ((cell_kept g1 0).trans k0)
  have c1 : u3.cell? ⟨g, 1, none⟩ = some (.int .i64 (f.safe : Int)) := by
    rw [hu3, cell_kept (Below.heap_setCell _ ⟨b, 2, none⟩ _ g hgb), set_other _ _ _ _ _ (by omega)]
    exact (cell_kept g1 1).trans hd.c1
  have d2 : u3.cell? ⟨b, 2, none⟩ = some (.int .i64 (M : Nat)) := by
    rw [hu3]
    exact World.cell?_setCell_same _ _ _ ((cell_kept ((Below.heap_setCell _ ⟨g, 0, none⟩ _ b (Ne.symm hgb)).trans b1) 2).trans h.c2)
  have hchg : Chg u u3 (fun k => Y f.name k ∨ k = b) := by
    rw [hu3]
    exact ((Chg.of_grown hgr (X := fun k => Y f.name k ∨ k = b) (fun k e => .inl (hq k e).1)).trans (Chg.set u1 ⟨g, 0, none⟩ _ (X := fun k => Y f.name k ∨ k = b) (.inl hgY)) (fun _ _ x => x)).trans (Chg.set _ ⟨b, 2, none⟩ _ (X := fun k => Y f.name k ∨ k = b) (.inr rfl)) (fun _ _ x => x)
  have hM2 : sizeN (setF S.fs i { f with b := f.b ++ zs }) = M := by
    have := setF_size (f' := { f with b := f.b ++ zs }) hi
    simp only [List.length_append] at this
    omega
  obtain ⟨X', Y2, t1, t2, _⟩ := h.turn (f' := { f with b := f.b ++ zs }) (Y' := fun k => Y f.name k ∨ (Value.slice a' n c').ownBlock = some k) (u' := u3) hi rfl hg hchg ((hcb 0 (by omega)).trans h.c0) ((hcb 1 (by omega)).trans h.c1) (by rw [hM2]; exact d2) ((hcb 3 (by omega)).trans h.c3) ((hcb 4 (by omega)).trans h.c4) (fun j => by rw [hfr]; exact (frozen_kept b1 j).trans (h.free j))
    ⟨.inl hgY, fun k x => by
      rw [hsz]
      rcases x with x | x
      · exact Nat.lt_of_lt_of_le (hd.lt k x) hgr.size
      · exact (ho.lt k x).2, fun j => by rw [hfr]; exact (frozen_kept g1 j).trans (hd.free j), ⟨a', c', by rw [hlen]; exact c0, by rw [hlen]; exact owns_kept ho hown3, fun q e => by
      rw [hlen] at e
      refine ⟨.inr e, ?_⟩
      rcases hat with e2 | e2
      · rw [e2] at e; exact (hq q e).2
      · rw [e2] at e; injection e with e; omega⟩, c1⟩
    (fun k x => by
      rcases x with x | x
      · exact .inl x
      · rcases hat with e2 | e2
        · rw [e2] at x; exact .inl (hq k x).1
        · rw [e2] at x; injection x with x; exact .inr (by omega)) (by have := h.good.safe f (List.mem_of_getElem? hi); show f.safe ≤ (f.b ++ zs).length; rw [List.length_append]; omega) hby
  rw [← hu3]
  exact ⟨X', Y2, t1, t2⟩
/-! A new file among the others -/
theorem lay_mem (f : FileV) : ∀ (l : List FileV) (x : FileV), x ∈ layN f l ↔ x = f ∨ x ∈ l
  | [], x => by simp [layN]
  | g :: r, x => by
    unfold layN
    split
    · rw [List.mem_cons, lay_mem f r x, List.mem_cons]
      constructor
      · rintro (h | h | h)
        · exact .inr (.inl h)
        · exact .inl h
        · exact .inr (.inr h)
      · rintro (h | h | h)
        · exact .inr (.inl h)
        · exact .inl h
        · exact .inr (.inr h)
    · simp
theorem lay_dist (f : FileV) : ∀ (l : List FileV), Dist l → (∀ g ∈ l, g.name ≠ f.name) → Dist (layN f l)
  | [], _, _ => List.pairwise_singleton _ _
  | g :: r, h, hn => by
    obtain ⟨h1, h2⟩ := List.pairwise_cons.1 h
    unfold layN
    split
    · refine List.pairwise_cons.2 ⟨fun x hx => ?_, lay_dist f r h2 (fun x hx => hn x (List.mem_cons_of_mem _ hx))⟩
      rcases (lay_mem f r x).1 hx with e | hx
      · rw [e]; exact hn g (List.mem_cons_self)
      · exact h1 x hx
    · exact List.pairwise_cons.2 ⟨fun x hx => (hn x hx).symm, h⟩
theorem lay_size (f : FileV) : ∀ (l : List FileV), sizeN (layN f l) = f.b.length + sizeN l
  | [] => rfl
  | g :: r => by
    unfold layN
    split
    · simp only [sizeN, lay_size f r]; omega
    · rfl
theorem lay_at (f f' : FileV) (e : f'.name = f.name) : ∀ (l : List FileV), ∃ i, (layN f l)[i]? = some f ∧ setF (layN f l) i f' = layN f' l
  | [] => ⟨0, rfl, rfl⟩
  | g :: r => by
    unfold layN
    rw [e]
    split
    · obtain ⟨i, h1, h2⟩ := lay_at f f' e r
      exact ⟨i + 1, by simpa using h1, by simpa [setF] using h2⟩
    · exact ⟨0, rfl, rfl⟩
/-- A new file, with no byte, has been laid into the map. -/
theorem DiskI.laid {u u' : World} {b m g : Nat} {S : DS} {X : Foot} {G : ByteArray → Option Nat} {Y : List Int → Foot} {s : List Int} (h : DiskI u b S X m G Y) (hs : mayN s = true) (hf : findN S.fs s = none)
    (hc : Chg u u' (fun k => k = m)) (hg : u.heap.size ≤ g) (hd : FileD u' g ⟨s, [], 0⟩ (fun k => k = g)) (hm : PMap u' m (S.fs.length + 1) (putG G (strOfNums s) (some g))) :
    ∃ X' Y2, DiskI u' b { S with fs := layN ⟨s, [], 0⟩ S.fs } X' m (putG G (strOfNums s) (some g)) Y2 ∧ Did u u' X X' ∧ FileD u' g ⟨s, [], 0⟩ (Y2 s) := by
  have hne : ∀ f ∈ S.fs, f.name ≠ s := (find_none_iff _ _).1 hf
  have hB : By s := may_by s hs
  have hgb : g ≠ b := by have := h.lt b h.own; omega
  have hgm : g ≠ m := by have := h.lt m h.xm; omega
  have bk : u'.heap[b]? = u.heap[b]? := hc.block b (h.lt b h.own) (Ne.symm h.mb)
  have hGf : ∀ f ∈ S.fs, putG G (strOfNums s) (some g) (strOfNums f.name) = G (strOfNums f.name) := fun f hf' => putG_other (fun e => hne f hf' (str_inj (may_by _ (h.good.names f hf')) hB (congrArg ByteArray.toList e)))
  refine ⟨fun k => X k ∨ k = g, fun t => if t = s then (fun k => k = g) else Y t, ⟨.inl h.own, fun k x => x.elim (fun y => Nat.lt_of_lt_of_le (h.lt k y) hc.size) (fun e => hd.lt k e), .inl h.xm, h.mb, (cell_kept bk _).trans h.c0, (cell_kept bk _).trans h.c1, ?_, (cell_kept bk _).trans h.c3, (cell_kept bk _).trans h.c4, fun j => (frozen_kept bk j).trans (h.free j), ?_, ?_, ?_, ?_, ?_, ⟨?_, ?_, ?_⟩, ?_⟩, ⟨hc.mono (fun k _ e => by rw [e]; exact h.xm), fun k x => ?_⟩, by show FileD u' g _ (if s = s then _ else _); rw [if_pos rfl]; exact hd⟩
  · show u'.cell? ⟨b, 2, none⟩ = some (.int .i64 (sizeN (layN ⟨s, [], 0⟩ S.fs) : Nat))
    rw [lay_size]
    rw [show ([] : List Int).length + sizeN S.fs = sizeN S.fs by simp]
    exact (cell_kept bk _).trans h.c2
  · show PMap u' m (layN ⟨s, [], 0⟩ S.fs).length _
    rw [lay_len]; exact hm
  · intro x q hx
    by_cases e : x = strOfNums s
    · exact ⟨⟨s, [], 0⟩, (lay_mem _ _ _).2 (.inl rfl), e⟩
    · rw [putG_other e] at hx
      obtain ⟨f, hf', e2⟩ := h.only x q hx
      exact ⟨f, (lay_mem _ _ _).2 (.inr hf'), e2⟩
  · intro f hf'
    rcases (lay_mem _ _ _).1 hf' with e | hf'
    · subst e; exact ⟨g, putG_same _ _ _, by rw [if_pos rfl]; exact hd⟩
    · obtain ⟨q, e, hd'⟩ := h.file f hf'
      exact ⟨q, by rw [hGf f hf']; exact e, by rw [if_neg (hne f hf')]; exact hd'.kept hc.size (fun k x => hc.block k (hd'.lt k x) (h.foot _ _ x).2.2)⟩
  · intro t k hk
    split at hk
    · subst hk; exact ⟨.inr rfl, hgb, hgm⟩
    · exact ⟨.inl (h.foot t k hk).1, (h.foot t k hk).2⟩
  · intro t t' k hk hk'
    have far : ∀ t, Y t k → k = g → False := fun t hy e => by have := h.lt k (h.foot _ _ hy).1; omega
    by_cases e1 : t = s <;> by_cases e2 : t' = s
    · rw [e1, e2]
    · rw [if_pos e1] at hk; rw [if_neg e2] at hk'; exact (far t' hk' hk).elim
    · rw [if_neg e1] at hk; rw [if_pos e2] at hk'; exact (far t hk hk').elim
    · rw [if_neg e1] at hk; rw [if_neg e2] at hk'; exact h.apart t t' k hk hk'
  · intro f hf'
    rcases (lay_mem _ _ _).1 hf' with e | hf'
    · subst e; exact Nat.le_refl _
    · exact h.good.safe f hf'
  · intro f hf'
    rcases (lay_mem _ _ _).1 hf' with e | hf'
    · subst e; intro z hz; cases hz
    · exact h.good.bytes f hf'
  · intro f hf'
    rcases (lay_mem _ _ _).1 hf' with e | hf'
    · subst e; exact hs
    · exact h.good.names f hf'
  · exact lay_dist _ _ h.dist hne
  · rcases x with x | x
    · exact ⟨.inl x, Nat.lt_of_lt_of_le (h.lt k x) hc.size⟩
    · exact ⟨.inr (by omega), hd.lt k x⟩
end Go.Proofs.Ytlfmhdljldbjmaa
