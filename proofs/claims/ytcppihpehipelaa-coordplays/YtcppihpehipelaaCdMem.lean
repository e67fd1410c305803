/-
  The landed package coord: how what is to be decided lies in memory, what stays of it while other blocks turn. No function of the program is named here.
-/
import Derived.Test.YtcppihpehipelaaCdPlain
import Derived.Test.YtcppihpehipelaaAu65
namespace Go.Proofs.Ytcppihpehipelaa
open Go.RowKit
set_option linter.unusedVariables false

/-- Numbers that lie in a block from its start, and can be set. -/
structure IntsO (u : World) (g : Nat) (zs : List Int) : Prop where
  row : ∃ cur : Array Value, u.heap[g]? = some (.cells cur 3 (0, 0)) ∧ zs.length ≤ cur.size ∧ ∀ (i : Nat) (z : Int), zs[i]? = some z → cur[i]? = some (.int .i64 z)
theorem IntsO.kept {u u' : World} {g : Nat} {zs : List Int} (h : IntsO u g zs) (hb : u'.heap[g]? = u.heap[g]?) : IntsO u' g zs := by
  obtain ⟨cur, h1, h2⟩ := h.row
  exact ⟨⟨cur, hb.trans h1, h2⟩⟩
theorem IntsO.lt {u : World} {g : Nat} {zs : List Int} (h : IntsO u g zs) : g < u.heap.size := by
  obtain ⟨cur, h1, h2⟩ := h.row
  exact (Array.getElem?_eq_some_iff.1 h1).1
theorem IntsO.at_ {u : World} {g : Nat} {zs : List Int} (h : IntsO u g zs) {i : Nat} {z : Int} (hz : zs[i]? = some z) : u.cell? ⟨g, i, none⟩ = some (.int .i64 z) := by
  obtain ⟨cur, h1, h2, h3⟩ := h.row
  exact (cell_of_row u g i cur _ _ h1).trans (h3 i z hz)
theorem IntsO.free {u : World} {g : Nat} {zs : List Int} (h : IntsO u g zs) (j : Nat) : u.frozen? ⟨g, j, none⟩ = false := by
  obtain ⟨cur, h1, h2, h3⟩ := h.row
  unfold World.frozen?
  rw [h1]
  simp
theorem IntsO.past {u u' : World} {g : Nat} {zs : List Int} (h : IntsO u g zs) (hb : Below u.heap.size u u') : IntsO u' g zs := h.kept (hb.block g h.lt)
theorem IntsO.of_own {u : World} {B n : Nat} {v : Value} {zs : List Int} (h : u.ownsRow B 3 1 v n (zs.map (Value.int .i64))) (hl : zs.length = n) (hp : 0 < n) : ∃ g cap, v = .slice (some ⟨g, 0, none⟩) n cap ∧ n ≤ cap ∧ B ≤ g ∧ IntsO u g zs := by
  rcases h.2 with ⟨_, h0⟩ | ⟨g, cap, cur, rfl, hg, hh, h1, h2, h3, h4⟩
  · omega
  · refine ⟨g, cap, rfl, h1, hg, ⟨⟨cur, hh, ?_, fun i z hz => ?_⟩⟩⟩
    · have := congrArg List.length h4
      simp at this; omega
    · have hi : i < n := by rw [← hl]; exact (List.getElem?_eq_some_iff.1 hz).1
      have e : (zs.map (Value.int .i64))[i]? = some (.int .i64 z) := by rw [List.getElem?_map, hz]; rfl
      rw [← h4, List.getElem?_take_of_lt (by omega)] at e
      simpa using e
/-- One in its block g: its parts in gp, those whose votes are awaited at aa, those who owe in go. -/
structure MatI (u : World) (g gp cp : Nat) (aa : Option Addr) (ac go co : Nat) (d : DecC) : Prop where
  c0 : u.cell? ⟨g, 0, none⟩ = some (.int .i64 d.st)
  c1 : u.cell? ⟨g, 1, none⟩ = some (.int .u8 d.sn)
  c2 : u.cell? ⟨g, 2, none⟩ = some (.slice (some ⟨gp, 0, none⟩) d.parts.length cp)
  c3 : u.cell? ⟨g, 3, none⟩ = some (.slice aa (awaitsD d).length ac)
  c4 : u.cell? ⟨g, 4, none⟩ = some (.slice (some ⟨go, 0, none⟩) (owesD d).length co)
  c5 : u.cell? ⟨g, 5, none⟩ = some (.bool (decide (d.how = 1)))
  c6 : u.cell? ⟨g, 6, none⟩ = some (.int .i64 d.at_)
  c7 : u.cell? ⟨g, 7, none⟩ = some (.int .u8 d.an)
  free : ∀ j, u.frozen? ⟨g, j, none⟩ = false
  parts : IntsO u gp d.parts
  pr : d.parts.length ≤ cp
  aw : awaitsD d ≠ [] → ∃ ga, aa = some ⟨ga, 0, none⟩ ∧ IntsO u ga (awaitsD d) ∧ ga ≠ g ∧ ga ≠ gp ∧ ga ≠ go
  ar : (awaitsD d).length ≤ ac
  ow : IntsO u go (owesD d)
  orr : (owesD d).length ≤ co
  ne : gp ≠ g ∧ go ≠ g ∧ gp ≠ go
def matF (g gp : Nat) (aa : Option Addr) (go : Nat) : Foot := fun k => k = g ∨ k = gp ∨ k = go ∨ ∃ ga, aa = some ⟨ga, 0, none⟩ ∧ k = ga
theorem MatI.kept {u u' : World} {g gp cp : Nat} {aa : Option Addr} {ac go co : Nat} {d : DecC} (h : MatI u g gp cp aa ac go co d) (hk : ∀ k, matF g gp aa go k → u'.heap[k]? = u.heap[k]?) : MatI u' g gp cp aa ac go co d := by
  have hg := hk g (.inl rfl)
  exact ⟨(cell_kept hg _).trans h.c0, (cell_kept hg _).trans h.c1, (cell_kept hg _).trans h.c2, (cell_kept hg _).trans h.c3, (cell_kept hg _).trans h.c4, (cell_kept hg _).trans h.c5, (cell_kept hg _).trans h.c6, (cell_kept hg _).trans h.c7,
    fun j => (frozen_kept hg j).trans (h.free j), h.parts.kept (hk gp (.inr (.inl rfl))), h.pr, fun hn => by
      obtain ⟨ga, e, h1, h2⟩ := h.aw hn
      exact ⟨ga, e, h1.kept (hk ga (.inr (.inr (.inr ⟨ga, e, rfl⟩)))), h2⟩, h.ar, h.ow.kept (hk go (.inr (.inr (.inl rfl)))), h.orr, h.ne⟩
/-- One in memory: Y its blocks. -/
def MatD (u : World) (g : Nat) (d : DecC) (Y : Foot) : Prop := (∃ gp cp aa ac go co, MatI u g gp cp aa ac go co d ∧ ∀ k, matF g gp aa go k → Y k) ∧ ∀ k, Y k → k < u.heap.size
theorem MatD.own {u : World} {g : Nat} {d : DecC} {Y : Foot} (h : MatD u g d Y) : Y g := by obtain ⟨⟨gp, cp, aa, ac, go, co, h1, h2⟩, _⟩ := h; exact h2 g (.inl rfl)
theorem MatD.kept {u u' : World} {g : Nat} {d : DecC} {Y : Foot} (h : MatD u g d Y) (hs : u.heap.size ≤ u'.heap.size) (hk : ∀ k, Y k → u'.heap[k]? = u.heap[k]?) : MatD u' g d Y := by
  obtain ⟨⟨gp, cp, aa, ac, go, co, h1, h2⟩, h3⟩ := h
  exact ⟨⟨gp, cp, aa, ac, go, co, h1.kept (fun k x => hk k (h2 k x)), h2⟩, fun k x => Nat.lt_of_lt_of_le (h3 k x) hs⟩
theorem MatD.past {u u' : World} {g : Nat} {d : DecC} {Y : Foot} (h : MatD u g d Y) (hb : Below u.heap.size u u') : MatD u' g d Y := h.kept hb.size (fun k x => hb.block k (h.2 k x))
/-- All of them: b the Coord's block, m its map's, G x the block of the one that has the ID x, Y x its blocks. -/
structure CoI (u : World) (b : Nat) (C : List DecC) (X : Foot) (m : Nat) (G : Int → Option Nat) (Y : Int → Foot) : Prop where
  own : X b
  lt : ∀ k, X k → k < u.heap.size
  xm : X m
  mb : m ≠ b
  c0 : u.cell? ⟨b, 0, none⟩ = some (.map (some m))
  map : PMapI u m C.length G
  only : ∀ x g, I64 x → G x = some g → ∃ d ∈ C, d.id = x
  each : ∀ d ∈ C, ∃ g, G d.id = some g ∧ MatD u g d (Y d.id)
  foot : ∀ s k, Y s k → X k ∧ k ≠ b ∧ k ≠ m
  apart : ∀ s t k, Y s k → Y t k → s = t
  tbl : TblC C
def CoD (u : World) (b : Nat) (C : List DecC) (X : Foot) : Prop := ∃ m G Y, CoI u b C X m G Y
theorem CoI.kept {u u' : World} {b m : Nat} {C : List DecC} {X : Foot} {G : Int → Option Nat} {Y : Int → Foot} (h : CoI u b C X m G Y) (hs : u.heap.size ≤ u'.heap.size) (hk : ∀ k, X k → u'.heap[k]? = u.heap[k]?) : CoI u' b C X m G Y :=
  ⟨h.own, fun k x => Nat.lt_of_lt_of_le (h.lt k x) hs, h.xm, h.mb, (cell_kept (hk b h.own) _).trans h.c0, h.map.kept (hk m h.xm), h.only, fun d hd => by
    obtain ⟨g, e, h1⟩ := h.each d hd
    exact ⟨g, e, h1.kept hs (fun k x => hk k (h.foot _ k x).1)⟩, h.foot, h.apart, h.tbl⟩
theorem CoI.past {u u' : World} {b m : Nat} {C : List DecC} {X : Foot} {G : Int → Option Nat} {Y : Int → Foot} (h : CoI u b C X m G Y) (hb : Below u.heap.size u u') : CoI u' b C X m G Y := h.kept hb.size (fun k x => hb.block k (h.lt k x))
theorem CoD.kept {u u' : World} {b : Nat} {C : List DecC} {X : Foot} (h : CoD u b C X) (hs : u.heap.size ≤ u'.heap.size) (hk : ∀ k, X k → u'.heap[k]? = u.heap[k]?) : CoD u' b C X := by obtain ⟨m, G, Y, h⟩ := h; exact ⟨m, G, Y, h.kept hs hk⟩
theorem CoD.past {u u' : World} {b : Nat} {C : List DecC} {X : Foot} (h : CoD u b C X) (hb : Below u.heap.size u u') : CoD u' b C X := by obtain ⟨m, G, Y, h⟩ := h; exact ⟨m, G, Y, h.past hb⟩
theorem CoD.lt {u : World} {b : Nat} {C : List DecC} {X : Foot} (h : CoD u b C X) : ∀ k, X k → k < u.heap.size := by obtain ⟨m, G, Y, h⟩ := h; exact h.lt
theorem CoD.tbl {u : World} {b : Nat} {C : List DecC} {X : Foot} (h : CoD u b C X) : TblC C := by obtain ⟨m, G, Y, h⟩ := h; exact h.tbl
theorem CoD.cell {u : World} {b : Nat} {C : List DecC} {X : Foot} (h : CoD u b C X) : ∃ m, u.cell? ⟨b, 0, none⟩ = some (.map (some m)) := by obtain ⟨m, G, Y, h⟩ := h; exact ⟨m, h.c0⟩
theorem TblC.i64 {C : List DecC} (h : TblC C) {d : DecC} (hd : d ∈ C) : I64 d.id := by
  have h1 := (h.each d hd).k.id
  have h2 := h.ids d hd
  unfold I64
  omega
/-- What lies at an ID. -/
theorem CoI.at_id {u : World} {b m : Nat} {C : List DecC} {X : Foot} {G : Int → Option Nat} {Y : Int → Foot} (h : CoI u b C X m G Y) {id : Int} (hi : I64 id) :
    (getC C id = none ∧ G id = none) ∨ ∃ (i : Nat) (d : DecC) (g : Nat), getC C id = some d ∧ C[i]? = some d ∧ d.id = id ∧ d ∈ C ∧ G id = some g ∧ MatD u g d (Y id) := by
  cases hg : getC C id with
  | none =>
    refine .inl ⟨rfl, ?_⟩
    cases hG : G id with
    | none => rfl
    | some g =>
      obtain ⟨d, hd, e⟩ := h.only id g hi hG
      exact absurd e ((getC_no h.tbl.sorted).1 hg d hd)
  | some d =>
    obtain ⟨i, h1, h2⟩ := getC_at hg
    have hm := List.mem_of_getElem? h1
    obtain ⟨g, h3, h4⟩ := h.each d hm
    rw [h2] at h3 h4
    exact .inr ⟨i, d, g, rfl, h1, h2, hm, h3, h4⟩
/-- None. -/
theorem CoI.made (w : World) (T : TypeId) : CoI ((w.alloc (.map #[] 0)).alloc (.cells #[.map (some w.heap.size)] T)) (w.heap.size + 1) [] (fun k => k = w.heap.size + 1 ∨ k = w.heap.size) w.heap.size (fun _ => none) (fun _ => noFoot) := by
  refine ⟨.inl rfl, fun k hk => ?_, .inr rfl, by omega, ?_, (PMapI.made w).kept ?_, fun x g _ e => by simp at e, fun d hd => by simp at hd, fun s k hk => hk.elim, fun s t k hk => hk.elim, TblC.nil⟩
  · simp only [World.size_alloc]; omega
  · have := World.cell?_alloc_new (w.alloc (.map #[] 0)) #[Value.map (some w.heap.size)] T 0
    rw [World.size_alloc] at this
    rw [this]; rfl
  · exact ((Below.refl (w.alloc (.map #[] 0)).heap.size _).alloc (Nat.le_refl _) _).block _ (by simp)
/-- One of them has turned. -/
theorem CoI.turn {u u' : World} {b m : Nat} {C : List DecC} {X : Foot} {G : Int → Option Nat} {Y : Int → Foot} (h : CoI u b C X m G Y) {i : Nat} {d d' : DecC} {g : Nat} {Y' : Foot} (hi : C[i]? = some d) (he : d'.id = d.id) (hg : G d.id = some g) (hk : DecL d')
    (hc : Chg u u' (Y d.id)) (hm : MatD u' g d' Y') (hY : ∀ k, Y' k → (Y d.id k ∨ u.heap.size ≤ k)) : ∃ X', CoD u' b (putC C d') X' ∧ Did u u' X X' := by
  have hd := List.mem_of_getElem? hi
  have far : ∀ k, X k → ¬ Y d.id k → u'.heap[k]? = u.heap[k]? := fun k x hn => hc.block k (h.lt k x) hn
  have hb : u'.heap[b]? = u.heap[b]? := far b h.own (fun y => (h.foot _ _ y).2.1 rfl)
  have hmm : u'.heap[m]? = u.heap[m]? := far m h.xm (fun y => (h.foot _ _ y).2.2 rfl)
  refine ⟨fun k => X k ∨ Y' k, ⟨m, G, fun s => if s = d.id then Y' else Y s, .inl h.own, fun k x => x.elim (fun y => Nat.lt_of_lt_of_le (h.lt k y) hc.size) (fun y => hm.2 k y), .inl h.xm, h.mb, (cell_kept hb _).trans h.c0, ?_, ?_, ?_, ?_, ?_, h.tbl.put hi he hk⟩, ⟨hc.mono (fun k _ y => (h.foot _ _ y).1), fun k x => ?_⟩⟩
  · rw [putC_len]; exact h.map.kept hmm
  · intro x q hx hq
    obtain ⟨y, hy, e⟩ := h.only x q hx hq
    by_cases hyn : y.id = d.id
    · exact ⟨d', (putC_mem h.tbl.sorted hi he).2 (.inl rfl), by rw [he, ← hyn, e]⟩
    · exact ⟨y, (putC_mem h.tbl.sorted hi he).2 (.inr ⟨hy, hyn⟩), e⟩
  · intro y hy
    rcases (putC_mem h.tbl.sorted hi he).1 hy with rfl | ⟨hy, hyn⟩
    · exact ⟨g, by rw [he]; exact hg, by rw [if_pos he]; exact hm⟩
    · obtain ⟨q, e, hq⟩ := h.each y hy
      exact ⟨q, e, by rw [if_neg hyn]; exact hq.kept hc.size (fun k x => hc.block k (hq.2 k x) (fun y2 => hyn (h.apart _ _ k x y2)))⟩
  · intro s k hk
    split at hk
    · rcases hY k hk with h' | h'
      · exact ⟨.inr hk, (h.foot _ _ h').2⟩
      · have e1 := h.lt b h.own
        have e2 := h.lt m h.xm
        exact ⟨.inr hk, by omega, by omega⟩
    · exact ⟨.inl (h.foot s k hk).1, (h.foot s k hk).2⟩
  · intro s t k hs ht
    have far : ∀ s, s ≠ d.id → Y s k → Y' k → False := fun s hne hy hy' => by
      rcases hY k hy' with h' | h'
      · exact hne (h.apart _ _ k hy h')
      · have := h.lt k (h.foot _ _ hy).1; omega
    by_cases e1 : s = d.id <;> by_cases e2 : t = d.id
    · rw [e1, e2]
    · rw [if_pos e1] at hs; rw [if_neg e2] at ht; exact (far t e2 ht hs).elim
    · rw [if_neg e1] at hs; rw [if_pos e2] at ht; exact (far s e1 hs ht).elim
    · rw [if_neg e1] at hs; rw [if_neg e2] at ht; exact h.apart s t k hs ht
  · rcases x with x | x
    · exact ⟨.inl x, Nat.lt_of_lt_of_le (h.lt k x) hc.size⟩
    · refine ⟨?_, hm.2 k x⟩
      rcases hY k x with h' | h'
      · exact .inl (h.foot _ _ h').1
      · exact .inr h'
/-- One more. -/
theorem CoI.laid {u u' : World} {b m : Nat} {C : List DecC} {X : Foot} {G : Int → Option Nat} {Y : Int → Foot} (h : CoI u b C X m G Y) {d : DecC} {g c : Nat} {Y' : Foot} (hn : getC C d.id = none) (hk : DecL d) (hi : d.id ≤ 9223372036854775807)
    (hc : Chg u u' (fun k => k = m)) (hp : PMapI u' m c (putGI G d.id (some g))) (hcc : c = C.length + 1) (hm : MatD u' g d Y') (hY : ∀ k, Y' k → u.heap.size ≤ k) : ∃ X', CoD u' b (layC C d) X' ∧ Did u u' X X' := by
  subst hcc
  have hno := (getC_no h.tbl.sorted).1 hn
  have far : ∀ k, X k → k ≠ m → u'.heap[k]? = u.heap[k]? := fun k x hn => hc.block k (h.lt k x) hn
  refine ⟨fun k => X k ∨ Y' k, ⟨m, putGI G d.id (some g), fun s => if s = d.id then Y' else Y s, .inl h.own, fun k x => x.elim (fun y => Nat.lt_of_lt_of_le (h.lt k y) hc.size) (fun y => hm.2 k y), .inl h.xm, h.mb, (cell_kept (far b h.own (fun e => h.mb e.symm)) _).trans h.c0, ?_, ?_, ?_, ?_, ?_, h.tbl.lay hn hk hi⟩, ⟨hc.mono (fun k _ e => by rw [e]; exact h.xm), fun k x => ?_⟩⟩
  · rw [layC_len h.tbl.sorted hno]; exact hp
  · intro x q hx hq
    by_cases e : x = d.id
    · exact ⟨d, (layC_mem h.tbl.sorted hno d).2 (.inl rfl), e.symm⟩
    · unfold putGI at hq
      rw [if_neg e] at hq
      obtain ⟨y, hy, e2⟩ := h.only x q hx hq
      exact ⟨y, (layC_mem h.tbl.sorted hno y).2 (.inr hy), e2⟩
  · intro y hy
    rcases (layC_mem h.tbl.sorted hno y).1 hy with rfl | hy
    · exact ⟨g, if_pos rfl, by rw [if_pos rfl]; exact hm⟩
    · have hyn := hno y hy
      obtain ⟨q, e, hq⟩ := h.each y hy
      refine ⟨q, by unfold putGI; rw [if_neg hyn]; exact e, ?_⟩
      rw [if_neg hyn]
      exact hq.kept hc.size (fun k x => far k (h.foot _ _ x).1 (h.foot _ _ x).2.2)
  · intro s k hk
    split at hk
    · have h' := hY k hk
      have e1 := h.lt b h.own
      have e2 := h.lt m h.xm
      exact ⟨.inr hk, by omega, by omega⟩
    · exact ⟨.inl (h.foot s k hk).1, (h.foot s k hk).2⟩
  · intro s t k hs ht
    have far : ∀ s, Y s k → Y' k → False := fun s hy hy' => by
      have h' := hY k hy'
      have := h.lt k (h.foot _ _ hy).1; omega
    by_cases e1 : s = d.id <;> by_cases e2 : t = d.id
    · rw [e1, e2]
    · rw [if_pos e1] at hs; rw [if_neg e2] at ht; exact (far t ht hs).elim
    · rw [if_neg e1] at hs; rw [if_pos e2] at ht; exact (far s hs ht).elim
    · rw [if_neg e1] at hs; rw [if_neg e2] at ht; exact h.apart s t k hs ht
  · rcases x with x | x
    · exact ⟨.inl x, Nat.lt_of_lt_of_le (h.lt k x) hc.size⟩
    · exact ⟨.inr (hY k x), hm.2 k x⟩
end Go.Proofs.Ytcppihpehipelaa
