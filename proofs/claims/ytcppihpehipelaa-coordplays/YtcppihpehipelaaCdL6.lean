/-
  A landed Coord and the document's own side by side, and an act in a box: what each call leaves.
-/
import Derived.Test.YtcppihpehipelaaAu66
import Derived.Test.YtcppihpehipelaaRefCo4
import Derived.Test.YtcppihpehipelaaRefCo7
import Derived.Test.YtcppihpehipelaaRefRec1
import Derived.Deep.CutBlock
import Derived.Deep.DeepCutAuto
namespace Go.Proofs.Ytcppihpehipelaa
open Go.RowKit
set_option linter.unusedVariables false
set_option linter.unusedSimpArgs false

theorem crd_few {M : List OneM} (ht : TblC (decs M)) : ∀ x ∈ M, x.d.parts.length ≤ 1000 ∧ x.d.votes.length = x.d.parts.length ∧ x.d.acks.length = x.d.parts.length := fun x hx => by
  have hd := ht.each x.d (List.mem_map.2 ⟨x, hx, rfl⟩)
  have h8 := hd.nodup.2.2
  exact ⟨by omega, hd.k.votes, hd.k.acks⟩
theorem crd_up {M : List OneM} (ht : TblC (decs M)) : ∀ x ∈ M, getC (decs M) x.d.id = some x.d := fun x hx => (getC_iff ht.sorted).2 ⟨List.mem_map.2 ⟨x, hx, rfl⟩, rfl⟩
theorem crd_made (w : World) (T : TypeId) : CrdO (w.alloc (.cells #[.slice none 0 0] T)) w.heap.size [] (fun k => k = w.heap.size) := by
  refine ⟨⟨fun _ => none, none, 0, ⟨fun k e => by rw [e, World.size_alloc]; omega, rfl, rfl, fun j => World.frozen?_alloc_new _ _ _ _, by rw [World.cell?_alloc_new]; rfl, Nat.le_refl _, .inl ⟨rfl, rfl, rfl⟩, fun x hx => by simp at hx, List.Pairwise.nil⟩⟩⟩
/-- Both, beside blocks F that stay; n: no more than so many. -/
structure DuoC (w u : World) (b q : Nat) (C C' : List DecC) (n : Nat) (F : Foot) : Prop where
  out : ∃ M D, CdF w u b C (fun k => D k ∨ F k) ∧ CrdO u q M D ∧ decs M = C' ∧ ∀ k, D k → w.heap.size ≤ k ∧ ¬ F k
  lo : ∀ k, F k → w.heap.size ≤ k
  len : C.length ≤ n ∧ C'.length ≤ n
theorem DuoC.past {w u u' : World} {b q n : Nat} {C C' : List DecC} {F : Foot} (h : DuoC w u b q C C' n F) (hb : Below u.heap.size u u') : DuoC w u' b q C C' n F := by
  obtain ⟨M, D, h1, h2, h3, h4⟩ := h.out
  exact ⟨⟨M, D, h1.past hb, h2.past hb, h3, h4⟩, h.lo, h.len⟩
theorem DuoC.below {w u : World} {b q n : Nat} {C C' : List DecC} {F : Foot} (h : DuoC w u b q C C' n F) : Below w.heap.size w u := by obtain ⟨M, D, h1, _⟩ := h.out; exact h1.below
theorem DuoC.tbl {w u : World} {b q n : Nat} {C C' : List DecC} {F : Foot} (h : DuoC w u b q C C' n F) : TblC C := by obtain ⟨M, D, h1, _⟩ := h.out; exact h1.tbl
theorem DuoC.up {w u : World} {b q n m : Nat} {C C' : List DecC} {F : Foot} (h : DuoC w u b q C C' n F) (hm : n ≤ m) : DuoC w u b q C C' m F := ⟨h.out, h.lo, Nat.le_trans h.len.1 hm, Nat.le_trans h.len.2 hm⟩
theorem DuoC.c {w u : World} {b q n m : Nat} {C C' C2 : List DecC} {F : Foot} (h : DuoC w u b q C C' n F) {fn : Nat} {args : Array Value} {E : Ending → Prop} (hc : ∀ D, CdF w u b C D → Calls Try.prog fn args u fun e w' => E e ∧ CdS w u w' b C2 D) (h2 : C2.length ≤ m) (h3 : C'.length ≤ m) :
    Calls Try.prog fn args u fun e w' => E e ∧ DuoC w w' b q C2 C' m F ∧ ∀ k, F k → w'.heap[k]? = u.heap[k]? := by
  obtain ⟨M, D, k1, k2, k3, k4⟩ := h.out
  refine (hc _ k1).mono ?_
  rintro e w' ⟨e1, e2⟩
  exact ⟨e1, ⟨⟨M, D, e2.at_, k2.kept e2.size (fun k hk => e2.stay k (.inl hk)), k3, k4⟩, h.lo, h2, h3⟩, fun k hk => e2.stay k (.inr hk)⟩
theorem DuoC.q {w u : World} {b q n : Nat} {C C' C2 : List DecC} {F : Foot} (h : DuoC w u b q C C' n F) {fn : Nat} {args : Array Value} {E : Ending → Prop} (hc : ∀ M D, CrdO u q M D → decs M = C' → Calls Try.prog fn args u fun e w' => E e ∧ DidO u w' q C2 D) (h2 : C2.length ≤ n) :
    Calls Try.prog fn args u fun e w' => E e ∧ DuoC w w' b q C C2 n F ∧ ∀ k, F k → w'.heap[k]? = u.heap[k]? := by
  obtain ⟨M, D, k1, k2, k3, k4⟩ := h.out
  refine (hc M D k2 k3).mono ?_
  rintro e w' ⟨e1, e2⟩
  obtain ⟨M', D', j1, j2, j3⟩ := e2.out
  have hF : ∀ k, F k → k < u.heap.size := fun k hk => k1.flt k (.inr hk)
  have hlo : ∀ k, (D k ∨ F k) → w.heap.size ≤ k := fun k hk => hk.elim (fun e => (k4 k e).1) (h.lo k)
  refine ⟨e1, ⟨⟨M', D', k1.own (F' := fun k => D' k ∨ F k) (j3.chg.mono (fun k _ e => .inl e)) hlo (fun k hk => ?_), j2, j1, fun k hk => ?_⟩, h.lo, h.len.1, h2⟩, fun k hk => j3.chg.block k (hF k hk) (fun hd => (k4 k hd).2 hk)⟩
  · rcases hk with e | e
    · have := j3.new k e
      exact ⟨this.1.elim (fun x => .inl (.inl x)) .inr, this.2⟩
    · exact ⟨.inl (.inr e), Nat.lt_of_lt_of_le (hF k e) j3.chg.size⟩
  · rcases (j3.new k hk).1 with e | e
    · exact k4 k e
    · exact ⟨Nat.le_trans k1.below.size e, fun hf => by have := hF k hf; omega⟩
/-- A round: the act's box. -/
structure RndC (w u : World) (b q xb : Nat) (C C' : List DecC) (n : Nat) (y : DAct) : Prop where
  duo : DuoC w u b q C C' n (fun k => k = xb)
  box : u.rangeAt xb 0 (encDA y)
theorem RndC.lt {w u : World} {b q xb n : Nat} {C C' : List DecC} {y : DAct} (h : RndC w u b q xb C C' n y) : xb < u.heap.size := by obtain ⟨M, D, h1, _⟩ := h.duo.out; exact h1.flt xb (.inr rfl)
theorem range_keptC {u u' : World} {b : Nat} {cs : List Value} (h : u.rangeAt b 0 cs) (hk : u'.heap[b]? = u.heap[b]?) : u'.rangeAt b 0 cs := fun j v hv => (cell_kept hk _).trans (h j v hv)
theorem RndC.past {w u u' : World} {b q xb n : Nat} {C C' : List DecC} {y : DAct} (h : RndC w u b q xb C C' n y) (hb : Below u.heap.size u u') : RndC w u' b q xb C C' n y := ⟨h.duo.past hb, range_keptC h.box (hb.block xb h.lt)⟩
theorem RndC.below {w u : World} {b q xb n : Nat} {C C' : List DecC} {y : DAct} (h : RndC w u b q xb C C' n y) : Below w.heap.size w u := h.duo.below
theorem RndC.start {w u v : World} {b q n : Nat} {C : List DecC} {y : DAct} (h : DuoC w u b q C C n noFoot) (hb : Below u.heap.size u v) (hl : u.heap.size < v.heap.size) (hr : v.rangeAt u.heap.size 0 (encDA y)) : RndC w v b q u.heap.size C C n y := by
  obtain ⟨M, D, k1, k2, k3, k4⟩ := h.out
  refine ⟨⟨⟨M, D, k1.more hb (fun k hk => ?_), k2.past hb, k3, fun k hk => ⟨(k4 k hk).1, fun e => ?_⟩⟩, fun k e => by rw [e]; exact k1.below.size, h.len⟩, hr⟩
  · rcases hk with e | e
    · exact ⟨.inl (.inl e), Nat.lt_of_lt_of_le (k1.flt k (.inl e)) hb.size⟩
    · exact ⟨.inr (by rw [e]; exact Nat.le_refl _), by rw [e]; exact hl⟩
  · have := k1.flt k (.inl hk); omega
theorem RndC.done {w u : World} {b q xb n : Nat} {C C' : List DecC} {y : DAct} (h : RndC w u b q xb C C' n y) : DuoC w u b q C C' n noFoot := by
  obtain ⟨M, D, k1, k2, k3, k4⟩ := h.duo.out
  exact ⟨⟨M, D, k1.less (fun k hk => hk.elim .inl (fun e => e.elim)), k2, k3, fun k hk => ⟨(k4 k hk).1, fun e => e⟩⟩, fun k e => e.elim, h.duo.len⟩
theorem RndC.cells {w u : World} {b q xb n : Nat} {C C' : List DecC} {y : DAct} (h : RndC w u b q xb C C' n y) : u.cell? ⟨xb, 0, none⟩ = some (.int .i64 y.op) ∧ u.cell? ⟨xb, 1, none⟩ = some (.int .i64 y.id) ∧ u.cell? ⟨xb, 2, none⟩ = some (.int .i64 y.t) ∧ u.cell? ⟨xb, 3, none⟩ = some (.int .u8 y.n) ∧ u.cell? ⟨xb, 4, none⟩ = some (.slice y.pa y.ps.length y.pc) ∧ u.cell? ⟨xb, 5, none⟩ = some (.int .i64 y.part) ∧ u.cell? ⟨xb, 6, none⟩ = some (.bool y.y) := by
  have c : ∀ (j : Nat) v, (encDA y)[j]? = some v → u.cell? ⟨xb, j, none⟩ = some v := fun j v hv => by have := h.box j v hv; rwa [Nat.zero_add] at this
  exact ⟨c 0 _ rfl, c 1 _ rfl, c 2 _ rfl, c 3 _ rfl, c 4 _ rfl, c 5 _ rfl, c 6 _ rfl⟩
theorem RndC.rcd {w u : World} {b q xb n : Nat} {C C' : List DecC} {y : DAct} (h : RndC w u b q xb C C' n y) : u.rangeAt xb 7 (encR y.r) := fun j v hv => by
  have := h.box (7 + j) v (by show (encDA y)[7 + j]? = _; unfold encDA; rw [Nat.add_comm]; exact hv)
  rwa [Nat.zero_add] at this
theorem RndC.c {w u : World} {b q xb n m : Nat} {C C' C2 : List DecC} {y : DAct} (h : RndC w u b q xb C C' n y) {fn : Nat} {args : Array Value} {E : Ending → Prop} (hc : ∀ D, CdF w u b C D → Calls Try.prog fn args u fun e w' => E e ∧ CdS w u w' b C2 D) (h2 : C2.length ≤ m) (h3 : C'.length ≤ m) :
    Calls Try.prog fn args u fun e w' => E e ∧ Hid (RndC w w' b q xb C2 C' m y) := (h.duo.c hc h2 h3).mono fun e w' ⟨e1, e2, e3⟩ => ⟨e1, e2, range_keptC h.box (e3 xb rfl)⟩
theorem RndC.q {w u : World} {b q xb n : Nat} {C C' C2 : List DecC} {y : DAct} (h : RndC w u b q xb C C' n y) {fn : Nat} {args : Array Value} {E : Ending → Prop} (hc : ∀ M D, CrdO u q M D → decs M = C' → Calls Try.prog fn args u fun e w' => E e ∧ DidO u w' q C2 D) (h2 : C2.length ≤ n) :
    Calls Try.prog fn args u fun e w' => E e ∧ Hid (RndC w w' b q xb C C2 n y) := (h.duo.q hc h2).mono fun e w' ⟨e1, e2, e3⟩ => ⟨e1, e2, range_keptC h.box (e3 xb rfl)⟩
theorem begin_len (C : List DecC) (ht : TblC C) (id st sn : Int) (l : List Int) : (beginC C id st sn l).2.length ≤ C.length + 1 := by
  unfold beginC
  split
  · exact Nat.le_succ _
  · split
    · exact Nat.le_succ _
    · next hn => exact Nat.le_of_eq (layC_len ht.sorted ((getC_no ht.sorted).1 hn))
theorem play_len (C : List DecC) (ht : TblC C) (r : Rcd) : (playC C r).2.length ≤ C.length + 1 := by
  unfold playC
  split
  · exact Nat.le_succ _
  · split
    · exact Nat.le_succ _
    · next hn => exact Nat.le_of_eq (layC_len ht.sorted ((getC_no ht.sorted).1 hn))
theorem vote_len (C : List DecC) (id p : Int) (y : Bool) (t n : Int) : (voteC C id p y t n).2.length = C.length := by
  unfold voteC
  split
  · rfl
  · exact putC_len _ _
theorem ack_len (C : List DecC) (id p : Int) : (ackC C id p).2.length = C.length := by
  unfold ackC
  split
  · rfl
  · exact putC_len _ _
theorem give_len (C : List DecC) (id : Int) : (giveC C id).2.length = C.length := by
  unfold giveC
  split
  · rfl
  · exact putC_len _ _
section
variable {w u : World} {b q xb n : Nat} {C C2 : List DecC} {y : DAct}
theorem RndC.begin_c (h : RndC w u b q xb C C n y) {w0 : World} (hok : DActOk w0 y) (h0 : Below w0.heap.size w0 u) (hp : y.ps.length ≤ 12) (hn : n ≤ 1000) {r : Int} (he : beginC C y.id y.t y.n y.ps = (r, C2)) :
    Calls Try.prog 9 #[.pointer (some ⟨b, 0, none⟩), .int .i64 y.id, .agg #[.int .i64 y.t, .int .u8 y.n], .slice y.pa y.ps.length y.pc] u fun e w' => e = .returned (.int .i64 r) ∧ Hid (RndC w w' b q xb C2 C (n + 1) y) := by
  have hl := begin_len C h.duo.tbl y.id y.t y.n y.ps
  have := h.duo.len
  rw [he] at hl
  exact h.c (fun D hD => hD.begin he hok.id rfl (by omega) hok.proom (hok.ps.past h0) (by omega)) (by show C2.length ≤ _; have : C2.length ≤ C.length + 1 := hl; omega) (by omega)
theorem RndC.begin_q (h : RndC w u b q xb C2 C (n + 1) y) {w0 : World} (hok : DActOk w0 y) (h0 : Below w0.heap.size w0 u) (hp : y.ps.length ≤ 12) (hn : n ≤ 1000) {r : Int} (he : beginC C y.id y.t y.n y.ps = (r, C2)) :
    Calls Try.prog 20 #[.pointer (some ⟨q, 0, none⟩), .int .i64 y.id, .agg #[.int .i64 y.t, .int .u8 y.n], .slice y.pa y.ps.length y.pc] u fun e w' => e = .returned (.int .i64 r) ∧ Hid (RndC w w' b q xb C2 C2 (n + 1) y) := by
  have hl := h.duo.len
  refine h.q (fun M D hM hd => ?_) hl.1
  subst hd
  have hM2 : M.length = (decs M).length := by unfold decs; rw [List.length_map]
  have := rcbegin_any y.id y.t y.n y.pa _ y.pc y.ps u hM (by omega) rfl (by omega) hok.proom (hok.ps.past h0)
  rw [he] at this
  exact this
theorem RndC.vote_c (h : RndC w u b q xb C C n y) {w0 : World} (hok : DActOk w0 y) {r : Int} (he : voteC C y.id y.part y.y y.t y.n = (r, C2)) :
    Calls Try.prog 11 #[.pointer (some ⟨b, 0, none⟩), .int .i64 y.id, .int .i64 y.part, .bool y.y, .agg #[.int .i64 y.t, .int .u8 y.n]] u fun e w' => e = .returned (.int .i64 r) ∧ Hid (RndC w w' b q xb C2 C (n + 1) y) := by
  have hl := vote_len C y.id y.part y.y y.t y.n
  have := h.duo.len
  rw [he] at hl
  exact h.c (fun D hD => hD.vote he hok.id hok.n) (by show C2.length ≤ _; have : C2.length = C.length := hl; omega) (by omega)
theorem RndC.vote_q (h : RndC w u b q xb C2 C (n + 1) y) (ht : TblC C) (hn : n ≤ 1000) {r : Int} (he : voteC C y.id y.part y.y y.t y.n = (r, C2)) :
    Calls Try.prog 21 #[.pointer (some ⟨q, 0, none⟩), .int .i64 y.id, .int .i64 y.part, .bool y.y, .agg #[.int .i64 y.t, .int .u8 y.n]] u fun e w' => e = .returned (.int .i64 r) ∧ Hid (RndC w w' b q xb C2 C2 (n + 1) y) := by
  have hl := h.duo.len
  refine h.q (fun M D hM hd => ?_) hl.1
  subst hd
  have hM2 : M.length = (decs M).length := by unfold decs; rw [List.length_map]
  have := rcvote_any y.id y.part y.y y.t y.n u hM (by omega) (fun x hx => ⟨(crd_few ht x hx).1, (crd_few ht x hx).2.1⟩)
  rw [he] at this
  exact this
theorem RndC.ack_c (h : RndC w u b q xb C C n y) {w0 : World} (hok : DActOk w0 y) {r : Int} (he : ackC C y.id y.part = (r, C2)) :
    Calls Try.prog 12 #[.pointer (some ⟨b, 0, none⟩), .int .i64 y.id, .int .i64 y.part] u fun e w' => e = .returned (.int .i64 r) ∧ Hid (RndC w w' b q xb C2 C (n + 1) y) := by
  have hl := ack_len C y.id y.part
  have := h.duo.len
  rw [he] at hl
  exact h.c (fun D hD => hD.ack he hok.id) (by show C2.length ≤ _; have : C2.length = C.length := hl; omega) (by omega)
theorem RndC.ack_q (h : RndC w u b q xb C2 C (n + 1) y) (ht : TblC C) (hn : n ≤ 1000) {r : Int} (he : ackC C y.id y.part = (r, C2)) :
    Calls Try.prog 22 #[.pointer (some ⟨q, 0, none⟩), .int .i64 y.id, .int .i64 y.part] u fun e w' => e = .returned (.int .i64 r) ∧ Hid (RndC w w' b q xb C2 C2 (n + 1) y) := by
  have hl := h.duo.len
  refine h.q (fun M D hM hd => ?_) hl.1
  subst hd
  have hM2 : M.length = (decs M).length := by unfold decs; rw [List.length_map]
  have := rcack_any y.id y.part u hM (by omega) (fun x hx => ⟨(crd_few ht x hx).1, (crd_few ht x hx).2.2⟩)
  rw [he] at this
  exact this
theorem RndC.give_c (h : RndC w u b q xb C C n y) {w0 : World} (hok : DActOk w0 y) {r : Int} {z : Bool} (he : giveC C y.id = ((z, r), C2)) :
    Calls Try.prog 16 #[.pointer (some ⟨b, 0, none⟩), .int .i64 y.id] u fun e w' => e = .returned (.tuple #[.bool z, .int .i64 r]) ∧ Hid (RndC w w' b q xb C2 C (n + 1) y) := by
  have hl := give_len C y.id
  have := h.duo.len
  rw [he] at hl
  exact h.c (fun D hD => hD.give he hok.id) (by show C2.length ≤ _; have : C2.length = C.length := hl; omega) (by omega)
theorem RndC.give_q (h : RndC w u b q xb C2 C (n + 1) y) (hn : n ≤ 1000) {r : Int} {z : Bool} (he : giveC C y.id = ((z, r), C2)) :
    Calls Try.prog 23 #[.pointer (some ⟨q, 0, none⟩), .int .i64 y.id] u fun e w' => e = .returned (.tuple #[.bool z, .int .i64 r]) ∧ Hid (RndC w w' b q xb C2 C2 (n + 1) y) := by
  have hl := h.duo.len
  refine h.q (fun M D hM hd => ?_) hl.1
  subst hd
  have hM2 : M.length = (decs M).length := by unfold decs; rw [List.length_map]
  have := rcgive_any y.id u hM (by omega)
  rw [he] at this
  exact this
theorem RndC.play_c (h : RndC w u b q xb C C n y) (hr : RcW u y.r) (hn : n ≤ 1000) {r : Int} (he : playC C y.r.r = (r, C2)) :
    Calls Try.prog 15 #[.pointer (some ⟨b, 0, none⟩), rcv y.r] u fun e w' => e = .returned (.int .i64 r) ∧ Hid (RndC w w' b q xb C2 C (n + 1) y) := by
  have hl := play_len C h.duo.tbl y.r.r
  have := h.duo.len
  rw [he] at hl
  exact h.c (fun D hD => hD.play he hr (by omega)) (by show C2.length ≤ _; have : C2.length ≤ C.length + 1 := hl; omega) (by omega)
theorem RndC.play_q (h : RndC w u b q xb C2 C (n + 1) y) (hr : RcW u y.r) (hn : n ≤ 1000) {r : Int} (he : playC C y.r.r = (r, C2)) :
    Calls Try.prog 24 #[.pointer (some ⟨q, 0, none⟩), rcv y.r] u fun e w' => e = .returned (.int .i64 r) ∧ Hid (RndC w w' b q xb C2 C2 (n + 1) y) := by
  have hl := h.duo.len
  refine h.q (fun M D hM hd => ?_) hl.1
  subst hd
  have hM2 : M.length = (decs M).length := by unfold decs; rw [List.length_map]
  have := rcplay_any y.r u hM (by omega) hr
  rw [he] at this
  exact this
-- reads
theorem RndC.dec_c (h : RndC w u b q xb C C n y) {id : Int} (hi : I64 id) {k z : Bool} {t m : Int} (he : decC C id = (k, z, t, m)) :
    Calls Try.prog 13 #[.pointer (some ⟨b, 0, none⟩), .int .i64 id] u fun e w' => e = .returned (.tuple #[.bool k, .bool z, .agg #[.int .i64 t, .int .u8 m]]) ∧ Below u.heap.size u w' := by
  obtain ⟨M, D, k1, _⟩ := h.duo.out
  exact k1.decision he hi
theorem RndC.dec_q (h : RndC w u b q xb C C n y) (hn : n ≤ 1000) {id : Int} {k z : Bool} {t m : Int} (he : decC C id = (k, z, t, m)) :
    Calls Try.prog 26 #[.pointer (some ⟨q, 0, none⟩), .int .i64 id] u fun e w' => e = .returned (.tuple #[.bool k, .bool z, .agg #[.int .i64 t, .int .u8 m]]) ∧ Below u.heap.size u w' := by
  obtain ⟨M, D, _, k2, k3, _⟩ := h.duo.out
  have hl := h.duo.len
  have hM2 : M.length = (decs M).length := by unfold decs; rw [List.length_map]
  have := rcdec_any id u k2.view (by rw [hM2, k3]; omega)
  rw [k3, he] at this
  exact this
theorem RndC.rec_c (h : RndC w u b q xb C C n y) {id : Int} (hi : I64 id) {r : Option Rcd} (he : recC C id = r) :
    Calls Try.prog 14 #[.pointer (some ⟨b, 0, none⟩), .int .i64 id] u fun e w' => ∃ x : RcM, e = .returned (.tuple #[rcv x, .bool r.isSome]) ∧ x.r = r.getD noRcd.r ∧ RcW w' x ∧ Below u.heap.size u w' := by
  obtain ⟨M, D, k1, _⟩ := h.duo.out
  exact k1.record he hi
theorem RndC.rec_q (h : RndC w u b q xb C C n y) (hn : n ≤ 1000) {id : Int} (hi : I64 id) {r : Option Rcd} (he : recC C id = r) :
    Calls Try.prog 27 #[.pointer (some ⟨q, 0, none⟩), .int .i64 id] u fun e w' => ∃ x : RcM, e = .returned (.tuple #[rcv x, .bool r.isSome]) ∧ x.r = r.getD noRcd.r ∧ RcW w' x ∧ Below u.heap.size u w' := by
  obtain ⟨M, D, _, k2, k3, _⟩ := h.duo.out
  have hl := h.duo.len
  have hM2 : M.length = (decs M).length := by unfold decs; rw [List.length_map]
  refine (rcrec_any id u k2.view (by rw [hM2, k3]; omega)).mono ?_
  rintro e w' ⟨⟨e1, e2⟩, e3⟩
  rw [k3] at e1 e2
  cases hr : recC C id with
  | none =>
    rw [hr] at he
    subst he
    exact ⟨noRcd, e1 hr, rfl, noRcd_w _, e3⟩
  | some d =>
    rw [hr] at he
    subst he
    obtain ⟨pa, pc, e4, e5, e6⟩ := e2 d hr
    unfold recC at hr
    cases hg : getC C id with
    | none => rw [hg] at hr; cases hr
    | some z =>
      rw [hg] at hr
      simp only at hr
      by_cases h0 : z.how = 0
      · rw [if_pos h0] at hr; cases hr
      · rw [if_neg h0] at hr
        injection hr with hr
        subst hr
        have hz := h.duo.tbl.each z ((getC_iff h.duo.tbl.sorted).1 hg).1
        have hat : IntsAt w' pa z.parts := by
          refine ⟨?_, parts_bounds hz⟩
          by_cases hp : z.parts = []
          · exact .inl hp
          · obtain ⟨v, hv⟩ : ∃ v, z.parts[0]? = some v := ⟨_, List.getElem?_eq_getElem (List.length_pos_iff.2 hp)⟩
            obtain ⟨g, hg2, _⟩ := e6 0 v hv
            refine .inr ⟨g, 0, hg2, fun j hj => ?_⟩
            obtain ⟨g3, e7, e8⟩ := e6 j _ (List.getElem?_eq_getElem hj)
            rw [hg2] at e7
            cases e7
            rw [Nat.zero_add, e8]
            simp [List.getD, hj]
        have h8 := hz.nodup.2.2
        exact ⟨⟨⟨4, id, 0, 0, z.at_, z.an, [], decide (z.how = 1), z.parts⟩, none, 0, pa, pc⟩, e4, rfl, ⟨WrtsAt.none _ _, Nat.zero_le _, Nat.zero_le _, hat, e5, by show z.parts.length ≤ 1000; omega, ⟨by show (-9223372036854775808 : Int) ≤ 4; omega, by show (4 : Int) ≤ 9223372036854775807; omega⟩, ⟨hi.1, hi.2, by show (0 : Int) ≤ 0; omega, by show (0 : Int) ≤ 255; omega, hz.an.1, hz.an.2, fun W hW => by simp at hW, fun W hW => by simp at hW⟩⟩, e3⟩
theorem RndC.owes_c (h : RndC w u b q xb C C n y) {id : Int} (hi : I64 id) {l : List Int} (he : owesC C id = l) :
    Calls Try.prog 30 #[.pointer (some ⟨b, 0, none⟩), .int .i64 id] u fun e w' => (∃ a c, e = .returned (.slice a l.length c) ∧ l.length ≤ c ∧ RowI w' a l) ∧ Below u.heap.size u w' := by
  obtain ⟨M, D, k1, _⟩ := h.duo.out
  refine (k1.owes he hi).mono ?_
  rintro e w' ⟨a, m, c, e1, e2, e3, e4, e5⟩
  subst e2
  exact ⟨⟨a, c, e1, e3, e4⟩, e5⟩
theorem RndC.owes_q (h : RndC w u b q xb C C n y) (hn : n ≤ 1000) {id : Int} {l : List Int} (he : owesC C id = l) :
    Calls Try.prog 31 #[.pointer (some ⟨q, 0, none⟩), .int .i64 id] u fun e w' => (∃ a c, e = .returned (.slice a l.length c) ∧ l.length ≤ c ∧ RowI w' a l) ∧ Below u.heap.size u w' := by
  obtain ⟨M, D, k1, k2, k3, _⟩ := h.duo.out
  have hl := h.duo.len
  have hM2 : M.length = (decs M).length := by unfold decs; rw [List.length_map]
  have ht : TblC (decs M) := by rw [k3]; exact k1.tbl
  refine (rcowes_any id u k2.view (by rw [hM2, k3]; omega) (fun x hx => ⟨(crd_few ht x hx).1, (crd_few ht x hx).2.2⟩)).mono ?_
  rintro e w' ⟨a, m, c, e1, e2, e3, e4, e5⟩
  rw [k3, he] at e2 e4
  subst e2
  exact ⟨⟨a, c, e1, e3, e4.rowI⟩, e5⟩
theorem RndC.open_c (h : RndC w u b q xb C C n y) (hn : n ≤ 1000) {l : List Int} (he : openC C = l) :
    Calls Try.prog 18 #[.pointer (some ⟨b, 0, none⟩)] u fun e w' => (∃ a c, e = .returned (.slice a l.length c) ∧ l.length ≤ c ∧ RowI w' a l) ∧ Below u.heap.size u w' := by
  obtain ⟨M, D, k1, _⟩ := h.duo.out
  have hl := h.duo.len
  refine (k1.opens he (by omega)).mono ?_
  rintro e w' ⟨a, m, c, e1, e2, e3, e4, e5⟩
  subst e2
  exact ⟨⟨a, c, e1, e3, e4⟩, e5⟩
theorem RndC.open_q (h : RndC w u b q xb C C n y) (hn : n ≤ 1000) {l : List Int} (he : openC C = l) :
    Calls Try.prog 32 #[.pointer (some ⟨q, 0, none⟩)] u fun e w' => (∃ a c, e = .returned (.slice a l.length c) ∧ l.length ≤ c ∧ RowI w' a l) ∧ Below u.heap.size u w' := by
  obtain ⟨M, D, k1, k2, k3, _⟩ := h.duo.out
  have hl := h.duo.len
  have hM2 : M.length = (decs M).length := by unfold decs; rw [List.length_map]
  have ht : TblC (decs M) := by rw [k3]; exact k1.tbl
  refine (rcopen_any u k2.view (by rw [hM2, k3]; omega) (fun x hx => ⟨(crd_few ht x hx).1, (crd_few ht x hx).2.2⟩) (crd_up ht)).mono ?_
  rintro e w' ⟨a, m, c, e1, e2, e3, e4, e5⟩
  rw [k3, he] at e2 e4
  subst e2
  exact ⟨⟨a, c, e1, e3, e4.rowI⟩, e5⟩
end
theorem owes_fewC {C : List DecC} (ht : TblC C) (id : Int) : (owesC C id).length ≤ 1000 := by
  unfold owesC
  cases h : getC C id with
  | none => exact Nat.zero_le _
  | some d =>
    have := owes_len (ht.each d ((getC_iff ht.sorted).1 h).1)
    exact Nat.le_trans this (by omega)
theorem open_fewC (C : List DecC) : (openC C).length ≤ C.length := by
  unfold openC
  rw [List.length_map]
  exact List.length_filter_le _ _
set_option maxHeartbeats 4000000 in
set_option maxRecDepth 8000 in
theorem cdrcd_any (x : RcM) (w : World) : Calls Try.prog 25 #[rcv x] w fun e w' => e = .returned (rcv x) ∧ Below w.heap.size w w' := by
  obtain ⟨⟨kd, id, s, m, t, n, l, y, ps⟩, a, c, pa, pc⟩ := x
  show Calls Try.prog 25 #[.agg #[.int .i64 kd, .int .i64 id, .int .i64 s, .int .u8 m, .int .i64 t, .int .u8 n, .slice a l.length c, .bool y, .slice pa ps.length pc]] w fun e w' => e = .returned (.agg #[.int .i64 kd, .int .i64 id, .int .i64 s, .int .u8 m, .int .i64 t, .int .u8 n, .slice a l.length c, .bool y, .slice pa ps.length pc]) ∧ Below w.heap.size w w'
  generalize l.length = N
  generalize ps.length = P
  have hb := range_madeL (w.alloc (.cells #[.int .i64 kd, .int .i64 id, .int .i64 s, .int .u8 m, .int .i64 t, .int .u8 n, .slice a N c, .bool y, .slice pa P pc] 37)) [.int .i64 kd, .int .i64 id, .int .i64 s, .int .u8 m, .int .i64 t, .int .u8 n, .slice a N c, .bool y, .slice pa P pc] 56
  rw [World.size_alloc] at hb
  have HBX : Hid _ := hb
  clear hb
  go_enter Try.func25, Try.ntmps25
  go_wp2
  exact bodyPost_ret (results_rowL rfl _ _ (w.heap.size + 1) 0 [.int .i64 kd, .int .i64 id, .int .i64 s, .int .u8 m, .int .i64 t, .int .u8 n, .slice a N c, .bool y, .slice pa P pc] _ rfl HBX.out Try.underlying56 rfl info_rrcdC) rfl ⟨rfl, ((Below.refl _ _).alloc (Nat.le_refl _) _).alloc (by simp) _⟩
theorem DuoC.new {w u : World} {b : Nat} (h : CdF w u b [] noFoot) (T : TypeId) : DuoC w (u.alloc (.cells #[.slice none 0 0] T)) b u.heap.size [] [] 0 noFoot := by
  refine ⟨⟨[], fun k => k = u.heap.size, h.more (alloc_belowC _ _) (fun k hk => ?_), crd_made u T, rfl, fun k e => ⟨by rw [e]; exact h.below.size, fun x => x⟩⟩, fun k e => e.elim, Nat.le_refl _, Nat.le_refl _⟩
  rcases hk with e | e
  · exact ⟨.inr (by rw [e]; exact Nat.le_refl _), by rw [e, World.size_alloc]; omega⟩
  · exact e.elim
open Classical in
theorem rsame_yesC (x x2 : RcM) (w : World) (h : RcW w x) (h2 : RcW w x2) (he : x.r = x2.r) :
    Calls Try.prog 28 #[rcv x, rcv x2] w fun e w' => e = .returned (.bool true) ∧ Below w.heap.size w w' := by
  have := rsame14_any x x2 w h h2
  rwa [decide_eq_true he] at this
theorem thereRcd (v : World) (T : TypeId) : (v.alloc (.cells #[.int .i64 0, .int .i64 0, .int .i64 0, .int .u8 0, .int .i64 0, .int .u8 0, .slice none 0 0, .bool false, .slice none 0 0] T)).there v.heap.size 0 9 := there9U v _ T (encR noRcd) rfl (Below.refl _ _)
end Go.Proofs.Ytcppihpehipelaa
