/-
  The document's own table of decisions: Open.
  The document's own table of decisions: one element while a call works on it; what a call leaves.
-/
import Derived.Test.YtcppihpehipelaaAu47
import Derived.Test.YtcppihpehipelaaAu66
namespace Go.Proofs.Ytcppihpehipelaa
open Go.RowKit
set_option linter.unusedVariables false
set_option linter.unusedSimpArgs false

/-- Those of the first k that are not decided, or of whom somebody owes. -/
def opensN (C : List DecC) (k : Nat) : List Int := openC (C.take k)
def opD (d : DecC) : Bool := decide (d.how = 0) || decide (0 < (owesD d).length)
theorem opensN_next {C : List DecC} {k : Nat} {d : DecC} (h : C[k]? = some d) : opensN C (k + 1) = opensN C k ++ if opD d then [d.id] else [] := by
  unfold opensN openC
  rw [List.take_add_one, h, Option.toList_some, List.filter_append, List.map_append]
  congr 1
  show (List.filter opD [d]).map (fun d => d.id) = _
  cases e : opD d <;> simp [e]
theorem opensN_few (C : List DecC) (k : Nat) : (opensN C k).length ≤ k := by
  unfold opensN openC
  rw [List.length_map]
  exact Nat.le_trans (List.length_filter_le _ _) (by rw [List.length_take]; omega)
set_option maxHeartbeats 8000000 in
set_option maxRecDepth 8000 in
theorem rcopen_any {q : Nat} {M : List OneM} (w : World) (h : CrdV w q M) (hf : M.length ≤ 100000) (hps : ∀ x ∈ M, x.d.parts.length ≤ 1000 ∧ x.d.acks.length = x.d.parts.length) (hup : ∀ x ∈ M, getC (decs M) x.d.id = some x.d) :
    Calls Try.prog 32 #[.pointer (some ⟨q, 0, none⟩)] w fun e w' => ∃ ra m rc, e = .returned (.slice ra m rc) ∧ (openC (decs M)).length = m ∧ m ≤ rc ∧ NumsD w' ra (openC (decs M)) ∧ Below w.heap.size w w' := by
  obtain ⟨N, hN⟩ : ∃ n, M.length = n := ⟨_, rfl⟩
  obtain ⟨a, c, hc, hcell, hone⟩ := h.open hN
  have HN : Hid (M.length = N) := hN
  have HC : Hid (∀ u, Below w.heap.size w u → u.cell? ⟨q, 0, none⟩ = some (.slice a N c)) := hcell
  have HONE : Hid (∀ (i : Nat) (x : OneM), M[i]? = some x → ∃ g, a = some ⟨g, 0, none⟩ ∧ ∀ u, Below w.heap.size w u → u.cell? ⟨g, i * 9, none⟩ = some (.int .i64 x.d.id) ∧ u.cell? ⟨g, i * 9 + 5, none⟩ = some (.int .i64 x.d.how)) := fun i x hx => by
    obtain ⟨g, e, ho⟩ := hone i x hx
    refine ⟨g, e, fun u hu => ?_⟩
    obtain ⟨y0, _, _, _, _, y5, _, _, _⟩ := (ho u hu).cells
    exact ⟨y0, y5⟩
  have COW : Hid (∀ x ∈ M, ∀ u, Below w.heap.size w u → Calls Try.prog 31 #[.pointer (some ⟨q, 0, none⟩), .int .i64 x.d.id] u fun e w' => (∃ ra rc, e = .returned (.slice ra (owesD x.d).length rc)) ∧ Below u.heap.size u w') := fun x hx u hu => (rcowes_any x.d.id u (h.past hu) (by omega) hps).mono fun e w' ⟨ra, m, rc, h1, h2, _, _, h5⟩ => by
    have e2 : owesC (decs M) x.d.id = owesD x.d := by unfold owesC; rw [hup x hx]
    rw [e2] at h2
    subst h2
    exact ⟨⟨ra, rc, h1⟩, h5⟩
  rw [hN] at hf
  clear h hN hcell hone hps hup
  go_enter Try.func32, Try.ntmps32
  go_wp2
  go_loopw [3, 4] (fun rv iv wr => ∃ (k m : Nat) (ra : Option Addr) (rc : Nat), iv = .int .i64 k ∧ rv = .slice ra m rc ∧ k ≤ N ∧ Hid (OwnB 2 1 w wr (.slice ra m rc) m ((opensN (decs M) k).map (Value.int .i64))) ∧ Hid ((opensN (decs M) k).length = m)) (fun _ iv _ => N - (intOf iv).toNat)
  case atStart => exact ⟨0, 0, none, 0, rfl, rfl, Nat.zero_le _, ⟨World.ownsRow_nil _ _ _ _, Below.refl _ _⟩, rfl⟩
  case round =>
    obtain ⟨k, m, ra, rc, rfl, rfl, hk, HO, HM⟩ := hrel
    have hk0 : (0 : Int) ≤ (k : Int) := by omega
    have q0 := HC.out wr HO.out.below
    by_cases hlt : k < N
    · have h1 : (k : Int) < (N : Int) := by omega
      obtain ⟨x, hx⟩ : ∃ x, M[k]? = some x := ⟨_, List.getElem?_eq_getElem (by rw [HN.out]; exact hlt)⟩
      obtain ⟨g, hag, hy⟩ := HONE.out k x hx
      subst hag
      obtain ⟨y0, y5⟩ := hy wr HO.out.below
      have HY : Hid (∀ u, Below w.heap.size w u → u.cell? ⟨g, k * 9, none⟩ = some (.int .i64 x.d.id) ∧ u.cell? ⟨g, k * 9 + 5, none⟩ = some (.int .i64 x.d.how)) := hy
      have COX : Hid (∀ u, Below w.heap.size w u → Calls Try.prog 31 #[.pointer (some ⟨q, 0, none⟩), .int .i64 x.d.id] u fun e w' => (∃ ra rc, e = .returned (.slice ra (owesD x.d).length rc)) ∧ Below u.heap.size u w') := COW.out x (List.mem_of_getElem? hx)
      have HNX : Hid (opensN (decs M) (k + 1) = opensN (decs M) k ++ if opD x.d then [x.d.id] else []) := opensN_next (by unfold decs; rw [List.getElem?_map, hx]; rfl)
      have hm9 : m + 1 ≤ 1000000 := by have := opensN_few (decs M) k; rw [HM.out] at this; omega
      have HOP : Hid (opD x.d = (decide (x.d.how = 0) || decide (0 < (owesD x.d).length))) := rfl
      obtain ⟨od, hod⟩ : ∃ b, b = opD x.d := ⟨_, rfl⟩
      rw [← hod] at HNX HOP
      clear hx hy hod
      generalize x.d.id = id at *
      generalize x.d.how = hw at *
      generalize (owesD x.d).length = ol at *
      by_cases hw0 : hw = 0
      · have hb : (hw == 0) = true := by simpa using hw0
        have HX : Hid ((opensN (decs M) k).map (Value.int .i64) ++ [.int .i64 id] = (opensN (decs M) (k + 1)).map (Value.int .i64)) := by show _ = _; rw [HNX.out, HOP.out, decide_eq_true hw0]; simp
        have HL : Hid ((opensN (decs M) (k + 1)).length = m + 1) := by show _ = _; rw [HNX.out, HOP.out, decide_eq_true hw0, List.length_append, HM.out]; rfl
        clear HNX HOP hw0
        go_wp2_with (first
          | (have hgo := HX.out; clear hgo; at_builtin; refine wpList_own i64_elC (w0 := w) rfl (.tmp 37) (.tmp 46) rfl _ m _ [.int .i64 id] rfl (HO.out.alloc _) _ _ _ rfl rfl (lies_made _ _ _) (by intro u hu; simp at hu; rw [hu]; rfl) (fun h => by cases h) (m + 1) rfl hm9 ((opensN (decs M) (k + 1)).map (Value.int .i64)) HX.out ?_; intro a6 c6 w6 h1 h2; have O6 : Hid (OwnB 2 1 w w6 (.slice a6 (m + 1) c6) (m + 1) ((opensN (decs M) (k + 1)).map (Value.int .i64))) := h1; clear h1 h2))
        go_roundw
        case rel => exact ⟨k + 1, m + 1, a6, c6, by go_num, rfl, by omega, O6, HL⟩
        case measure => simp [intOf]; omega
      · have hb : (hw == 0) = false := by simpa using hw0
        by_cases hol : 0 < ol
        · have d1 : decide ((0 : Int) < (ol : Int)) = true := decide_eq_true (by omega)
          have d2 : decide (0 < ol) = true := decide_eq_true hol
          have HX : Hid ((opensN (decs M) k).map (Value.int .i64) ++ [.int .i64 id] = (opensN (decs M) (k + 1)).map (Value.int .i64)) := by show _ = _; rw [HNX.out, HOP.out, decide_eq_true hol]; simp
          have HL : Hid ((opensN (decs M) (k + 1)).length = m + 1) := by show _ = _; rw [HNX.out, HOP.out, decide_eq_true hol, Bool.or_true, List.length_append, HM.out]; rfl
          clear HNX HOP hw0
          go_wp2_with (first
            | (have hgo := O5.out; clear hgo; at_builtin; refine wpList_own i64_elC (w0 := w) rfl (.tmp 37) (.tmp 46) rfl _ m _ [.int .i64 id] rfl (O5.out.alloc _) _ _ _ rfl rfl (lies_made _ _ _) (by intro u hu; simp at hu; rw [hu]; rfl) (fun h => by cases h) (m + 1) rfl hm9 ((opensN (decs M) (k + 1)).map (Value.int .i64)) HX.out ?_; intro a6 c6 w6 h1 h2; have O6 : Hid (OwnB 2 1 w w6 (.slice a6 (m + 1) c6) (m + 1) ((opensN (decs M) (k + 1)).map (Value.int .i64))) := h1; clear h1 h2)
            | (go_at_call 31; refine (COX.out _ HO.out.below).mono ?_; rintro e w5 ⟨⟨oa, oc, rfl⟩, hb5⟩; have O5 : Hid (OwnB 2 1 w w5 (.slice ra m rc) m ((opensN (decs M) k).map (Value.int .i64))) := HO.out.past hb5; clear q0 y0 y5; obtain ⟨y0, y5⟩ := HY.out w5 O5.out.below; have q0 := HC.out w5 O5.out.below; clear hb5))
          go_roundw
          case rel => exact ⟨k + 1, m + 1, a6, c6, by go_num, rfl, by omega, O6, HL⟩
          case measure => simp [intOf]; omega
        · have d1 : decide ((0 : Int) < (ol : Int)) = false := decide_eq_false (by omega)
          have d2 : decide (0 < ol) = false := decide_eq_false hol
          have HX : Hid (opensN (decs M) (k + 1) = opensN (decs M) k) := by show _ = _; rw [HNX.out, HOP.out, decide_eq_false hol, decide_eq_false hw0]; simp
          clear HNX HOP hw0
          go_wp2_with (first
            | (go_at_call 31; refine (COX.out _ HO.out.below).mono ?_; rintro e w5 ⟨⟨oa, oc, rfl⟩, hb5⟩; have O5 : Hid (OwnB 2 1 w w5 (.slice ra m rc) m ((opensN (decs M) k).map (Value.int .i64))) := HO.out.past hb5; clear q0 y0 y5; obtain ⟨y0, y5⟩ := HY.out w5 O5.out.below; have q0 := HC.out w5 O5.out.below; clear hb5))
          go_roundw
          case rel => exact ⟨k + 1, m, ra, rc, by go_num, rfl, by omega, by rw [HX.out]; exact O5, by rw [HX.out]; exact HM⟩
          case measure => simp [intOf]; omega
    · obtain rfl : k = N := by omega
      have h1 : ¬ (k : Int) < (k : Int) := by omega
      have HE : Hid (opensN (decs M) k = openC (decs M)) := by
        show _ = _
        unfold opensN
        rw [List.take_of_length_le (by unfold decs; rw [List.length_map, HN.out]; exact Nat.le_refl _)]
      go_wp2
      go_ret
      have hd := own_numsD HO.out.own HM.out
      rw [← HE.out]
      exact ⟨ra, m, rc, rfl, HM.out, hd.2, hd.1, HO.out.below⟩
end Go.Proofs.Ytcppihpehipelaa

namespace Go.Proofs.Ytcppihpehipelaa
open Go.RowKit
set_option linter.unusedVariables false
set_option linter.unusedSimpArgs false

/-- What a call leaves: the table, and that nothing else has changed. -/
structure DidO (w w' : World) (q : Nat) (C' : List DecC) (F : Foot) : Prop where
  out : ∃ M' F', decs M' = C' ∧ CrdO w' q M' F' ∧ Did w w' F F'
theorem DidO.stay {w w' : World} {q : Nat} {M : List OneM} {F : Foot} (h : CrdO w q M F) (hb : Below w.heap.size w w') : DidO w w' q (decs M) F := ⟨⟨M, F, rfl, h.past hb, Did.stay hb h.lt⟩⟩
/-- One element, in place i: x is what it now is. -/
structure CrdE (w u : World) (q : Nat) (M : List OneM) (F : Foot) (g c i : Nat) (x : OneM) : Prop where
  tbl : ∃ O, CrdI u q (M.set i x) F O (some ⟨g, 0, none⟩) c
  was : ∃ y, M[i]? = some y ∧ y.d.id = x.d.id
  chg : Chg w u F
  old : ∀ k, F k → k < w.heap.size
  ids : (decs M).Pairwise (fun x y => x.id < y.id)
theorem set_self {α : Type} {l : List α} {i : Nat} {a : α} (h : l[i]? = some a) : l.set i a = l := by
  obtain ⟨h1, h2⟩ := List.getElem?_eq_some_iff.1 h
  rw [← h2]; exact List.set_getElem_self h1
theorem CrdE.start {w : World} {q : Nat} {M : List OneM} {F : Foot} (h : CrdO w q M F) {i : Nat} {x : OneM} (hx : M[i]? = some x) : ∃ g c, CrdE w w q M F g c i x := by
  obtain ⟨O, a, c, hi⟩ := h.out
  rcases hi.row with ⟨e, _⟩ | ⟨g, e1, e2, e3, e4, e5⟩
  · rw [e] at hx; simp at hx
  · subst e1
    exact ⟨g, c, ⟨⟨O, by rw [set_self hx]; exact hi⟩, ⟨x, hx, rfl⟩, Chg.refl _ _, hi.lt, hi.ids⟩⟩
theorem CrdE.size {w u : World} {q : Nat} {M : List OneM} {F : Foot} {g c i : Nat} {x : OneM} (h : CrdE w u q M F g c i x) : w.heap.size ≤ u.heap.size := h.chg.size
theorem CrdE.lt {w u : World} {q : Nat} {M : List OneM} {F : Foot} {g c i : Nat} {x : OneM} (h : CrdE w u q M F g c i x) : i < M.length := by
  obtain ⟨y, hy, _⟩ := h.was
  exact (List.getElem?_eq_some_iff.1 hy).1
theorem CrdE.at_ {w u : World} {q : Nat} {M : List OneM} {F : Foot} {g c i : Nat} {x : OneM} (h : CrdE w u q M F g c i x) : (M.set i x)[i]? = some x := List.getElem?_set_self h.lt
theorem CrdE.past {w u v : World} {q : Nat} {M : List OneM} {F : Foot} {g c i : Nat} {x : OneM} (h : CrdE w u q M F g c i x) (hb : Below u.heap.size u v) : CrdE w v q M F g c i x := by
  obtain ⟨O, ho⟩ := h.tbl
  exact ⟨⟨O, ho.kept hb.size (fun k hF => hb.block k (ho.lt k hF))⟩, h.was, h.chg.trans (Chg.of_below hb _) (fun _ _ y => y), h.old, h.ids⟩
theorem CrdE.done {w u : World} {q : Nat} {M : List OneM} {F : Foot} {g c i : Nat} {x : OneM} (h : CrdE w u q M F g c i x) : DidO w u q (putC (decs M) x.d) F := by
  obtain ⟨O, ho⟩ := h.tbl
  obtain ⟨y, hy, hid⟩ := h.was
  refine ⟨⟨M.set i x, F, ?_, ⟨O, _, _, ho⟩, Did.same h.chg h.old⟩⟩
  rw [decs_set, putC_set h.ids (show (decs M)[i]? = some y.d by unfold decs; rw [List.getElem?_map, hy]; rfl) hid.symm]
/-- What is read of it. -/
structure CellE (v : World) (q : Nat) (N g c i : Nat) (x : OneM) : Prop where
  list : v.cell? ⟨q, 0, none⟩ = some (.slice (some ⟨g, 0, none⟩) N c)
  room : N ≤ c
  one : OneAt v g (i * 9) x
theorem CrdE.cells {w u : World} {q : Nat} {M : List OneM} {F : Foot} {g c i : Nat} {x : OneM} (h : CrdE w u q M F g c i x) : CellE u q M.length g c i x := by
  obtain ⟨O, ho⟩ := h.tbl
  have hl : (M.set i x).length = M.length := List.length_set
  obtain ⟨a', c', h1, h2, h3⟩ := (CrdO.view (M := M.set i x) ⟨⟨O, _, c, ho⟩⟩).lies
  obtain ⟨g', e, h4⟩ := h3 i x h.at_
  have hq := ho.qc
  rw [h1] at hq
  injection hq with hq
  injection hq with q1 q2 q3
  rw [e] at q1
  cases q1
  subst q3
  rw [hl] at h1 h2
  rw [e] at h1
  exact ⟨h1, h2, h4⟩
theorem CellE.past {u v : World} {q N g c i : Nat} {x : OneM} (h : CellE u q N g c i x) (hb : Below u.heap.size u v) : CellE v q N g c i x := ⟨(hb.cell (p := ⟨q, 0, none⟩) (cell_lt h.list)).trans h.list, h.room, h.one.past hb⟩
/-- A store into one of its nine cells. -/
theorem CrdE.turn {w u : World} {q : Nat} {M : List OneM} {F : Foot} {g c i j : Nat} {x x' : OneM} {v : Value} (h : CrdE w u q M F g c i x) (hj : j < 9) (he : encO x' = (encO x).set j v) (hid : x'.d.id = x.d.id) (hp : x'.d.parts = x.d.parts) (hv : x'.d.votes = x.d.votes) (ha : x'.d.acks = x.d.acks)
    (ep : x'.pa = x.pa ∧ x'.pc = x.pc) (ev : x'.va = x.va ∧ x'.vc = x.vc) (ea : x'.aa = x.aa ∧ x'.ac = x.ac) : CrdE w (u.setCell ⟨g, i * 9 + j, none⟩ v) q M F g c i x' := by
  obtain ⟨O, ho⟩ := h.tbl
  obtain ⟨y, hy, hyid⟩ := h.was
  have hx := h.at_
  have hg : F g ∧ g ≠ q ∧ O g = none ∧ RowO u g (M.set i x) := by
    rcases ho.row with ⟨e, _⟩ | ⟨g', e1, e2, e3, e4, e5⟩
    · rw [e] at hx; simp at hx
    · cases e1; exact ⟨e2, e3, e4, e5⟩
  have hm := ho.each x (List.mem_of_getElem? hx)
  have hk : ∀ k, k ≠ g → (u.setCell ⟨g, i * 9 + j, none⟩ v).heap[k]? = u.heap[k]? := fun k hne => Below.heap_setCell _ ⟨g, i * 9 + j, none⟩ _ k hne
  have hone : OneO (u.setCell ⟨g, i * 9 + j, none⟩ v) F O x' := by
    have hm' := hm.kept (u' := u.setCell ⟨g, i * 9 + j, none⟩ v) (fun k s hF hO => hk k (fun e => by rw [e, hg.2.2.1] at hO; cases hO))
    exact ⟨by rw [ep.1, hp, hid]; exact hm'.p, by rw [ev.1, hv, hid]; exact hm'.v, by rw [ea.1, ha, hid]; exact hm'.a, by rw [hp, ep.2]; exact hm'.pr, by rw [hv, ev.2]; exact hm'.vr, by rw [ha, ea.2]; exact hm'.ar⟩
  have hrow := hg.2.2.2.set hx hj he
  refine ⟨⟨O, ?_⟩, ⟨y, hy, hyid.trans hid.symm⟩, h.chg.trans (Chg.set u ⟨g, i * 9 + j, none⟩ v (X := F) hg.1) (fun _ _ y => y), h.old, h.ids⟩
  have := ho.turn (u' := u.setCell ⟨g, i * 9 + j, none⟩ v) (by rw [World.size_setCell]; exact Nat.le_refl _) hx hid rfl (fun k _ hne => hk k hne.1) hrow hone
  rwa [List.set_set] at this
theorem CrdE.how {w u : World} {q : Nat} {M : List OneM} {F : Foot} {g c i : Nat} {x : OneM} (h : CrdE w u q M F g c i x) (n : Int) : CrdE w (u.setCell ⟨g, i * 9 + 5, none⟩ (.int .i64 n)) q M F g c i { x with d := { x.d with how := n } } :=
  h.turn (by omega) rfl rfl rfl rfl rfl ⟨rfl, rfl⟩ ⟨rfl, rfl⟩ ⟨rfl, rfl⟩
theorem CrdE.time {w u : World} {q : Nat} {M : List OneM} {F : Foot} {g c i : Nat} {x : OneM} (h : CrdE w u q M F g c i x) (n : Int) : CrdE w (u.setCell ⟨g, i * 9 + 6, none⟩ (.int .i64 n)) q M F g c i { x with d := { x.d with at_ := n } } :=
  h.turn (by omega) rfl rfl rfl rfl rfl ⟨rfl, rfl⟩ ⟨rfl, rfl⟩ ⟨rfl, rfl⟩
theorem CrdE.node {w u : World} {q : Nat} {M : List OneM} {F : Foot} {g c i : Nat} {x : OneM} (h : CrdE w u q M F g c i x) (n : Int) : CrdE w (u.setCell ⟨g, i * 9 + 7, none⟩ (.int .u8 n)) q M F g c i { x with d := { x.d with an := n } } :=
  h.turn (by omega) rfl rfl rfl rfl rfl ⟨rfl, rfl⟩ ⟨rfl, rfl⟩ ⟨rfl, rfl⟩
theorem CrdE.stamp {w u : World} {q : Nat} {M : List OneM} {F : Foot} {g c i : Nat} {x : OneM} (h : CrdE w u q M F g c i x) (t n : Int) : CrdE w ((u.setCell ⟨g, i * 9 + 6, none⟩ (.int .i64 t)).setCell ⟨g, i * 9 + 7, none⟩ (.int .u8 n)) q M F g c i { x with d := { x.d with at_ := t, an := n } } :=
  (h.time t).node n
/-- The block of its votes, of its acks. -/
theorem CrdE.votes {w u : World} {q : Nat} {M : List OneM} {F : Foot} {g c i : Nat} {x : OneM} (h : CrdE w u q M F g c i x) : ∃ gv, x.va = some ⟨gv, 0, none⟩ ∧ BoolsO u gv x.d.votes ∧ ∀ k, k < x.d.votes.length → CrdE w (u.setCell ⟨gv, k, none⟩ (.bool true)) q M F g c i { x with d := { x.d with votes := x.d.votes.set k true } } := by
  obtain ⟨O, ho⟩ := h.tbl
  obtain ⟨y, hy, hyid⟩ := h.was
  have hx := h.at_
  have hg : F g ∧ g ≠ q ∧ O g = none ∧ RowO u g (M.set i x) := by
    rcases ho.row with ⟨e, _⟩ | ⟨g', e1, e2, e3, e4, e5⟩
    · rw [e] at hx; simp at hx
    · cases e1; exact ⟨e2, e3, e4, e5⟩
  have hm := ho.each x (List.mem_of_getElem? hx)
  obtain ⟨gp, p1, p2, p3, p4⟩ := hm.p
  obtain ⟨gv, v1, v2, v3, v4⟩ := hm.v
  obtain ⟨ga, a1, a2, a3, a4⟩ := hm.a
  refine ⟨gv, v1, v4, fun k hkl => ?_⟩
  have hk : ∀ j, j ≠ gv → (u.setCell ⟨gv, k, none⟩ (.bool true)).heap[j]? = u.heap[j]? := fun j hne => Below.heap_setCell _ ⟨gv, k, none⟩ _ j hne
  have n1 : gp ≠ gv := fun e => by rw [e, v3] at p3; injection p3 with p3; injection p3 with _ p3; cases p3
  have n2 : ga ≠ gv := fun e => by rw [e, v3] at a3; injection a3 with a3; injection a3 with _ a3; cases a3
  have n3 : g ≠ gv := fun e => by rw [e] at hg; rw [v3] at hg; cases hg.2.2.1
  have hone : OneO (u.setCell ⟨gv, k, none⟩ (.bool true)) F O { x with d := { x.d with votes := x.d.votes.set k true } } :=
    ⟨⟨gp, p1, p2, p3, p4.kept (hk gp n1)⟩, ⟨gv, v1, v2, v3, v4.set hkl true⟩, ⟨ga, a1, a2, a3, a4.kept (hk ga n2)⟩, hm.pr, by show (x.d.votes.set k true).length ≤ _; rw [List.length_set]; exact hm.vr, hm.ar⟩
  have hrow := (hg.2.2.2.kept (hk g n3)).same hx (x' := { x with d := { x.d with votes := x.d.votes.set k true } }) (by simp [encO])
  refine ⟨⟨O, ?_⟩, ⟨y, hy, hyid⟩, h.chg.trans (Chg.set u ⟨gv, k, none⟩ _ (X := F) v2) (fun _ _ y => y), h.old, h.ids⟩
  have := ho.turn (x' := { x with d := { x.d with votes := x.d.votes.set k true } }) (u' := u.setCell ⟨gv, k, none⟩ (.bool true)) (by rw [World.size_setCell]; exact Nat.le_refl _) hx rfl rfl (fun j _ hne => hk j (fun e => hne.2 1 (by rw [e]; exact v3))) hrow hone
  rwa [List.set_set] at this
theorem CrdE.acks {w u : World} {q : Nat} {M : List OneM} {F : Foot} {g c i : Nat} {x : OneM} (h : CrdE w u q M F g c i x) : ∃ ga, x.aa = some ⟨ga, 0, none⟩ ∧ BoolsO u ga x.d.acks ∧ ∀ k, k < x.d.acks.length → CrdE w (u.setCell ⟨ga, k, none⟩ (.bool true)) q M F g c i { x with d := { x.d with acks := x.d.acks.set k true } } := by
  obtain ⟨O, ho⟩ := h.tbl
  obtain ⟨y, hy, hyid⟩ := h.was
  have hx := h.at_
  have hg : F g ∧ g ≠ q ∧ O g = none ∧ RowO u g (M.set i x) := by
    rcases ho.row with ⟨e, _⟩ | ⟨g', e1, e2, e3, e4, e5⟩
    · rw [e] at hx; simp at hx
    · cases e1; exact ⟨e2, e3, e4, e5⟩
  have hm := ho.each x (List.mem_of_getElem? hx)
  obtain ⟨gp, p1, p2, p3, p4⟩ := hm.p
  obtain ⟨gv, v1, v2, v3, v4⟩ := hm.v
  obtain ⟨ga, a1, a2, a3, a4⟩ := hm.a
  refine ⟨ga, a1, a4, fun k hkl => ?_⟩
  have hk : ∀ j, j ≠ ga → (u.setCell ⟨ga, k, none⟩ (.bool true)).heap[j]? = u.heap[j]? := fun j hne => Below.heap_setCell _ ⟨ga, k, none⟩ _ j hne
  have n1 : gp ≠ ga := fun e => by rw [e, a3] at p3; injection p3 with p3; injection p3 with _ p3; cases p3
  have n2 : gv ≠ ga := fun e => by rw [e, a3] at v3; injection v3 with v3; injection v3 with _ v3; cases v3
  have n3 : g ≠ ga := fun e => by rw [e] at hg; rw [a3] at hg; cases hg.2.2.1
  have hone : OneO (u.setCell ⟨ga, k, none⟩ (.bool true)) F O { x with d := { x.d with acks := x.d.acks.set k true } } :=
    ⟨⟨gp, p1, p2, p3, p4.kept (hk gp n1)⟩, ⟨gv, v1, v2, v3, v4.kept (hk gv n2)⟩, ⟨ga, a1, a2, a3, a4.set hkl true⟩, hm.pr, hm.vr, by show (x.d.acks.set k true).length ≤ _; rw [List.length_set]; exact hm.ar⟩
  have hrow := (hg.2.2.2.kept (hk g n3)).same hx (x' := { x with d := { x.d with acks := x.d.acks.set k true } }) (by simp [encO])
  refine ⟨⟨O, ?_⟩, ⟨y, hy, hyid⟩, h.chg.trans (Chg.set u ⟨ga, k, none⟩ _ (X := F) a2) (fun _ _ y => y), h.old, h.ids⟩
  have := ho.turn (x' := { x with d := { x.d with acks := x.d.acks.set k true } }) (u' := u.setCell ⟨ga, k, none⟩ (.bool true)) (by rw [World.size_setCell]; exact Nat.le_refl _) hx rfl rfl (fun j _ hne => hk j (fun e => hne.2 2 (by rw [e]; exact a3))) hrow hone
  rwa [List.set_set] at this
end Go.Proofs.Ytcppihpehipelaa

