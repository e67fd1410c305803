/-
  The landed coord: Begin.
-/
import Derived.Test.YtcppihpehipelaaCdC5
import Derived.Test.YtcppihpehipelaaRecL7
namespace Go.Proofs.Ytcppihpehipelaa
open Go.RowKit
set_option linter.unusedVariables false
set_option linter.unusedSimpArgs false

theorem step_store_ptrI {w : World} {ops : Array Oper} {o : Oper} {a : Act} {K : Act → World → Prop} {Q : Exit → Act → World → Prop} {E : Prop} (hg : o.guard = none) (m x v : Operand) (t : TypeId) (hop : o.op = Op.mapUpdate t m x v)
    (e : TypeId) (ht : Try.prog.underlying t = some (.map 2 e)) (b c : Nat) (G : Int → Option Nat) (hm : a.eval m = .map (some b)) (h : PMapI w b c G) (hc : c ≤ 1000000) (k : Int) (hx : a.eval x = .int .i64 k) (hk : I64 k) (g : Nat) (hv : a.eval v = .pointer (some ⟨g, 0, none⟩))
    (hK : ∀ w', PMapI w' b (if (G k).isSome then c else c + 1) (putGI G k (some g)) → w.mapTurned w' b → K (a.put o.dst undef) w') : if Region.wanted o (yielded ops a.tmps) = true then Oper.wp Try.prog o a w K Q else E := by
  have hw : Region.wanted o (yielded ops a.tmps) = true := by simp [Region.wanted, hg]
  rw [if_pos hw]
  obtain ⟨w', hrun, r1, r2⟩ := h.store hc ht hk g
  unfold Oper.wp
  simp only [execOp, hop, hm, hx, hv, Sem.run_bind, hrun, Result.andThen]
  exact hK w' r1 r2
/-- One that is new is laid in. -/
theorem CoI.fresh {w u w' : World} {b m : Nat} {C : List DecC} {X : Foot} {G : Int → Option Nat} {Y : Int → Foot} (h : CoI w b C X m G Y) {d : DecC} (hd : DecL d) (hn : getC C d.id = none) (hG : G d.id = none) (hi : d.id ≤ 9223372036854775807) (hb : Below w.heap.size w u)
    {gp cp go co ac : Nat} {aa : Option Addr} (i1 : IntsO u gp d.parts) (i3 : IntsO u go (owesD d)) (ia : awaitsD d ≠ [] → ∃ ga, aa = some ⟨ga, 0, none⟩ ∧ IntsO u ga (awaitsD d) ∧ ga ≠ gp ∧ ga ≠ go) (la : ∀ ga, aa = some ⟨ga, 0, none⟩ → w.heap.size ≤ ga ∧ ga < u.heap.size)
    (l1 : w.heap.size ≤ gp) (l3 : w.heap.size ≤ go) (hne : gp ≠ go) (r1 : d.parts.length ≤ cp) (ra : (awaitsD d).length ≤ ac) (r3 : (owesD d).length ≤ co) (T : TypeId)
    (hp : PMapI w' m (if (G d.id).isSome then C.length else C.length + 1) (putGI G d.id (some u.heap.size)))
    (ht : (u.alloc (.cells #[.int .i64 d.st, .int .u8 d.sn, .slice (some ⟨gp, 0, none⟩) d.parts.length cp, .slice aa (awaitsD d).length ac, .slice (some ⟨go, 0, none⟩) (owesD d).length co, .bool (decide (d.how = 1)), .int .i64 d.at_, .int .u8 d.an] T)).mapTurned w' m) : DidC w w' b (layC C d) X := by
  obtain ⟨u1, hu1⟩ : ∃ u1, u1 = u.alloc (.cells #[.int .i64 d.st, .int .u8 d.sn, .slice (some ⟨gp, 0, none⟩) d.parts.length cp, .slice aa (awaitsD d).length ac, .slice (some ⟨go, 0, none⟩) (owesD d).length co, .bool (decide (d.how = 1)), .int .i64 d.at_, .int .u8 d.an] T) := ⟨_, rfl⟩
  rw [← hu1] at ht
  have hb1 : Below u.heap.size u u1 := by rw [hu1]; exact (Below.refl _ _).alloc (Nat.le_refl _) _
  have hs1 : u1.heap.size = u.heap.size + 1 := by rw [hu1]; simp
  have hc1 := turned_chg ht (X := fun k => k = m) rfl
  have hm := h.lt m h.xm
  have hsz := hb.size
  have k1 := i1.lt
  have k3 := i3.lt
  have hM : MatI u1 u.heap.size gp cp aa ac go co d := by
    refine ⟨?_, ?_, ?_, ?_, ?_, ?_, ?_, ?_, fun j => by rw [hu1]; exact World.frozen?_alloc_new _ _ _ _, i1.past hb1, r1, fun hn => ?_, ra, i3.past hb1, r3, by omega, by omega, hne⟩
    · rw [hu1, World.cell?_alloc_new]; rfl
    · rw [hu1, World.cell?_alloc_new]; rfl
    · rw [hu1, World.cell?_alloc_new]; rfl
    · rw [hu1, World.cell?_alloc_new]; rfl
    · rw [hu1, World.cell?_alloc_new]; rfl
    · rw [hu1, World.cell?_alloc_new]; rfl
    · rw [hu1, World.cell?_alloc_new]; rfl
    · rw [hu1, World.cell?_alloc_new]; rfl
    · obtain ⟨ga, e1, e2, e3, e4⟩ := ia hn
      have := e2.lt
      exact ⟨ga, e1, e2.past hb1, by omega, e3, e4⟩
  have hF : ∀ k, matF u.heap.size gp aa go k → w.heap.size ≤ k ∧ k < u1.heap.size := fun k hk => by
    rcases hk with e | e | e | ⟨ga, e, e2⟩
    · omega
    · omega
    · omega
    · have := la ga e; omega
  refine ⟨h.laid (Y' := matF u.heap.size gp aa go) (c := C.length + 1) (g := u.heap.size) hn hd hi ?_ (by rw [hG] at hp; exact hp) rfl ⟨⟨gp, cp, aa, ac, go, co, hM.kept (fun k hk => hc1.block k (hF k hk).2 (by have := (hF k hk).1; omega)), fun k hk => hk⟩, fun k hk => Nat.lt_of_lt_of_le (hF k hk).2 hc1.size⟩ (fun k hk => (hF k hk).1)⟩
  exact ((Chg.of_below hb (fun k => k = m)).trans (Chg.of_below hb1 (fun k => k = m)) (fun _ _ y => y)).trans hc1 (fun _ _ y => y)
theorem begin_good (id : Int) (l : List Int) : goodR ⟨4, id, 0, 0, 0, 0, [], false, l⟩ = (decide (1 ≤ id) && partsB l) := by
  unfold goodR
  simp [plainR, okS]
theorem awaits_new (id st sn : Int) (l : List Int) : awaitsD (newC id st sn l) = l := by
  exact (if_pos rfl).trans (restD_fresh l)
theorem owes_new (id st sn : Int) (l : List Int) : owesD (newC id st sn l) = l := restD_fresh l
set_option maxHeartbeats 8000000 in
set_option maxRecDepth 8000 in
theorem cdbegin_any (b : Nat) (C : List DecC) (X : Foot) (id st sn : Int) (a : Option Addr) (N c : Nat) (l : List Int) (w : World) (h : CoD w b C X) (hi : I64 id) (hl : l.length = N) (hN : N ≤ 1000) (hc : N ≤ c) (hat : IntsAt w a l) (hf : C.length ≤ 100000) :
    Calls Try.prog 9 #[.pointer (some ⟨b, 0, none⟩), .int .i64 id, .agg #[.int .i64 st, .int .u8 sn], .slice a N c] w fun e w' => e = .returned (.int .i64 (beginC C id st sn l).1) ∧ DidC w w' b (beginC C id st sn l).2 X := by
  obtain ⟨W, hW⟩ : ∃ u, u = w.alloc (.cells #[.int .i64 st, .int .u8 sn] 28) := ⟨_, rfl⟩
  have HW : Hid (w.alloc (.cells #[.int .i64 st, .int .u8 sn] 28) = W) := hW.symm
  have HBW : Hid (Below w.heap.size w W) := by rw [hW]; exact (Below.refl _ _).alloc (Nat.le_refl _) _
  have FST : Hid (∀ u, Below W.heap.size W u → u.cell? ⟨w.heap.size, 0, none⟩ = some (.int .i64 st) ∧ u.cell? ⟨w.heap.size, 1, none⟩ = some (.int .u8 sn)) := fun u hu => by
    have e0 : W.cell? ⟨w.heap.size, 0, none⟩ = some (.int .i64 st) := by rw [hW, World.cell?_alloc_new]; rfl
    have e1 : W.cell? ⟨w.heap.size, 1, none⟩ = some (.int .u8 sn) := by rw [hW, World.cell?_alloc_new]; rfl
    exact ⟨(hu.cell (p := ⟨w.heap.size, 0, none⟩) (cell_lt e0)).trans e0, (hu.cell (p := ⟨w.heap.size, 1, none⟩) (cell_lt e1)).trans e1⟩
  have HS : Hid (∀ u, Below W.heap.size W u → DidC w u b C X) := fun u hu => DidC.stay h (HBW.out.trans (hu.mono HBW.out.size))
  have CG : Hid (∀ u, Calls Try.prog 35 #[.agg #[.int .i64 st, .int .u8 sn]] u fun e w' => e = .returned (.bool (decide (okS st))) ∧ Below u.heap.size u w') := fun u => sgood_any st sn u
  have CR : Hid (∀ u, Below W.heap.size W u → Calls Try.prog 36 #[.agg #[.int .i64 4, .int .i64 id, .int .i64 0, .int .u8 0, .int .i64 0, .int .u8 0, .slice none 0 0, .bool false, .slice a N c]] u fun e w' => e = .returned (.bool (decide (1 ≤ id) && partsB l)) ∧ Below u.heap.size u w') := fun u hu => by
    have hb := HBW.out.trans (hu.mono HBW.out.size)
    have := lgood_any ⟨⟨4, id, 0, 0, 0, 0, [], false, l⟩, none, 0, a, c⟩ u ⟨WrtsAt.none _ _, Nat.zero_le _, Nat.zero_le _, hat.past hb, by show l.length ≤ c; omega, by show l.length ≤ 1000; omega, ⟨by show (-9223372036854775808 : Int) ≤ 4; omega, by show (4 : Int) ≤ 9223372036854775807; omega⟩, ⟨hi.1, hi.2, by show (0:Int) ≤ 0; omega, by show (0:Int) ≤ 255; omega, by show (0:Int) ≤ 0; omega, by show (0:Int) ≤ 255; omega, fun W hW => by simp at hW, fun W hW => by simp at hW⟩⟩
    rw [begin_good] at this
    have e : rcv ⟨⟨4, id, 0, 0, 0, 0, [], false, l⟩, none, 0, a, c⟩ = .agg #[.int .i64 4, .int .i64 id, .int .i64 0, .int .u8 0, .int .i64 0, .int .u8 0, .slice none 0 0, .bool false, .slice a N c] := by rw [← hl]; rfl
    rw [e] at this
    exact this
  have HRB : beginC C id st sn l = if id < 1 ∨ ¬ okS st ∨ partsB l = false then ((1 : Int), C) else match getC C id with | some _ => (5, C) | none => (0, layC C (newC id st sn l)) := rfl
  by_cases hok : okS st
  · have CG : Hid (∀ u, Calls Try.prog 35 #[.agg #[.int .i64 st, .int .u8 sn]] u fun e w' => e = .returned (.bool true) ∧ Below u.heap.size u w') := fun u => by have := CG.out u; rwa [decide_eq_true hok] at this
    by_cases hgd : id < 1 ∨ partsB l = false
    · have CR : Hid (∀ u, Below W.heap.size W u → Calls Try.prog 36 #[.agg #[.int .i64 4, .int .i64 id, .int .i64 0, .int .u8 0, .int .i64 0, .int .u8 0, .slice none 0 0, .bool false, .slice a N c]] u fun e w' => e = .returned (.bool false) ∧ Below u.heap.size u w') := fun u hu => by
        have := CR.out u hu
        rwa [show (decide (1 ≤ id) && partsB l) = false by rcases hgd with q | q; rw [decide_eq_false (by omega)]; rfl; rw [q, Bool.and_false]] at this
      have HR : Hid (beginC C id st sn l = (1, C)) := by show _ = _; rw [HRB, if_pos (by rcases hgd with q | q; exact .inl q; exact .inr (.inr q))]
      obtain ⟨s0, s1⟩ := FST.out W (Below.refl _ _)
      clear h hi hl hN hc hat hW hok hgd HRB FST
      go_enter Try.func9, Try.ntmps9
      go_wp2_with (first
        | (go_at_call 35; rw [HW.out]; refine (CG.out _).mono ?_; rintro e u1 ⟨rfl, hb1⟩; have B1 : Hid (Below W.heap.size W u1) := hb1; clear hb1)
        | (go_at_call 36; refine (CR.out _ B1.out).mono ?_; rintro e u2 ⟨rfl, hb2⟩; have B2 : Hid (Below W.heap.size W u2) := B1.out.trans (hb2.mono B1.out.size); clear hb2))
      go_ret
      rw [HR.out]
      exact ⟨rfl, HS.out _ B2.out⟩
    · have hid : 1 ≤ id := by
        rcases Int.lt_or_le id 1 with q | q
        · exact absurd (.inl q) hgd
        · exact q
      have hpb : partsB l = true := by
        cases e : partsB l with
        | true => rfl
        | false => exact absurd (.inr e) hgd
      have CR : Hid (∀ u, Below W.heap.size W u → Calls Try.prog 36 #[.agg #[.int .i64 4, .int .i64 id, .int .i64 0, .int .u8 0, .int .i64 0, .int .u8 0, .slice none 0 0, .bool false, .slice a N c]] u fun e w' => e = .returned (.bool true) ∧ Below u.heap.size u w') := fun u hu => by
        have := CR.out u hu
        rwa [decide_eq_true hid, hpb, Bool.true_and] at this
      have hnb : ¬ (id < 1 ∨ ¬ okS st ∨ partsB l = false) := by
        rintro (q | q | q)
        · omega
        · exact q hok
        · rw [hpb] at q; cases q
      rw [if_neg hnb] at HRB
      have hlp := (parts_nodup hpb).2
      obtain ⟨pb, po, rfl, -⟩ : ∃ pb po, a = some ⟨pb, po, none⟩ ∧ True := by
        rcases hat.cells with e | ⟨pb, po, e, _⟩
        · rw [e] at hlp; simp at hlp
        · exact ⟨pb, po, e, trivial⟩
      obtain ⟨m, G, Y, h⟩ := h
      have FC : Hid (∀ u, Below W.heap.size W u → u.cell? ⟨b, 0, none⟩ = some (.map (some m)) ∧ (Instr.lookup 68 (.map (some m)) (.int .i64 id) false).run Try.prog u = .ok (ptrV (G id)) u) := fun u hu => ⟨((h.past HBW.out).past hu).c0, ((h.past HBW.out).past hu).look hi⟩
      rcases h.at_id hi with ⟨h1, h2⟩ | ⟨i, d, g, h1, h2, h3, h4, h5, h6⟩
      · rw [h1] at HRB
        have HR : Hid (beginC C id st sn l = (0, layC C (newC id st sn l))) := HRB
        have FC : Hid (∀ u, Below W.heap.size W u → u.cell? ⟨b, 0, none⟩ = some (.map (some m)) ∧ (Instr.lookup 68 (.map (some m)) (.int .i64 id) false).run Try.prog u = .ok (.pointer none) u) := fun u hu => by have := FC.out u hu; rwa [h2] at this
        have CC : Hid (∀ u, Below W.heap.size W u → Calls Try.prog 37 #[.slice (some ⟨pb, po, none⟩) N c] u fun e w' => ∃ g cap, e = .returned (.slice (some ⟨g, 0, none⟩) N cap) ∧ N ≤ cap ∧ u.heap.size ≤ g ∧ IntsO w' g l ∧ Below u.heap.size u w') := fun u hu => (cdclone_any pb po c N l u hl hN (hat.past (HBW.out.trans (hu.mono HBW.out.size)))).mono fun e w' ⟨⟨a', cap, q1, q2, q3, q4⟩, q5⟩ => by
          obtain ⟨g, rfl, q6, q7⟩ := q4 (by omega)
          exact ⟨g, cap, q1, q2, q6, q7, q5⟩
        have HPM : Hid (∀ u, Below W.heap.size W u → PMapI u m C.length G) := fun u hu => ((h.past HBW.out).past hu).map
        have HI : Hid (I64 id) := hi
        have HCF : Hid (C.length ≤ 1000000) := by show _ ≤ _; omega
        have HDL := DecL.new (id := id) (st := st) (sn := sn) (l := l) hnb
        have HEND : Hid (∀ (u w' : World) (gp cp ga ac go co : Nat), Below W.heap.size W u → IntsO u gp l → IntsO u ga l → IntsO u go l → W.heap.size ≤ gp → gp < ga → ga < go → go < u.heap.size → N ≤ cp → N ≤ ac → N ≤ co → PMapI w' m (if (G id).isSome then C.length else C.length + 1) (putGI G id (some u.heap.size)) → (u.alloc (.cells #[.int .i64 st, .int .u8 sn, .slice (some ⟨gp, 0, none⟩) N cp, .slice (some ⟨ga, 0, none⟩) N ac, .slice (some ⟨go, 0, none⟩) N co, .bool false, .int .i64 0, .int .u8 0] 76)).mapTurned w' m → DidC w w' b (layC C (newC id st sn l)) X) := fun u w' gp cp ga ac go co hb i1 i2 i3 l1 l2 l3 l4 r1 r2 r3 hp ht => by
          have hb2 := HBW.out.trans (hb.mono HBW.out.size)
          have hsz := HBW.out.size
          have ea := awaits_new id st sn l
          have eo := owes_new id st sn l
          subst hl
          refine h.fresh (d := newC id st sn l) HDL h1 h2 hi.2 hb2 (gp := gp) (cp := cp) (go := go) (co := co) (ac := ac) (aa := some ⟨ga, 0, none⟩) i1 (by rw [eo]; exact i3) (fun _ => ⟨ga, rfl, by rw [ea]; exact i2, by omega, by omega⟩) (fun g' e => by injection e with e; injection e with e; omega) (by omega) (by omega) (by omega) r1 (by rw [ea]; exact r2) (by rw [eo]; exact r3) 76 hp ?_
          rw [ea, eo]
          exact ht
        obtain ⟨s0, s1⟩ := FST.out W (Below.refl _ _)
        generalize layC C (newC id st sn l) = C2 at *
        clear h hi hl hN hc hat hW hok hgd HRB h1 h2 hid hpb hnb hlp HDL hf
        go_enter Try.func9, Try.ntmps9
        go_wp2_with (first
          | (go_at_call 35; rw [HW.out]; refine (CG.out _).mono ?_; rintro e u1 ⟨rfl, hb1⟩; have B1 : Hid (Below W.heap.size W u1) := hb1; clear hb1)
          | (go_at_call 36; refine (CR.out _ B1.out).mono ?_; rintro e u2 ⟨rfl, hb2⟩; have B2 : Hid (Below W.heap.size W u2) := B1.out.trans (hb2.mono B1.out.size); obtain ⟨q0, q1⟩ := FC.out u2 B2.out; clear hb2))
        clear q0 q1 s0 s1
        refine wp_region_noPanic ?_
        refine region_up 14 (fun u => Below u2.heap.size u2 u) (by kernel_rfl) ?_ (fun hHeld => ?_)
        · exact (Below.refl _ _).drew
        refine up_take (i := 0) (v := ?_) (by kernel_rfl) (by kernel_rfl) (by kernel_rfl) rfl (by kernel_rfl) (by kernel_rfl) (by kernel_rfl) (fun _ _ _ h => h) (Or.inl ⟨by rfl, ?_⟩) hHeld ?_
        rotate_left
        · intro u hSu
          (go_simp) <;> (with_reducible rfl)
        change wpUp _ _ _ _ _ _ _ _ (Act.put _ (some 26) _) _
        simp only [Act.put, List.setIfInBounds_toArray, List.set_cons_zero, List.set_cons_succ]
        refine up_take (i := 1) (v := ?_) (by kernel_rfl) (by kernel_rfl) (by kernel_rfl) rfl (by kernel_rfl) (by kernel_rfl) (by kernel_rfl) (fun _ _ _ h => h) (Or.inl ⟨by rfl, ?_⟩) hHeld ?_
        rotate_left
        · intro u hSu
          (go_simp) <;> (with_reducible rfl)
        change wpUp _ _ _ _ _ _ _ _ (Act.put _ (some 27) _) _
        simp only [Act.put, List.setIfInBounds_toArray, List.set_cons_zero, List.set_cons_succ]
        refine up_take (i := 2) (v := ?_) (by kernel_rfl) (by kernel_rfl) (by kernel_rfl) rfl (by kernel_rfl) (by kernel_rfl) (by kernel_rfl) (fun _ _ _ h => h) (Or.inl ⟨by rfl, ?_⟩) hHeld ?_
        rotate_left
        · intro u hSu
          (go_simp) <;> (with_reducible rfl)
        change wpUp _ _ _ _ _ _ _ _ (Act.put _ (some 28) _) _
        simp only [Act.put, List.setIfInBounds_toArray, List.set_cons_zero, List.set_cons_succ]
        refine up_take (i := 3) (v := ?_) (by kernel_rfl) (by kernel_rfl) (by kernel_rfl) rfl (by kernel_rfl) (by kernel_rfl) (by kernel_rfl) (fun _ _ _ h => h) (Or.inl ⟨by rfl, ?_⟩) hHeld ?_
        rotate_left
        · intro u hSu
          obtain ⟨q0, q1⟩ := FC.out u (B2.out.trans (hSu.mono B2.out.size))
          (go_simp) <;> (with_reducible rfl)
        change wpUp _ _ _ _ _ _ _ _ (Act.put _ (some 29) _) _
        simp only [Act.put, List.setIfInBounds_toArray, List.set_cons_zero, List.set_cons_succ]
        refine up_take (i := 4) (v := ?_) (by kernel_rfl) (by kernel_rfl) (by kernel_rfl) rfl (by kernel_rfl) (by kernel_rfl) (by kernel_rfl) (fun _ _ _ h => h) (Or.inl ⟨by rfl, ?_⟩) hHeld ?_
        rotate_left
        · intro u hSu
          (go_simp) <;> (with_reducible rfl)
        change wpUp _ _ _ _ _ _ _ _ (Act.put _ (some 30) _) _
        simp only [Act.put, List.setIfInBounds_toArray, List.set_cons_zero, List.set_cons_succ]
        refine up_take (i := 5) (v := ?_) (by kernel_rfl) (by kernel_rfl) (by kernel_rfl) rfl (by kernel_rfl) (by kernel_rfl) (by kernel_rfl) (fun _ _ _ h => h) (Or.inl ⟨by rfl, ?_⟩) hHeld ?_
        rotate_left
        · intro u hSu
          obtain ⟨s0, s1⟩ := FST.out u (B2.out.trans (hSu.mono B2.out.size))
          (go_simp) <;> (with_reducible rfl)
        change wpUp _ _ _ _ _ _ _ _ (Act.put _ (some 31) _) _
        simp only [Act.put, List.setIfInBounds_toArray, List.set_cons_zero, List.set_cons_succ]
        refine up_take (i := 6) (v := ?_) (by kernel_rfl) (by kernel_rfl) (by kernel_rfl) rfl (by kernel_rfl) (by kernel_rfl) (by kernel_rfl) (fun _ _ _ h => h) (Or.inl ⟨by rfl, ?_⟩) hHeld ?_
        rotate_left
        · intro u hSu
          (go_simp) <;> (with_reducible rfl)
        change wpUp _ _ _ _ _ _ _ _ (Act.put _ (some 32) _) _
        simp only [Act.put, List.setIfInBounds_toArray, List.set_cons_zero, List.set_cons_succ]
        refine up_take (i := 8) (v := ?_) (by kernel_rfl) (by kernel_rfl) (by kernel_rfl) rfl (by kernel_rfl) (by kernel_rfl) (by kernel_rfl) (fun _ _ _ h => h) (Or.inl ⟨by rfl, ?_⟩) hHeld ?_
        rotate_left
        · intro u hSu
          (go_simp) <;> (with_reducible rfl)
        change wpUp _ _ _ _ _ _ _ _ (Act.put _ (some 34) _) _
        simp only [Act.put, List.setIfInBounds_toArray, List.set_cons_zero, List.set_cons_succ]
        refine up_take (i := 10) (v := ?_) (by kernel_rfl) (by kernel_rfl) (by kernel_rfl) rfl (by kernel_rfl) (by kernel_rfl) (by kernel_rfl) (fun _ _ _ h => h) (Or.inl ⟨by rfl, ?_⟩) hHeld ?_
        rotate_left
        · intro u hSu
          (go_simp) <;> (with_reducible rfl)
        change wpUp _ _ _ _ _ _ _ _ (Act.put _ (some 36) _) _
        simp only [Act.put, List.setIfInBounds_toArray, List.set_cons_zero, List.set_cons_succ]
        refine up_ready (rs := [7]) (by kernel_rfl) (by simp) ?_
        refine AllUp.cons rfl (fun K hK => ?_) AllUp.nil
        go_simp
        go_at_call 37
        refine (CC.out _ (B2.out.trans (hHeld.mono B2.out.size))).mono ?_
        rintro e u3 ⟨gp, cp, rfl, n3, l3, i3, hb3⟩
        have B3 : Hid (Below u2.heap.size u2 u3) := hHeld.trans (hb3.mono hHeld.size); have I3 : Hid (IntsO u3 gp l ∧ u2.heap.size ≤ gp ∧ N ≤ cp) := ⟨i3, Nat.le_trans hHeld.size l3, n3⟩; clear hb3 i3 l3 n3
        refine hK.out _ _ ?_ (fun hHeld2 => ?_)
        · exact B3.out
        clear hK K hHeld
        have hHeld := hHeld2
        clear hHeld2
        refine up_ready (rs := [9]) (by kernel_rfl) (by simp) ?_
        refine AllUp.cons rfl (fun K hK => ?_) AllUp.nil
        go_simp
        go_at_call 37
        refine (CC.out _ (B2.out.trans (hHeld.mono B2.out.size))).mono ?_
        rintro e u4 ⟨ga, ac, rfl, n4, l4, i4, hb4⟩
        have B4 : Hid (Below u2.heap.size u2 u4) := hHeld.trans (hb4.mono hHeld.size); have I4 : Hid (IntsO u4 gp l ∧ IntsO u4 ga l ∧ gp < ga ∧ N ≤ ac) := ⟨I3.out.1.past hb4, i4, Nat.lt_of_lt_of_le I3.out.1.lt l4, n4⟩; clear hb4 i4 l4 n4
        refine hK.out _ _ ?_ (fun hHeld2 => ?_)
        · exact B4.out
        clear hK K hHeld
        have hHeld := hHeld2
        clear hHeld2
        refine up_ready (rs := [11]) (by kernel_rfl) (by simp) ?_
        refine AllUp.cons rfl (fun K hK => ?_) AllUp.nil
        go_simp
        go_at_call 37
        refine (CC.out _ (B2.out.trans (hHeld.mono B2.out.size))).mono ?_
        rintro e u5 ⟨go, co, rfl, n5, l5, i5, hb5⟩
        have B5 : Hid (Below u2.heap.size u2 u5) := hHeld.trans (hb5.mono hHeld.size); have I5 : Hid (IntsO u5 gp l ∧ IntsO u5 ga l ∧ IntsO u5 go l ∧ ga < go ∧ N ≤ co) := ⟨I4.out.1.past hb5, I4.out.2.1.past hb5, i5, Nat.lt_of_lt_of_le I4.out.2.1.lt l5, n5⟩; clear hb5 i5 l5 n5
        refine hK.out _ _ ?_ (fun hHeld2 => ?_)
        · exact B5.out
        clear hK K hHeld
        have hHeld := hHeld2
        clear hHeld2
        refine up_take (i := 12) (v := ?_) (by kernel_rfl) (by kernel_rfl) (by kernel_rfl) rfl (by kernel_rfl) (by kernel_rfl) (by kernel_rfl) (fun _ _ _ h => h) (Or.inl ⟨by rfl, ?_⟩) hHeld ?_
        rotate_left
        · intro u hSu
          (go_simp) <;> (with_reducible rfl)
        change wpUp _ _ _ _ _ _ _ _ (Act.put _ (some 38) _) _
        simp only [Act.put, List.setIfInBounds_toArray, List.set_cons_zero, List.set_cons_succ]
        refine up_ready (rs := [13]) (by kernel_rfl) (by simp) ?_
        refine AllUp.cons rfl (fun K hK => ?_) AllUp.nil
        go_simp
        refine hK.out _ _ ?_ (fun hHeld2 => ?_)
        · exact hHeld.alloc hHeld.size _
        clear hK K hHeld
        have hHeld := hHeld2
        clear hHeld2
        refine up_ready (rs := [14]) (by kernel_rfl) (by simp) ?_
        refine AllUp.that rfl (fun K hK => ?_) AllUp.nil
        refine step_store_ptrI rfl _ _ _ 68 rfl 73 Try.underlying68 m C.length G rfl (HPM.out _ (B2.out.trans (hHeld.mono B2.out.size))) HCF.out id rfl HI.out u5.heap.size rfl ?_; intro w7 hp7 ht7; have H7 : Hid (DidC w w7 b C2 X) := HEND.out u5 w7 gp cp ga ac go co (B2.out.trans (B5.out.mono B2.out.size)) I5.out.1 I5.out.2.1 I5.out.2.2.1 (Nat.le_trans B2.out.size I3.out.2.1) I4.out.2.2.1 I5.out.2.2.2.1 I5.out.2.2.1.lt I3.out.2.2 I4.out.2.2.2 I5.out.2.2.2.2 hp7 ht7; clear hp7 ht7; refine hK.out _ _ ?_; clear hK K hHeld
        refine up_done (by kernel_rfl) ?_
        refine NoPanic.normal ?_
        go_wp2
        go_ret
        rw [HR.out]
        exact ⟨rfl, H7.out⟩
      · rw [h1] at HRB
        have HR : Hid (beginC C id st sn l = (5, C)) := HRB
        have FC : Hid (∀ u, Below W.heap.size W u → u.cell? ⟨b, 0, none⟩ = some (.map (some m)) ∧ (Instr.lookup 68 (.map (some m)) (.int .i64 id) false).run Try.prog u = .ok (.pointer (some ⟨g, 0, none⟩)) u) := fun u hu => by have := FC.out u hu; rwa [h5] at this
        obtain ⟨s0, s1⟩ := FST.out W (Below.refl _ _)
        clear h hi hl hN hc hat hW hok hgd HRB h1 h2 h3 h4 h5 h6 hid hpb hnb hlp
        go_enter Try.func9, Try.ntmps9
        go_wp2_with (first
          | (go_at_call 35; rw [HW.out]; refine (CG.out _).mono ?_; rintro e u1 ⟨rfl, hb1⟩; have B1 : Hid (Below W.heap.size W u1) := hb1; clear hb1)
          | (go_at_call 36; refine (CR.out _ B1.out).mono ?_; rintro e u2 ⟨rfl, hb2⟩; have B2 : Hid (Below W.heap.size W u2) := B1.out.trans (hb2.mono B1.out.size); obtain ⟨q0, q1⟩ := FC.out u2 B2.out; clear hb2))
        go_ret
        rw [HR.out]
        exact ⟨rfl, HS.out _ B2.out⟩
  · have CG : Hid (∀ u, Calls Try.prog 35 #[.agg #[.int .i64 st, .int .u8 sn]] u fun e w' => e = .returned (.bool false) ∧ Below u.heap.size u w') := fun u => by have := CG.out u; rwa [decide_eq_false hok] at this
    have HR : Hid (beginC C id st sn l = (1, C)) := by show _ = _; rw [HRB, if_pos (.inr (.inl hok))]
    obtain ⟨s0, s1⟩ := FST.out W (Below.refl _ _)
    clear h hi hl hN hc hat hW hok HRB FST CR
    go_enter Try.func9, Try.ntmps9
    go_wp2_with (go_at_call 35; rw [HW.out]; refine (CG.out _).mono ?_; rintro e u1 ⟨rfl, hb1⟩; have B1 : Hid (Below W.heap.size W u1) := hb1; clear hb1)
    go_ret
    rw [HR.out]
    exact ⟨rfl, HS.out _ B1.out⟩
end Go.Proofs.Ytcppihpehipelaa
