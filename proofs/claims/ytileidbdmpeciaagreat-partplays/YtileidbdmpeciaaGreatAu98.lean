/-
  What the landed tables answer: Least, All (package prep: Table).
  What the landed tables answer: Least (package prep: Table).
  What package key answers: Text, Sum, Within, Of.
  What package store answers: New, Get, Newest, Chain.
-/
import Derived.Test.YtileidbdmpeciaaGreatPrepT9
import Derived.Test.YtileidbdmpeciaaGreatAu84
import Derived.Test.YtileidbdmpeciaaGreatAu109
namespace Go.Proofs.YtileidbdmpeciaaGreat
open Go.RowKit
set_option linter.unusedVariables false

theorem wpList_build_pent1 (d : Tmp) {ops : Array Oper} {rest : List Oper} {op : Oper} {a : Act} {w : World} {Q : Exit → Act → World → Prop} (hd : op.dst = some d) (hgd : op.guard = none) (y : Operand) (ho : op.op = .buildSlice 107 1 #[(0, y)])
    (x : EntM) (hx : a.eval y = ev x)
    (h : wpList Tryz.prog ops Q rest (a.put op.dst (.slice (some ⟨w.heap.size, 0, none⟩) 1 1)) (w.alloc (.cells (encE x).toArray 31))) : wpList Tryz.prog ops Q (op :: rest) a w := by
  refine wpList_plain hgd fun K hK => ?_
  have hrun := run_build_pent1 w x
  unfold Oper.wp
  simp only [execOp, ho, List.map_toArray, List.map_cons, List.map_nil, hx, Sem.run_bind, hrun, Result.andThen]
  exact hK _ _ h
/-- Rows of unlike types lie apart. -/
theorem rows_apart {u : World} {B1 B2 e1 e2 s1 s2 n1 n2 : Nat} {v1 v2 : Value} {x1 x2 : List Value} (h1 : u.ownsRow B1 e1 s1 v1 n1 x1) (h2 : u.ownsRow B2 e2 s2 v2 n2 x2) (hne : e1 ≠ e2) {k : Nat} (hk : v1.ownBlock = some k) : v2.ownBlock ≠ some k := fun hk2 => by
  rcases h1.2 with ⟨a1, _⟩ | ⟨g1, p1, c1, a1, _, q1, _⟩
  · rw [a1] at hk; cases hk
  · rcases h2.2 with ⟨a2, _⟩ | ⟨g2, p2, c2, a2, _, q2, _⟩
    · rw [a2] at hk2; cases hk2
    · rw [a1] at hk
      rw [a2] at hk2
      have i1 : g1 = k := by simpa [Value.ownBlock] using hk
      have i2 : g2 = k := by simpa [Value.ownBlock] using hk2
      rw [i1] at q1
      rw [i2, q1] at q2
      have q3 := Option.some.inj q2
      injection q3 with _ q4 _
      exact hne q4
/-- One more entry of an answer: its writes in a row of their own. -/
structure EntOwn (u : World) (B : Nat) (y : EntM) : Prop where
  row : u.ownsRow B 80 18 (.slice y.a y.e.l.length y.c) y.e.l.length (y.e.l.flatMap encW)
  oks : ∀ W ∈ y.e.l, WrtOk W
  few : y.e.l.length ≤ 1000000
  ok : EntOk y.e
theorem EntOwn.past {u u' : World} {B : Nat} {y : EntM} (h : EntOwn u B y) (hb : Below u.heap.size u u') : EntOwn u' B y := ⟨row_keptT h.row (fun k e => hb.block k (h.row.lt k e).2), h.oks, h.few, h.ok⟩
theorem EntOwn.ent {u : World} {B : Nat} {y : EntM} (h : EntOwn u B y) : EntW u y := by
  obtain ⟨k1, k2, _⟩ := own_wrts h.row rfl h.oks
  exact ⟨k2, k1, h.few, h.ok⟩
theorem EntOwn.turned {u u' : World} {B B2 n : Nat} {v : Value} {xs : List Value} {y : EntM} (h : EntOwn u B y) (ho : u.ownsRow B2 31 6 v n xs) (hg : u.grownBy u' v.ownBlock) : EntOwn u' B y :=
  ⟨row_keptT h.row (fun k e => hg.block k (h.row.lt k e).2 (fun e2 => rows_apart h.row ho (by decide) e e2.symm)), h.oks, h.few, h.ok⟩
/-- The entries of an answer. -/
structure AllOf (u : World) (B : Nat) (v : Value) (L : List EntM) (E : List Ent) : Prop where
  row : u.ownsRow B 31 6 v L.length (L.flatMap encE)
  is : ents L = E
  own : ∀ y ∈ L, EntOwn u B y
set_option maxHeartbeats 8000000 in
set_option maxRecDepth 4000 in
theorem pall_any (p : Nat) (M : List EntM) (X : Foot) (w : World) (h : PTab w p M X) :
    Calls Tryz.prog 59 #[.pointer (some ⟨p, 0, none⟩)] w fun e w' => (∃ a c L, e = .returned (.slice a M.length c) ∧ AllOf w' w.heap.size (.slice a M.length c) L (ents M)) ∧ Below w.heap.size w w' := by
  obtain ⟨a0, c0, hc1, hc2, hc3, hcell, hent, hblk⟩ := h.open
  obtain ⟨N, hN⟩ : ∃ N, N = M.length := ⟨_, rfl⟩
  have hfew : N ≤ 100 := by rw [hN]; exact h.few
  have q0 : w.cell? ⟨p, 0, none⟩ = some (.slice a0 N c0) := by rw [hN]; exact (hcell w (Below.refl _ _)).1
  have HS : Hid (∀ i x, M[i]? = some x → ∃ g, a0 = some ⟨g, 0, none⟩ ∧ Hid (∀ v, Below w.heap.size w v → EntAt v g (i * 6) x)) := hent
  have HN : Hid (M.length = N) := hN.symm
  have CT : Hid (∀ x ∈ M, ∀ u, Below w.heap.size w u → Calls Tryz.prog 93 #[ev x] u fun e w' => ∃ Y, e = .returned (ev Y) ∧ Y.e = x.e ∧ EntOwn w' w.heap.size Y ∧ Below u.heap.size u w') := fun x hx u hb => by
    have hex := (h.wrs x hx).past hb
    refine (ptold_any x u hex).mono ?_
    rintro e w' ⟨a', c', rfl, ho, hb'⟩
    exact ⟨_, rfl, rfl, ⟨own_downT ho (by have := hb.size; omega), hex.wr.oks, hex.few, hex.ok⟩, hb'⟩
  rw [← hN]
  have hNc : N ≤ c0 := by omega
  clear h hcell hent hblk hN hc1 hc2 hc3
  go_enter Tryz.func59, Tryz.ntmps59
  go_wp2
  go_loopw [3, 11] (fun rv iv wr => ∃ (i : Nat) (ra : Option Addr) (rc : Nat) (L : List EntM), iv = .int .i64 i ∧ rv = .slice ra i rc ∧ i ≤ N ∧ Hid (OwnB 31 6 w wr (.slice ra i rc) i (L.flatMap encE)) ∧ Hid (ents L = ents (M.take i)) ∧ Hid (∀ y ∈ L, EntOwn wr w.heap.size y) ∧ Hid (L.length = i)) (fun _ iv _ => N - (intOf iv).toNat)
  case atStart => exact ⟨0, none, 0, [], rfl, rfl, Nat.zero_le _, ⟨World.ownsRow_nil _ _ _ _, Below.refl _ _⟩, rfl, fun y hy => by simp at hy, rfl⟩
  case round =>
    obtain ⟨i, ra, rc, L, rfl, rfl, hi, HO, HE, HL, HLN⟩ := hrel
    have hi0 : (0 : Int) ≤ (i : Int) := by omega
    by_cases hlt : i < N
    · have h1 : (i : Int) < (N : Int) := by omega
      have hm1 : i + 1 ≤ 1000000 := by omega
      obtain ⟨x, hx⟩ : ∃ x, M[i]? = some x := ⟨_, List.getElem?_eq_getElem (by rw [HN.out]; exact hlt)⟩
      obtain ⟨g, hag, HG⟩ := HS.out i x hx
      subst hag
      have FE : Hid (EntAt wr g (i * 6) x) := HG.out wr HO.out.below
      have CT1 : Hid (∀ u, Below w.heap.size w u → Calls Tryz.prog 93 #[ev x] u fun e w' => ∃ Y, e = .returned (ev Y) ∧ Y.e = x.e ∧ EntOwn w' w.heap.size Y ∧ Below u.heap.size u w') := CT.out x (List.mem_of_getElem? hx)
      have HNX : Hid (ents (M.take (i + 1)) = ents (M.take i) ++ [x.e]) := by show _ = _; rw [List.take_add_one, hx]; simp [ents]
      have hmi := EntMine.made wr 31 zeroE
      rw [zeroE_cells] at hmi
      have HMI : Hid _ := hmi
      clear hx hmi
      go_wp2_with (first | ((with_reducible show wpList _ _ _ (Oper.mk (some 14) _ _ _ _ _ :: _) _ _); refine wpList_load_pent 14 (by rfl) (by rfl) _ (by rfl) g (i * 6) (by rfl) x FE.out ?_) | (have hgo := HMI.out; clear hgo; refine wpList_store_pent (.tmp 5) (by rfl) _ (by rfl) wr.heap.size zeroE x (by rfl) (by rfl) HMI.out ?_; intro u2 hu; have HX2 : Hid (EntMine u2 wr.heap.size x) := hu ▸ HMI.out.store; have HB2 : Hid (Below wr.heap.size wr u2) := hu ▸ below_cells (Nat.le_refl _) ((Below.refl _ _).alloc (Nat.le_refl _) _); have HB3 : Hid (Below w.heap.size w u2) := HO.out.below.trans (HB2.out.mono HO.out.below.size); clear hu HMI) | ((with_reducible show wpList _ _ _ (Oper.mk (some 16) _ _ _ _ _ :: _) _ _); refine wpList_load_pent 16 (by rfl) (by rfl) _ (by rfl) wr.heap.size 0 (by rfl) x HX2.out.at_ ?_) | (go_at_call 93; refine (CT1.out _ HB3.out).mono ?_; rintro e w3 ⟨Y, rfl, hY1, hY2, hb3⟩; have HY1 : Hid (Y.e = x.e) := hY1; have HY2 : Hid (EntOwn w3 w.heap.size Y) := hY2; have HB4 : Hid (Below wr.heap.size wr w3) := HB2.out.trans (hb3.mono HB2.out.size); have HO3 : Hid (OwnB 31 6 w w3 (.slice ra i rc) i (L.flatMap encE)) := ⟨row_keptT HO.out.own (fun k e => HB4.out.block k (HO.out.own.lt k e).2), HO.out.below.trans (HB4.out.mono HO.out.below.size)⟩; clear hY1 hY2 hb3) | ((with_reducible show wpList _ _ _ (Oper.mk (some 18) _ _ _ _ _ :: _) _ _); refine wpList_build_pent1 18 (by rfl) (by rfl) _ (by rfl) Y (by rfl) ?_) | (at_builtin; refine wpList_own pentEl (w0 := w) rfl (.tmp 15) (.tmp 18) rfl _ i _ (encE Y) rfl (HO3.out.alloc _) _ _ _ rfl (by rw [encE_len]) (lies_made _ _ _) (encE_one Y) (fun h => by cases h) (i + 1) rfl hm1 ((L ++ [Y]).flatMap encE) (by rw [List.flatMap_append]; simp) ?_; intro a6 c6 w6 h1 h2; have O6 : Hid (OwnB 31 6 w w6 (.slice a6 (i + 1) c6) (i + 1) ((L ++ [Y]).flatMap encE)) := h1; have G6 : Hid ((w3.alloc (.cells (encE Y).toArray 31)).grownBy w6 (Value.slice ra i rc).ownBlock) := h2; clear h1 h2))
      go_roundw
      case rel =>
        refine ⟨i + 1, a6, c6, L ++ [Y], by go_num, rfl, by omega, O6, ?_, fun y hy => ?_, ?_⟩
        · show _ = _
          rw [HNX.out, ← HE.out, ← HY1.out]
          simp [ents]
        · have hbA : Below w3.heap.size w3 (w3.alloc (.cells (encE Y).toArray 31)) := (Below.refl _ _).alloc (Nat.le_refl _) _
          have ho := (HO3.out.alloc (.cells (encE Y).toArray 31)).own
          rcases List.mem_append.1 hy with e | e
          · exact (((HL.out y e).past HB4.out).past hbA).turned ho G6.out
          · simp at e
            rw [e]
            exact (HY2.out.past hbA).turned ho G6.out
        · show _ = _
          rw [List.length_append, HLN.out]
          rfl
      case measure => simp [intOf]; omega
    · obtain rfl : i = N := by omega
      have HT : Hid (M.take i = M) := List.take_of_length_le (by rw [HN.out]; exact Nat.le_refl _)
      go_wp2
      go_ret
      refine ⟨⟨ra, rc, L, rfl, ⟨?_, ?_, HL.out⟩⟩, HO.out.below⟩
      · have := HO.out.own
        rw [← HLN.out] at this ⊢
        exact this
      · rw [HE.out, HT.out]
end Go.Proofs.YtileidbdmpeciaaGreat

namespace Go.Proofs.YtileidbdmpeciaaGreat
open Go.RowKit
set_option linter.unusedVariables false

theorem LsB.made2 (w : World) (T : TypeId) (t n : Int) : LsB w ((w.alloc (.cells #[.int .i64 0, .int .u8 0] T)).alloc (.cells #[.int .i64 t, .int .u8 n] T)) t n := by
  obtain ⟨u1, h1⟩ : ∃ u, u = w.alloc (.cells #[.int .i64 0, .int .u8 0] T) := ⟨_, rfl⟩
  have e1 : u1.heap.size = w.heap.size + 1 := by rw [h1]; simp
  have k1 : StMine u1 w.heap.size 0 0 := by rw [h1]; exact StMine.made w T 0 0
  have b1 : Below w.heap.size w u1 := by rw [h1]; exact (Below.refl _ _).alloc (Nat.le_refl _) _
  rw [← h1]
  have b2 : Below u1.heap.size u1 (u1.alloc (.cells #[.int .i64 t, .int .u8 n] T)) := (Below.refl _ _).alloc (Nat.le_refl _) _
  have k2 := StMine.made u1 T t n
  rw [e1] at k2
  exact ⟨k1.past b2, k2, b1.trans (b2.mono b1.size)⟩
end Go.Proofs.YtileidbdmpeciaaGreat

namespace Go.Proofs.YtileidbdmpeciaaGreat
open Go.RowKit
set_option linter.unusedVariables false

set_option maxHeartbeats 1000000 in
theorem kwithin_any (k a b : List Int) (hk : Ky k) (ha : Ky a) (hb : Ky b) (w : World) :
    Calls Tryz.prog 107 #[kv k, kv a, kv b] w fun e w' => e = .returned (.bool (withinK k a b)) ∧ Below w.heap.size w w' := by
  have KK : Hid (Ky k) := hk
  have KA : Hid (Ky a) := ha
  have KB : Hid (Ky b) := hb
  have C1 : Hid (∀ u, Calls Tryz.prog 121 #[kv k, kv a] u fun e w' => e = .returned (.int .i64 (lexC k a)) ∧ Below u.heap.size u w') := fun u => kcmp_any k a hk ha u
  have C2 : Hid (∀ u, Calls Tryz.prog 121 #[kv k, kv b] u fun e w' => e = .returned (.int .i64 (lexC k b)) ∧ Below u.heap.size u w') := fun u => kcmp_any k b hk hb u
  have H0 : Hid (Three3 w (((w.alloc (.cells (kcs k) 38)).alloc (.cells (kcs a) 38)).alloc (.cells (kcs b) 38)) k a b) := Three3.made w 38 hk ha hb
  have HQ : Hid (∀ u, (Op.equalIn 10000 38 (kv b) (kv zeroK)).run Tryz.prog u = .ok (decide (b = zeroK)) u) := fun u => eq_key u b zeroK hb zeroK_ky
  clear hk ha hb
  obtain ⟨X, hX⟩ : ∃ X, X = lexC k a := ⟨_, rfl⟩
  obtain ⟨Y, hY⟩ : ∃ Y, Y = lexC k b := ⟨_, rfl⟩
  have HR : Hid (withinK k a b = (decide (0 ≤ X) && (decide (b = zeroK) || decide (Y < 0)))) := by rw [hX, hY]; rfl
  rw [← hX] at C1
  rw [← hY] at C2
  clear hX hY
  have hq := HQ.out
  rw [show (kv zeroK) = .agg #[.int .u8 0, .int .u8 0, .int .u8 0, .int .u8 0, .int .u8 0, .int .u8 0, .int .u8 0, .int .u8 0, .int .u8 0, .int .u8 0, .int .u8 0, .int .u8 0, .int .u8 0, .int .u8 0, .int .u8 0, .int .u8 0] from rfl] at hq
  clear HQ
  by_cases h1 : 0 ≤ X
  · have d1 : decide (0 ≤ X) = true := decide_eq_true h1
    by_cases h2 : b = zeroK
    · rw [decide_eq_true h2] at HR hq
      clear h2
      go_enter Tryz.func107, Tryz.ntmps107
      go_wp2_with (first | (have hgo := C1.out; clear hgo; refine wpList_load_key (by rfl) _ (by rfl) (w.heap.size + 2) 0 (by rfl) b KB.out H0.out.b ?_) | (have hgo := C1.out; clear hgo; refine wpList_load_key (by rfl) _ (by rfl) w.heap.size 0 (by rfl) k KK.out H0.out.k ?_) | (have hgo := C1.out; clear hgo; refine wpList_load_key (by rfl) _ (by rfl) (w.heap.size + 1) 0 (by rfl) a KA.out H0.out.a ?_) | (have hgo := C1.out; clear hgo; go_at_call 121; refine (C1.out _).mono ?_; rintro e w1 ⟨rfl, hb1⟩; have H1 : Hid (Three3 w w1 k a b) := H0.out.past hb1; clear hb1 C1))
      go_ret
      exact ⟨by rw [HR.out, d1]; rfl, H1.out.below⟩
    · rw [decide_eq_false h2] at HR hq
      clear h2
      go_enter Tryz.func107, Tryz.ntmps107
      go_wp2_with (first | (have hgo := C1.out; clear hgo; refine wpList_load_key (by rfl) _ (by rfl) (w.heap.size + 2) 0 (by rfl) b KB.out H0.out.b ?_) | (have hgo := C1.out; clear hgo; refine wpList_load_key (by rfl) _ (by rfl) w.heap.size 0 (by rfl) k KK.out H0.out.k ?_) | (have hgo := C1.out; clear hgo; refine wpList_load_key (by rfl) _ (by rfl) (w.heap.size + 1) 0 (by rfl) a KA.out H0.out.a ?_) | (have hgo := C1.out; clear hgo; go_at_call 121; refine (C1.out _).mono ?_; rintro e w1 ⟨rfl, hb1⟩; have H1 : Hid (Three3 w w1 k a b) := H0.out.past hb1; clear hb1 C1) | (have hgo := H1.out; clear hgo; refine wpList_load_keyG (by rfl) _ (by rfl) (w.heap.size + 2) 0 (by rfl) b KB.out H1.out.b ?_) | (have hgo := H1.out; clear hgo; refine wpList_load_keyG (by rfl) _ (by rfl) w.heap.size 0 (by rfl) k KK.out H1.out.k ?_) | (have hgo := H1.out; clear hgo; go_at_call 121; refine (C2.out _).mono ?_; rintro e w2 ⟨rfl, hb2⟩))
      go_ret
      exact ⟨by rw [HR.out, d1]; rfl, H1.out.below.trans (hb2.mono H1.out.below.size)⟩
  · have d1 : decide (0 ≤ X) = false := decide_eq_false h1
    go_enter Tryz.func107, Tryz.ntmps107
    go_wp2_with (first | (have hgo := C1.out; clear hgo; refine wpList_load_key (by rfl) _ (by rfl) (w.heap.size + 2) 0 (by rfl) b KB.out H0.out.b ?_) | (have hgo := C1.out; clear hgo; refine wpList_load_key (by rfl) _ (by rfl) w.heap.size 0 (by rfl) k KK.out H0.out.k ?_) | (have hgo := C1.out; clear hgo; refine wpList_load_key (by rfl) _ (by rfl) (w.heap.size + 1) 0 (by rfl) a KA.out H0.out.a ?_) | (have hgo := C1.out; clear hgo; go_at_call 121; refine (C1.out _).mono ?_; rintro e w1 ⟨rfl, hb1⟩; have H1 : Hid (Three3 w w1 k a b) := H0.out.past hb1; clear hb1 C1))
    go_ret
    exact ⟨by rw [HR.out, d1]; rfl, H1.out.below⟩
end Go.Proofs.YtileidbdmpeciaaGreat

namespace Go.Proofs.YtileidbdmpeciaaGreat
open Go.RowKit
set_option linter.unusedVariables false

theorem sti_new (w : World) : StD ((w.alloc (.map #[] 0)).alloc (.cells #[.map (some w.heap.size)] 139)) (w.heap.size + 1) [] (fun k => k = w.heap.size ∨ k = w.heap.size + 1) := by
  have hm := (KMap.made w).kept (u' := (w.alloc (.map #[] 0)).alloc (.cells #[.map (some w.heap.size)] 139)) (((Below.refl _ _).alloc (Nat.le_refl _) _).block w.heap.size (by simp))
  refine ⟨StoG.nil, w.heap.size, fun _ => none, fun _ _ => False, ⟨.inr rfl, ?_, .inl rfl, by omega, ?_, hm, fun k g _ e => (by cases e), fun k _ _ => rfl, fun k b e => e.elim, fun k k' b e => e.elim⟩, fun k g _ e => (by cases e)⟩
  · rintro k (rfl | rfl) <;> (simp; try omega)
  · have := World.cell?_alloc_new (w.alloc (.map #[] 0)) #[.map (some w.heap.size)] 139 0
    rw [World.size_alloc] at this
    exact this
theorem snew_any (w : World) :
    Calls Tryz.prog 40 #[] w fun e w' => ∃ p X, e = .returned (.pointer (some ⟨p, 0, none⟩)) ∧ StD w' p [] X ∧ Below w.heap.size w w' ∧ ∀ k, X k → w.heap.size ≤ k := by
  have H : Hid (StD ((w.alloc (.map #[] 0)).alloc (.cells #[.map (some w.heap.size)] 139)) (w.heap.size + 1) [] (fun k => k = w.heap.size ∨ k = w.heap.size + 1)) := sti_new w
  have HB : Hid (Below w.heap.size w ((w.alloc (.map #[] 0)).alloc (.cells #[.map (some w.heap.size)] 139))) := ((Below.refl _ _).alloc (Nat.le_refl _) _).alloc (by simp) _
  have hmm := @run_makeMap Tryz.prog
  go_enter Tryz.func40, Tryz.ntmps40
  go_wp2
  go_ret
  exact ⟨_, _, rfl, H.out, HB.out, fun k hk => by rcases hk with rfl | rfl <;> omega⟩
/-- A key in a variable of the call's own, and what stands behind it. -/
structure KBox (w w1 : World) (k : List Int) : Prop where
  below : Below w.heap.size w w1
  key : KeyAt w1 w.heap.size 0 k
  ky : Ky k
theorem KBox.made (w : World) {k : List Int} (hk : Ky k) : KBox w (w.alloc (.cells (kcs k) 38)) k := ⟨(Below.refl _ _).alloc (Nat.le_refl _) _, KeyAt.made w 38 k hk, hk⟩
theorem KBox.past {w w1 w2 : World} {k : List Int} (h : KBox w w1 k) (hb : Below w1.heap.size w1 w2) : KBox w w2 k := ⟨h.below.trans (hb.mono h.below.size), h.key.past hb, h.ky⟩
theorem KBox.alloc {w w1 : World} {k : List Int} (h : KBox w w1 k) (o : Obj) : KBox w (w1.alloc o) k := h.past ((Below.refl _ _).alloc (Nat.le_refl _) o)
/-- What Get tells, by the chain's own At. -/
theorem get_code {L : List Ver} {k : List Int} {t n : Int} : (atV (oneV L k) zeroK t n = none → getV L k t n = none) ∧ ∀ X, atV (oneV L k) zeroK t n = some X → getV L k t n = if X.g = true then none else some X.v := by
  rw [get_own]
  unfold getV
  exact ⟨fun e => by rw [e], fun X e => by rw [e]⟩
theorem empty_at (k : List Int) (t n : Int) : atV [] k t n = none := by unfold atV chainV; simp
set_option maxHeartbeats 4000000 in
set_option maxRecDepth 4000 in
theorem sget_any (p : Nat) (L : List Ver) (X : Foot) (k : List Int) (hk : Ky k) (t n : Int) (w : World) (h : StD w p L X) :
    Calls Tryz.prog 54 #[.pointer (some ⟨p, 0, none⟩), kv k, .agg #[.int .i64 t, .int .u8 n]] w fun e w' => e = .returned (.tuple #[.string (strOfNums ((getV L k t n).getD [])), .bool (getV L k t n).isSome]) ∧ Below w.heap.size w w' := by
  obtain ⟨hg, m, G, Y, hi, hne⟩ := h
  have KY : Hid (Ky k) := hk
  obtain ⟨w1, hw1⟩ : ∃ u, u = (w.alloc (.cells (kcs k) 38)).alloc (.cells #[.int .i64 t, .int .u8 n] 28) := ⟨_, rfl⟩
  have hK1 : KBox w w1 k := by rw [hw1]; exact (KBox.made w hk).alloc _
  have HB1 : Hid (Below w.heap.size w w1) := hK1.below
  have hs1 : w1.heap.size = w.heap.size + 2 := by rw [hw1]; simp
  have FT : Hid (∀ u, Below w1.heap.size w1 u → u.cell? ⟨w.heap.size + 1, 0, none⟩ = some (.int .i64 t) ∧ u.cell? ⟨w.heap.size + 1, 1, none⟩ = some (.int .u8 n)) := fun u hb => by
    have hlt : w.heap.size + 1 < w1.heap.size := by omega
    have e : ∀ o, w1.cell? ⟨w.heap.size + 1, o, none⟩ = (#[.int .i64 t, .int .u8 n] : Array Value)[o]? := fun o => by
      have := World.cell?_alloc_new (w.alloc (.cells (kcs k) 38)) #[.int .i64 t, .int .u8 n] 28 o
      rw [World.size_alloc] at this
      rw [hw1, this]
    exact ⟨(hb.cell (p := ⟨w.heap.size + 1, 0, none⟩) hlt).trans (e 0), (hb.cell (p := ⟨w.heap.size + 1, 1, none⟩) hlt).trans (e 1)⟩
  have FK : Hid (∀ u, Below w1.heap.size w1 u → KeyAt u w.heap.size 0 k) := fun u hb => hK1.key.past hb
  have FC : Hid (∀ u, Below w1.heap.size w1 u → u.cell? ⟨p, 0, none⟩ = some (.map (some m))) := fun u hb => (hi.past (HB1.out.trans (hb.mono HB1.out.size))).c0
  have LK : Hid (∀ u, Below w1.heap.size w1 u → (Instr.lookup 137 (.map (some m)) (kv k) true).run Tryz.prog u = .ok (.tuple #[ptrV (G k), .bool (G k).isSome]) u) := fun u hb => (hi.past (HB1.out.trans (hb.mono HB1.out.size))).look hk
  have HW1 : Hid ((w.alloc (.cells (kcs k) 38)).alloc (.cells #[.int .i64 t, .int .u8 n] 28) = w1) := hw1.symm
  have hcode := get_code (L := L) (k := k) (t := t) (n := n)
  obtain ⟨R, hR⟩ : ∃ R, R = getV L k t n := ⟨_, rfl⟩
  rw [← hR] at hcode ⊢
  cases hgk : G k with
  | none =>
    rw [hi.empty k hk hgk, empty_at] at hcode
    have HR : Hid (R = none) := hcode.1 rfl
    rw [hgk] at LK
    have LK : Hid (∀ u, Below w1.heap.size w1 u → (Instr.lookup 137 (.map (some m)) (kv k) true).run Tryz.prog u = .ok (.tuple #[.pointer none, .bool false]) u) := LK
    clear hcode hR hgk hi hne hg hw1 hK1 hk hs1 FT
    go_enter Tryz.func54, Tryz.ntmps54
    go_wp2
    rw [HW1.out]
    refine wp_region_noPanic ?_
    refine wp_region_held_drew (S := fun u => Below w1.heap.size w1 u) (by kernel_rfl) ?_ (fun hHeld => ?_)
    · exact (Below.refl _ _).drew
    refine wpAnyH_take (i := 0) (v := ?_) rfl (by kernel_rfl) (by kernel_rfl) (by kernel_rfl) (fun _ _ _ h => h) (Or.inl ⟨by rfl, ?_⟩) hHeld ?_
    rotate_left
    · intro u hSu
      (go_simp) <;> (with_reducible rfl)
    change wpAnyH _ _ _ _ _ _ _ (Act.put _ (some 13) _) _
    simp only [Act.put, List.setIfInBounds_toArray, List.set_cons_zero, List.set_cons_succ]
    refine wpAnyH_take (i := 1) (v := ?_) rfl (by kernel_rfl) (by kernel_rfl) (by kernel_rfl) (fun _ _ _ h => h) (Or.inl ⟨by rfl, ?_⟩) hHeld ?_
    rotate_left
    · intro u hSu
      (go_simp) <;> (with_reducible rfl)
    change wpAnyH _ _ _ _ _ _ _ (Act.put _ (some 14) _) _
    simp only [Act.put, List.setIfInBounds_toArray, List.set_cons_zero, List.set_cons_succ]
    refine wpAnyH_take (i := 2) (v := ?_) rfl (by kernel_rfl) (by kernel_rfl) (by kernel_rfl) (fun _ _ _ h => h) (Or.inl ⟨by rfl, ?_⟩) hHeld ?_
    rotate_left
    · intro u hSu
      (go_simp) <;> (with_reducible rfl)
    change wpAnyH _ _ _ _ _ _ _ (Act.put _ (some 15) _) _
    simp only [Act.put, List.setIfInBounds_toArray, List.set_cons_zero, List.set_cons_succ]
    refine wpAnyH_take (i := 3) (v := ?_) rfl (by kernel_rfl) (by kernel_rfl) (by kernel_rfl) (fun _ _ _ h => h) (Or.inl ⟨by rfl, ?_⟩) hHeld ?_
    rotate_left
    · intro u hSu
      have q0 := FC.out u hSu
      (go_simp) <;> (with_reducible rfl)
    change wpAnyH _ _ _ _ _ _ _ (Act.put _ (some 16) _) _
    simp only [Act.put, List.setIfInBounds_toArray, List.set_cons_zero, List.set_cons_succ]
    refine wpAnyH_take (i := 4) (v := kv k) rfl (by kernel_rfl) (by kernel_rfl) (by kernel_rfl) (fun _ _ _ h => h) (yieldsIf_load_mid (by rfl) _ _ rfl _ _ rfl (k.map (Value.int .u8)) _ (fun u hu => (FK.out u hu).range KY.out) Tryz.underlying38 rfl (info_keyl k KY.out)) hHeld ?_
    change wpAnyH _ _ _ _ _ _ _ (Act.put _ (some 17) _) _
    simp only [Act.put, List.setIfInBounds_toArray, List.set_cons_zero, List.set_cons_succ]
    refine wpAnyH_take (i := 5) (v := ?_) rfl (by kernel_rfl) (by kernel_rfl) (by kernel_rfl) (fun _ _ _ h => h) (Or.inl ⟨by rfl, ?_⟩) hHeld ?_
    rotate_left
    · intro u hSu
      have q1 := LK.out u hSu
      (go_simp) <;> (with_reducible rfl)
    change wpAnyH _ _ _ _ _ _ _ (Act.put _ (some 18) _) _
    simp only [Act.put, List.setIfInBounds_toArray, List.set_cons_zero, List.set_cons_succ]
    refine wpAnyH_take (i := 6) (v := ?_) rfl (by kernel_rfl) (by kernel_rfl) (by kernel_rfl) (fun _ _ _ h => h) (Or.inl ⟨by rfl, ?_⟩) hHeld ?_
    rotate_left
    · intro u hSu
      (go_simp) <;> (with_reducible rfl)
    change wpAnyH _ _ _ _ _ _ _ (Act.put _ (some 12) _) _
    simp only [Act.put, List.setIfInBounds_toArray, List.set_cons_zero, List.set_cons_succ]
    refine wpAnyH_take (i := 7) (v := ?_) rfl (by kernel_rfl) (by kernel_rfl) (by kernel_rfl) (fun _ _ _ h => h) (Or.inl ⟨by rfl, ?_⟩) hHeld ?_
    rotate_left
    · intro u hSu
      (go_simp) <;> (with_reducible rfl)
    change wpAnyH _ _ _ _ _ _ _ (Act.put _ (some 19) _) _
    simp only [Act.put, List.setIfInBounds_toArray, List.set_cons_zero, List.set_cons_succ]
    refine wpAnyH_take (i := 8) (v := ?_) rfl (by kernel_rfl) (by kernel_rfl) (by kernel_rfl) (fun _ _ _ h => h) (Or.inl ⟨by rfl, ?_⟩) hHeld ?_
    rotate_left
    · intro u hSu
      (go_simp) <;> (with_reducible rfl)
    change wpAnyH _ _ _ _ _ _ _ (Act.put _ (some 20) _) _
    simp only [Act.put, List.setIfInBounds_toArray, List.set_cons_zero, List.set_cons_succ]
    refine wpAnyH_take (i := 9) (v := ?_) rfl (by kernel_rfl) (by kernel_rfl) (by kernel_rfl) (fun _ _ _ h => h) (Or.inl ⟨by rfl, ?_⟩) hHeld ?_
    rotate_left
    · intro u hSu
      (go_simp) <;> (with_reducible rfl)
    change wpAnyH _ _ _ _ _ _ _ (Act.put _ (some 8) _) _
    simp only [Act.put, List.setIfInBounds_toArray, List.set_cons_zero, List.set_cons_succ]
    refine wpAnyH_take (i := 10) (v := ?_) rfl (by kernel_rfl) (by kernel_rfl) (by kernel_rfl) (fun _ _ _ h => h) (Or.inl ⟨by rfl, ?_⟩) hHeld ?_
    rotate_left
    · intro u hSu
      (go_simp) <;> (with_reducible rfl)
    change wpAnyH _ _ _ _ _ _ _ (Act.put _ (some 9) _) _
    simp only [Act.put, List.setIfInBounds_toArray, List.set_cons_zero, List.set_cons_succ]
    refine wpAnyH_done (by kernel_rfl) ?_ _
    refine NoPanic.normal ?_
    go_wp2
    go_ret2
    exact ⟨by rw [HR.out]; rfl, HB1.out.drew⟩
  | some g =>
    rw [hgk] at LK
    have LK : Hid (∀ u, Below w1.heap.size w1 u → (Instr.lookup 137 (.map (some m)) (kv k) true).run Tryz.prog u = .ok (.tuple #[.pointer (some ⟨g, 0, none⟩), .bool true]) u) := LK
    have hch := hi.file k g hk hgk
    have CA0 : ∀ u, Below w.heap.size w u → Calls Tryz.prog 103 #[.pointer (some ⟨g, 0, none⟩), .agg #[.int .i64 t, .int .u8 n]] u fun e w' => e = .returned (.tuple #[cvv (orZero (atV (oneV L k) zeroK t n)), .bool (atV (oneV L k) zeroK t n).isSome]) ∧ Below u.heap.size u w' := fun u hb => cat_any g (oneV L k) (Y k) t n u (hch.past hb)
    obtain ⟨y0, y1⟩ := FT.out w1 (Below.refl _ _)
    cases hat : atV (oneV L k) zeroK t n with
    | none =>
      have HR : Hid (R = none) := hcode.1 hat
      rw [hat] at CA0
      have CA : Hid (∀ u, Below w.heap.size w u → Calls Tryz.prog 103 #[.pointer (some ⟨g, 0, none⟩), .agg #[.int .i64 t, .int .u8 n]] u fun e w' => e = .returned (.tuple #[.agg #[.int .i64 0, .int .u8 0, .string ⟨#[]⟩, .bool false], .bool false]) ∧ Below u.heap.size u w') := CA0
      clear hcode hR hgk hi hne hg hw1 hK1 hk hs1 FT hat CA0 hch
      go_enter Tryz.func54, Tryz.ntmps54
      go_wp2
      rw [HW1.out]
      refine wp_region_noPanic ?_
      refine wp_region_held_drew (S := fun u => Below w1.heap.size w1 u) (by kernel_rfl) ?_ (fun hHeld => ?_)
      · exact (Below.refl _ _).drew
      refine wpAnyH_take (i := 0) (v := ?_) rfl (by kernel_rfl) (by kernel_rfl) (by kernel_rfl) (fun _ _ _ h => h) (Or.inl ⟨by rfl, ?_⟩) hHeld ?_
      rotate_left
      · intro u hSu
        (go_simp) <;> (with_reducible rfl)
      change wpAnyH _ _ _ _ _ _ _ (Act.put _ (some 13) _) _
      simp only [Act.put, List.setIfInBounds_toArray, List.set_cons_zero, List.set_cons_succ]
      refine wpAnyH_take (i := 1) (v := ?_) rfl (by kernel_rfl) (by kernel_rfl) (by kernel_rfl) (fun _ _ _ h => h) (Or.inl ⟨by rfl, ?_⟩) hHeld ?_
      rotate_left
      · intro u hSu
        (go_simp) <;> (with_reducible rfl)
      change wpAnyH _ _ _ _ _ _ _ (Act.put _ (some 14) _) _
      simp only [Act.put, List.setIfInBounds_toArray, List.set_cons_zero, List.set_cons_succ]
      refine wpAnyH_take (i := 2) (v := ?_) rfl (by kernel_rfl) (by kernel_rfl) (by kernel_rfl) (fun _ _ _ h => h) (Or.inl ⟨by rfl, ?_⟩) hHeld ?_
      rotate_left
      · intro u hSu
        (go_simp) <;> (with_reducible rfl)
      change wpAnyH _ _ _ _ _ _ _ (Act.put _ (some 15) _) _
      simp only [Act.put, List.setIfInBounds_toArray, List.set_cons_zero, List.set_cons_succ]
      refine wpAnyH_take (i := 3) (v := ?_) rfl (by kernel_rfl) (by kernel_rfl) (by kernel_rfl) (fun _ _ _ h => h) (Or.inl ⟨by rfl, ?_⟩) hHeld ?_
      rotate_left
      · intro u hSu
        have q0 := FC.out u hSu
        (go_simp) <;> (with_reducible rfl)
      change wpAnyH _ _ _ _ _ _ _ (Act.put _ (some 16) _) _
      simp only [Act.put, List.setIfInBounds_toArray, List.set_cons_zero, List.set_cons_succ]
      refine wpAnyH_take (i := 4) (v := kv k) rfl (by kernel_rfl) (by kernel_rfl) (by kernel_rfl) (fun _ _ _ h => h) (yieldsIf_load_mid (by rfl) _ _ rfl _ _ rfl (k.map (Value.int .u8)) _ (fun u hu => (FK.out u hu).range KY.out) Tryz.underlying38 rfl (info_keyl k KY.out)) hHeld ?_
      change wpAnyH _ _ _ _ _ _ _ (Act.put _ (some 17) _) _
      simp only [Act.put, List.setIfInBounds_toArray, List.set_cons_zero, List.set_cons_succ]
      refine wpAnyH_take (i := 5) (v := ?_) rfl (by kernel_rfl) (by kernel_rfl) (by kernel_rfl) (fun _ _ _ h => h) (Or.inl ⟨by rfl, ?_⟩) hHeld ?_
      rotate_left
      · intro u hSu
        have q1 := LK.out u hSu
        (go_simp) <;> (with_reducible rfl)
      change wpAnyH _ _ _ _ _ _ _ (Act.put _ (some 18) _) _
      simp only [Act.put, List.setIfInBounds_toArray, List.set_cons_zero, List.set_cons_succ]
      refine wpAnyH_take (i := 6) (v := ?_) rfl (by kernel_rfl) (by kernel_rfl) (by kernel_rfl) (fun _ _ _ h => h) (Or.inl ⟨by rfl, ?_⟩) hHeld ?_
      rotate_left
      · intro u hSu
        (go_simp) <;> (with_reducible rfl)
      change wpAnyH _ _ _ _ _ _ _ (Act.put _ (some 12) _) _
      simp only [Act.put, List.setIfInBounds_toArray, List.set_cons_zero, List.set_cons_succ]
      refine wpAnyH_take (i := 7) (v := ?_) rfl (by kernel_rfl) (by kernel_rfl) (by kernel_rfl) (fun _ _ _ h => h) (Or.inl ⟨by rfl, ?_⟩) hHeld ?_
      rotate_left
      · intro u hSu
        (go_simp) <;> (with_reducible rfl)
      change wpAnyH _ _ _ _ _ _ _ (Act.put _ (some 19) _) _
      simp only [Act.put, List.setIfInBounds_toArray, List.set_cons_zero, List.set_cons_succ]
      refine wpAnyH_take (i := 8) (v := ?_) rfl (by kernel_rfl) (by kernel_rfl) (by kernel_rfl) (fun _ _ _ h => h) (Or.inl ⟨by rfl, ?_⟩) hHeld ?_
      rotate_left
      · intro u hSu
        (go_simp) <;> (with_reducible rfl)
      change wpAnyH _ _ _ _ _ _ _ (Act.put _ (some 20) _) _
      simp only [Act.put, List.setIfInBounds_toArray, List.set_cons_zero, List.set_cons_succ]
      refine wpAnyH_take (i := 9) (v := ?_) rfl (by kernel_rfl) (by kernel_rfl) (by kernel_rfl) (fun _ _ _ h => h) (Or.inl ⟨by rfl, ?_⟩) hHeld ?_
      rotate_left
      · intro u hSu
        (go_simp) <;> (with_reducible rfl)
      change wpAnyH _ _ _ _ _ _ _ (Act.put _ (some 8) _) _
      simp only [Act.put, List.setIfInBounds_toArray, List.set_cons_zero, List.set_cons_succ]
      refine wpAnyH_take (i := 10) (v := ?_) rfl (by kernel_rfl) (by kernel_rfl) (by kernel_rfl) (fun _ _ _ h => h) (Or.inl ⟨by rfl, ?_⟩) hHeld ?_
      rotate_left
      · intro u hSu
        (go_simp) <;> (with_reducible rfl)
      change wpAnyH _ _ _ _ _ _ _ (Act.put _ (some 9) _) _
      simp only [Act.put, List.setIfInBounds_toArray, List.set_cons_zero, List.set_cons_succ]
      refine wpAnyH_done (by kernel_rfl) ?_ _
      refine NoPanic.normal ?_
      go_wp2_with (go_at_call 103; refine (CA.out _ HB1.out.drew).mono ?_; rintro e w2 ⟨rfl, hb2⟩; have HB2 : Hid (Below w.heap.size w w2) := HB1.out.drew.trans (hb2.mono HB1.out.size); clear hb2)
      go_ret2
      exact ⟨by rw [HR.out]; rfl, HB2.out.alloc HB2.out.size _⟩
    | some V =>
      have HR0 := hcode.2 V hat
      rw [hat] at CA0
      have CA1 : ∀ u, Below w.heap.size w u → Calls Tryz.prog 103 #[.pointer (some ⟨g, 0, none⟩), .agg #[.int .i64 t, .int .u8 n]] u fun e w' => e = .returned (.tuple #[.agg #[.int .i64 V.t, .int .u8 V.n, .string (strOfNums V.v), .bool V.g], .bool true]) ∧ Below u.heap.size u w' := CA0
      obtain ⟨T1, hT1⟩ : ∃ x, x = V.t := ⟨_, rfl⟩
      obtain ⟨N1, hN1⟩ : ∃ x, x = V.n := ⟨_, rfl⟩
      obtain ⟨S1, hS1⟩ : ∃ x, x = strOfNums V.v := ⟨_, rfl⟩
      obtain ⟨G1, hG1⟩ : ∃ x, x = V.g := ⟨_, rfl⟩
      rw [← hT1, ← hN1, ← hS1, ← hG1] at CA1
      rw [← hG1] at HR0
      cases G1 with
      | true =>
        have HR : Hid (R = none) := by rw [if_pos rfl] at HR0; exact HR0
        have CA : Hid (∀ u, Below w.heap.size w u → Calls Tryz.prog 103 #[.pointer (some ⟨g, 0, none⟩), .agg #[.int .i64 t, .int .u8 n]] u fun e w' => e = .returned (.tuple #[.agg #[.int .i64 T1, .int .u8 N1, .string S1, .bool true], .bool true]) ∧ Below u.heap.size u w') := CA1
        clear hcode hR hgk hi hne hg hw1 hK1 hk hs1 FT hat CA0 CA1 hch HR0 hT1 hN1 hS1 hG1
        go_enter Tryz.func54, Tryz.ntmps54
        go_wp2
        rw [HW1.out]
        refine wp_region_noPanic ?_
        refine wp_region_held_drew (S := fun u => Below w1.heap.size w1 u) (by kernel_rfl) ?_ (fun hHeld => ?_)
        · exact (Below.refl _ _).drew
        refine wpAnyH_take (i := 0) (v := ?_) rfl (by kernel_rfl) (by kernel_rfl) (by kernel_rfl) (fun _ _ _ h => h) (Or.inl ⟨by rfl, ?_⟩) hHeld ?_
        rotate_left
        · intro u hSu
          (go_simp) <;> (with_reducible rfl)
        change wpAnyH _ _ _ _ _ _ _ (Act.put _ (some 13) _) _
        simp only [Act.put, List.setIfInBounds_toArray, List.set_cons_zero, List.set_cons_succ]
        refine wpAnyH_take (i := 1) (v := ?_) rfl (by kernel_rfl) (by kernel_rfl) (by kernel_rfl) (fun _ _ _ h => h) (Or.inl ⟨by rfl, ?_⟩) hHeld ?_
        rotate_left
        · intro u hSu
          (go_simp) <;> (with_reducible rfl)
        change wpAnyH _ _ _ _ _ _ _ (Act.put _ (some 14) _) _
        simp only [Act.put, List.setIfInBounds_toArray, List.set_cons_zero, List.set_cons_succ]
        refine wpAnyH_take (i := 2) (v := ?_) rfl (by kernel_rfl) (by kernel_rfl) (by kernel_rfl) (fun _ _ _ h => h) (Or.inl ⟨by rfl, ?_⟩) hHeld ?_
        rotate_left
        · intro u hSu
          (go_simp) <;> (with_reducible rfl)
        change wpAnyH _ _ _ _ _ _ _ (Act.put _ (some 15) _) _
        simp only [Act.put, List.setIfInBounds_toArray, List.set_cons_zero, List.set_cons_succ]
        refine wpAnyH_take (i := 3) (v := ?_) rfl (by kernel_rfl) (by kernel_rfl) (by kernel_rfl) (fun _ _ _ h => h) (Or.inl ⟨by rfl, ?_⟩) hHeld ?_
        rotate_left
        · intro u hSu
          have q0 := FC.out u hSu
          (go_simp) <;> (with_reducible rfl)
        change wpAnyH _ _ _ _ _ _ _ (Act.put _ (some 16) _) _
        simp only [Act.put, List.setIfInBounds_toArray, List.set_cons_zero, List.set_cons_succ]
        refine wpAnyH_take (i := 4) (v := kv k) rfl (by kernel_rfl) (by kernel_rfl) (by kernel_rfl) (fun _ _ _ h => h) (yieldsIf_load_mid (by rfl) _ _ rfl _ _ rfl (k.map (Value.int .u8)) _ (fun u hu => (FK.out u hu).range KY.out) Tryz.underlying38 rfl (info_keyl k KY.out)) hHeld ?_
        change wpAnyH _ _ _ _ _ _ _ (Act.put _ (some 17) _) _
        simp only [Act.put, List.setIfInBounds_toArray, List.set_cons_zero, List.set_cons_succ]
        refine wpAnyH_take (i := 5) (v := ?_) rfl (by kernel_rfl) (by kernel_rfl) (by kernel_rfl) (fun _ _ _ h => h) (Or.inl ⟨by rfl, ?_⟩) hHeld ?_
        rotate_left
        · intro u hSu
          have q1 := LK.out u hSu
          (go_simp) <;> (with_reducible rfl)
        change wpAnyH _ _ _ _ _ _ _ (Act.put _ (some 18) _) _
        simp only [Act.put, List.setIfInBounds_toArray, List.set_cons_zero, List.set_cons_succ]
        refine wpAnyH_take (i := 6) (v := ?_) rfl (by kernel_rfl) (by kernel_rfl) (by kernel_rfl) (fun _ _ _ h => h) (Or.inl ⟨by rfl, ?_⟩) hHeld ?_
        rotate_left
        · intro u hSu
          (go_simp) <;> (with_reducible rfl)
        change wpAnyH _ _ _ _ _ _ _ (Act.put _ (some 12) _) _
        simp only [Act.put, List.setIfInBounds_toArray, List.set_cons_zero, List.set_cons_succ]
        refine wpAnyH_take (i := 7) (v := ?_) rfl (by kernel_rfl) (by kernel_rfl) (by kernel_rfl) (fun _ _ _ h => h) (Or.inl ⟨by rfl, ?_⟩) hHeld ?_
        rotate_left
        · intro u hSu
          (go_simp) <;> (with_reducible rfl)
        change wpAnyH _ _ _ _ _ _ _ (Act.put _ (some 19) _) _
        simp only [Act.put, List.setIfInBounds_toArray, List.set_cons_zero, List.set_cons_succ]
        refine wpAnyH_take (i := 8) (v := ?_) rfl (by kernel_rfl) (by kernel_rfl) (by kernel_rfl) (fun _ _ _ h => h) (Or.inl ⟨by rfl, ?_⟩) hHeld ?_
        rotate_left
        · intro u hSu
          (go_simp) <;> (with_reducible rfl)
        change wpAnyH _ _ _ _ _ _ _ (Act.put _ (some 20) _) _
        simp only [Act.put, List.setIfInBounds_toArray, List.set_cons_zero, List.set_cons_succ]
        refine wpAnyH_take (i := 9) (v := ?_) rfl (by kernel_rfl) (by kernel_rfl) (by kernel_rfl) (fun _ _ _ h => h) (Or.inl ⟨by rfl, ?_⟩) hHeld ?_
        rotate_left
        · intro u hSu
          (go_simp) <;> (with_reducible rfl)
        change wpAnyH _ _ _ _ _ _ _ (Act.put _ (some 8) _) _
        simp only [Act.put, List.setIfInBounds_toArray, List.set_cons_zero, List.set_cons_succ]
        refine wpAnyH_take (i := 10) (v := ?_) rfl (by kernel_rfl) (by kernel_rfl) (by kernel_rfl) (fun _ _ _ h => h) (Or.inl ⟨by rfl, ?_⟩) hHeld ?_
        rotate_left
        · intro u hSu
          (go_simp) <;> (with_reducible rfl)
        change wpAnyH _ _ _ _ _ _ _ (Act.put _ (some 9) _) _
        simp only [Act.put, List.setIfInBounds_toArray, List.set_cons_zero, List.set_cons_succ]
        refine wpAnyH_done (by kernel_rfl) ?_ _
        refine NoPanic.normal ?_
        go_wp2_with (go_at_call 103; refine (CA.out _ HB1.out.drew).mono ?_; rintro e w2 ⟨rfl, hb2⟩; have HB2 : Hid (Below w.heap.size w w2) := HB1.out.drew.trans (hb2.mono HB1.out.size); clear hb2)
        go_ret2
        exact ⟨by rw [HR.out]; rfl, HB2.out.alloc HB2.out.size _⟩
      | false =>
        have HR : Hid (R = some V.v) := by rw [if_neg (by simp)] at HR0; exact HR0
        have HS : Hid (S1 = strOfNums V.v) := hS1
        have CA : Hid (∀ u, Below w.heap.size w u → Calls Tryz.prog 103 #[.pointer (some ⟨g, 0, none⟩), .agg #[.int .i64 t, .int .u8 n]] u fun e w' => e = .returned (.tuple #[.agg #[.int .i64 T1, .int .u8 N1, .string S1, .bool false], .bool true]) ∧ Below u.heap.size u w') := CA1
        clear hcode hR hgk hi hne hg hw1 hK1 hk hs1 FT hat CA0 CA1 hch HR0 hT1 hN1 hS1 hG1
        go_enter Tryz.func54, Tryz.ntmps54
        go_wp2
        rw [HW1.out]
        refine wp_region_noPanic ?_
        refine wp_region_held_drew (S := fun u => Below w1.heap.size w1 u) (by kernel_rfl) ?_ (fun hHeld => ?_)
        · exact (Below.refl _ _).drew
        refine wpAnyH_take (i := 0) (v := ?_) rfl (by kernel_rfl) (by kernel_rfl) (by kernel_rfl) (fun _ _ _ h => h) (Or.inl ⟨by rfl, ?_⟩) hHeld ?_
        rotate_left
        · intro u hSu
          (go_simp) <;> (with_reducible rfl)
        change wpAnyH _ _ _ _ _ _ _ (Act.put _ (some 13) _) _
        simp only [Act.put, List.setIfInBounds_toArray, List.set_cons_zero, List.set_cons_succ]
        refine wpAnyH_take (i := 1) (v := ?_) rfl (by kernel_rfl) (by kernel_rfl) (by kernel_rfl) (fun _ _ _ h => h) (Or.inl ⟨by rfl, ?_⟩) hHeld ?_
        rotate_left
        · intro u hSu
          (go_simp) <;> (with_reducible rfl)
        change wpAnyH _ _ _ _ _ _ _ (Act.put _ (some 14) _) _
        simp only [Act.put, List.setIfInBounds_toArray, List.set_cons_zero, List.set_cons_succ]
        refine wpAnyH_take (i := 2) (v := ?_) rfl (by kernel_rfl) (by kernel_rfl) (by kernel_rfl) (fun _ _ _ h => h) (Or.inl ⟨by rfl, ?_⟩) hHeld ?_
        rotate_left
        · intro u hSu
          (go_simp) <;> (with_reducible rfl)
        change wpAnyH _ _ _ _ _ _ _ (Act.put _ (some 15) _) _
        simp only [Act.put, List.setIfInBounds_toArray, List.set_cons_zero, List.set_cons_succ]
        refine wpAnyH_take (i := 3) (v := ?_) rfl (by kernel_rfl) (by kernel_rfl) (by kernel_rfl) (fun _ _ _ h => h) (Or.inl ⟨by rfl, ?_⟩) hHeld ?_
        rotate_left
        · intro u hSu
          have q0 := FC.out u hSu
          (go_simp) <;> (with_reducible rfl)
        change wpAnyH _ _ _ _ _ _ _ (Act.put _ (some 16) _) _
        simp only [Act.put, List.setIfInBounds_toArray, List.set_cons_zero, List.set_cons_succ]
        refine wpAnyH_take (i := 4) (v := kv k) rfl (by kernel_rfl) (by kernel_rfl) (by kernel_rfl) (fun _ _ _ h => h) (yieldsIf_load_mid (by rfl) _ _ rfl _ _ rfl (k.map (Value.int .u8)) _ (fun u hu => (FK.out u hu).range KY.out) Tryz.underlying38 rfl (info_keyl k KY.out)) hHeld ?_
        change wpAnyH _ _ _ _ _ _ _ (Act.put _ (some 17) _) _
        simp only [Act.put, List.setIfInBounds_toArray, List.set_cons_zero, List.set_cons_succ]
        refine wpAnyH_take (i := 5) (v := ?_) rfl (by kernel_rfl) (by kernel_rfl) (by kernel_rfl) (fun _ _ _ h => h) (Or.inl ⟨by rfl, ?_⟩) hHeld ?_
        rotate_left
        · intro u hSu
          have q1 := LK.out u hSu
          (go_simp) <;> (with_reducible rfl)
        change wpAnyH _ _ _ _ _ _ _ (Act.put _ (some 18) _) _
        simp only [Act.put, List.setIfInBounds_toArray, List.set_cons_zero, List.set_cons_succ]
        refine wpAnyH_take (i := 6) (v := ?_) rfl (by kernel_rfl) (by kernel_rfl) (by kernel_rfl) (fun _ _ _ h => h) (Or.inl ⟨by rfl, ?_⟩) hHeld ?_
        rotate_left
        · intro u hSu
          (go_simp) <;> (with_reducible rfl)
        change wpAnyH _ _ _ _ _ _ _ (Act.put _ (some 12) _) _
        simp only [Act.put, List.setIfInBounds_toArray, List.set_cons_zero, List.set_cons_succ]
        refine wpAnyH_take (i := 7) (v := ?_) rfl (by kernel_rfl) (by kernel_rfl) (by kernel_rfl) (fun _ _ _ h => h) (Or.inl ⟨by rfl, ?_⟩) hHeld ?_
        rotate_left
        · intro u hSu
          (go_simp) <;> (with_reducible rfl)
        change wpAnyH _ _ _ _ _ _ _ (Act.put _ (some 19) _) _
        simp only [Act.put, List.setIfInBounds_toArray, List.set_cons_zero, List.set_cons_succ]
        refine wpAnyH_take (i := 8) (v := ?_) rfl (by kernel_rfl) (by kernel_rfl) (by kernel_rfl) (fun _ _ _ h => h) (Or.inl ⟨by rfl, ?_⟩) hHeld ?_
        rotate_left
        · intro u hSu
          (go_simp) <;> (with_reducible rfl)
        change wpAnyH _ _ _ _ _ _ _ (Act.put _ (some 20) _) _
        simp only [Act.put, List.setIfInBounds_toArray, List.set_cons_zero, List.set_cons_succ]
        refine wpAnyH_take (i := 9) (v := ?_) rfl (by kernel_rfl) (by kernel_rfl) (by kernel_rfl) (fun _ _ _ h => h) (Or.inl ⟨by rfl, ?_⟩) hHeld ?_
        rotate_left
        · intro u hSu
          (go_simp) <;> (with_reducible rfl)
        change wpAnyH _ _ _ _ _ _ _ (Act.put _ (some 8) _) _
        simp only [Act.put, List.setIfInBounds_toArray, List.set_cons_zero, List.set_cons_succ]
        refine wpAnyH_take (i := 10) (v := ?_) rfl (by kernel_rfl) (by kernel_rfl) (by kernel_rfl) (fun _ _ _ h => h) (Or.inl ⟨by rfl, ?_⟩) hHeld ?_
        rotate_left
        · intro u hSu
          (go_simp) <;> (with_reducible rfl)
        change wpAnyH _ _ _ _ _ _ _ (Act.put _ (some 9) _) _
        simp only [Act.put, List.setIfInBounds_toArray, List.set_cons_zero, List.set_cons_succ]
        refine wpAnyH_done (by kernel_rfl) ?_ _
        refine NoPanic.normal ?_
        go_wp2_with (go_at_call 103; refine (CA.out _ HB1.out.drew).mono ?_; rintro e w2 ⟨rfl, hb2⟩; have HB2 : Hid (Below w.heap.size w w2) := HB1.out.drew.trans (hb2.mono HB1.out.size); clear hb2)
        go_ret2
        exact ⟨by rw [HR.out, HS.out]; rfl, HB2.out.alloc HB2.out.size _⟩
end Go.Proofs.YtileidbdmpeciaaGreat

