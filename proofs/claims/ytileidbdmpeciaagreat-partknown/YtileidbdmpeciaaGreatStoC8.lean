/-
  What package store answers: Scan.
-/
import Derived.Test.YtileidbdmpeciaaGreatStoC5
import Derived.Test.YtileidbdmpeciaaGreatAu85
namespace Go.Proofs.YtileidbdmpeciaaGreat
open Go.RowKit
set_option linter.unusedVariables false

theorem run_build_itm (w : World) (k v : List Int) (hk : Ky k) : (Instr.build 132 #[(0, kv k), (1, .string (strOfNums v))]).run Tryz.prog w = .ok (iv (k, v)) w := by
  have hl := kc_len hk
  have hf : Instr.fill (fun x => [(0, 16), (16, 1)][x]?) (encI (zeroK, [])).toArray [(0, kv k), (1, .string (strOfNums v))] = some (encI (k, v)).toArray := by
    show Instr.fill (fun x => [(0, 16), (16, 1)][x]?) (encI (zeroK, [])).toArray [(0, .agg (kc k).toArray), (1, .string (strOfNums v))] = _
    rw [fill_step (fun x => [(0, 16), (16, 1)][x]?) (encI (zeroK, [])) 0 0 16 (kc k) rfl hl (by rw [encI_len zeroK_ky]; omega)]
    rw [fill_cell (fun x => [(0, 16), (16, 1)][x]?) _ 1 16 (.string (strOfNums v)) rfl rfl (by rw [List.length_append, List.length_append, List.length_drop, hl, encI_len (x := (zeroK, [])) zeroK_ky]; simp)]
    show some _ = some _
    congr 2
    have e1 : (encI (zeroK, [])).drop (0 + 16) = [.string ⟨#[]⟩] := rfl
    rw [e1, List.take_zero, List.nil_append, List.set_append_right _ _ (by omega), hl]
    rfl
  simp [Instr.build, run_underlying Tryz.underlying132]
  have hf2 : Instr.fill (fun x => [(0, 16), (16, 1)][x]?) (Value.agg #[.int .u8 0, .int .u8 0, .int .u8 0, .int .u8 0, .int .u8 0, .int .u8 0, .int .u8 0, .int .u8 0, .int .u8 0, .int .u8 0, .int .u8 0, .int .u8 0, .int .u8 0, .int .u8 0, .int .u8 0, .int .u8 0, .string ⟨#[]⟩]).cells [(0, kv k), (1, .string (strOfNums v))] = some (encI (k, v)).toArray := hf
  rw [hf2]
  rfl
theorem wpList_build_itm (d : Tmp) {ops : Array Oper} {rest : List Oper} {op : Oper} {a : Act} {w : World} {Q : Exit → Act → World → Prop} (hd : op.dst = some d) (hgd : op.guard = none) (x y : Operand) (ho : op.op = .build 132 #[(0, x), (1, y)])
    (k v : List Int) (hk : Ky k) (hx : a.eval x = kv k) (hy : a.eval y = .string (strOfNums v))
    (h : wpList Tryz.prog ops Q rest (a.put op.dst (iv (k, v))) w) : wpList Tryz.prog ops Q (op :: rest) a w := by
  refine wpList_plain hgd fun K hK => ?_
  have hrun := run_build_itm w k v hk
  unfold Oper.wp
  simp only [execOp, ho, List.map_toArray, List.map_cons, List.map_nil, hx, hy, Sem.run_bind, hrun, Result.andThen]
  exact hK _ _ h
theorem run_build_itms (w : World) (x : Itm) (hk : Ky x.1) :
    (Instr.buildSlice 40 1 #[(0, iv x)]).run Tryz.prog w = .ok (.slice (some ⟨w.heap.size, 0, none⟩) 1 1) (w.alloc (.cells (encI x).toArray 132)) := by
  have hl := encI_len hk
  have hf : Instr.fill (fun i => some (i * 17, 17)) (encI (zeroK, [])).toArray [(0, iv x)] = some (encI x).toArray := by
    rw [fill_step _ (encI (zeroK, [])) 0 0 17 (encI x) rfl hl (by rw [encI_len zeroK_ky]; omega)]
    show some _ = some _
    congr 2
    rw [List.drop_eq_nil_of_le (by rw [encI_len zeroK_ky]; omega)]
    simp
  simp [Instr.buildSlice, run_underlying Tryz.underlying40]
  generalize hz : Array.map _ (Array.range 17) = Z
  have hz2 : Z = (encI (zeroK, [])).toArray := by rw [← hz]; kernel_rfl
  rw [hz2, hf]
  simp [newRow]
theorem wpList_build_itms (d : Tmp) {ops : Array Oper} {rest : List Oper} {op : Oper} {a : Act} {w : World} {Q : Exit → Act → World → Prop} (hd : op.dst = some d) (hgd : op.guard = none) (x : Operand) (ho : op.op = .buildSlice 40 1 #[(0, x)])
    (I : Itm) (hk : Ky I.1) (hx : a.eval x = iv I)
    (h : wpList Tryz.prog ops Q rest (a.put op.dst (.slice (some ⟨w.heap.size, 0, none⟩) 1 1)) (w.alloc (.cells (encI I).toArray 132))) : wpList Tryz.prog ops Q (op :: rest) a w := by
  refine wpList_plain hgd fun K hK => ?_
  have hrun := run_build_itms w I hk
  unfold Oper.wp
  simp [execOp, ho, hx, hrun, Result.andThen]
  exact hK _ _ h
/-- What a stretch tells is made of keys and of values of a store. -/
theorem get_ok {L : List Ver} (h : StoG L) {k : List Int} {t n : Int} {v : List Int} (hv : getV L k t n = some v) : (∀ z ∈ v, 0 ≤ z ∧ z ≤ 255) ∧ v.length ≤ 200 := by
  unfold getV at hv
  cases hA : atV L k t n with
  | none => rw [hA] at hv; cases hv
  | some X =>
    rw [hA] at hv
    have hX : X ∈ L := by
      unfold atV at hA
      exact chain_sub (List.mem_reverse.1 (List.mem_of_find?_eq_some hA))
    have hm := h.sto.may X hX
    unfold mayV at hm
    simp only [Bool.and_eq_true, decide_eq_true_eq] at hm
    by_cases hg : X.g = true
    · simp only [hg, if_true] at hv; cases hv
    · simp only [hg] at hv
      have hv : X.v = v := by simpa using hv
      rw [← hv]
      exact ⟨(h.sto.ins X hX).2.2, hm.1.2⟩
theorem item_ok {L : List Ver} (h : StoG L) {a b : List Int} {t n : Int} {k : List Int} {x : Itm} (hk : k ∈ keysV L) (hx : itemV L a b t n k = some x) : ItmOk x := by
  obtain ⟨e1, e2, _⟩ := item_some hx
  have := get_ok h e2
  exact ⟨by rw [e1]; exact h.keys k hk, this.1, by have := this.2; omega⟩
/-- A stretch of the first keys. -/
def scanN (L : List Ver) (a b : List Int) (t n : Int) (i : Nat) : List Itm := ((keysV L).take i).filterMap (itemV L a b t n)
theorem scan_pre (L : List Ver) (a b : List Int) (t n : Int) (i : Nat) : ∃ r, scanV L a b t n = scanN L a b t n i ++ r := by
  refine ⟨((keysV L).drop i).filterMap (itemV L a b t n), ?_⟩
  unfold scanV scanN
  rw [← List.filterMap_append, List.take_append_drop]
theorem scan_next {L : List Ver} {a b : List Int} {t n : Int} {i : Nat} {k : List Int} (h : (keysV L)[i]? = some k) : scanN L a b t n (i + 1) = scanN L a b t n i ++ (itemV L a b t n k).toList := by
  unfold scanN
  rw [List.take_add_one, h, List.filterMap_append]
  congr 1
theorem scanN_ok {L : List Ver} (h : StoG L) {a b : List Int} {t n : Int} {i : Nat} : ∀ x ∈ scanN L a b t n i, ItmOk x := fun x hx => by
  obtain ⟨k, hk, e⟩ := List.mem_filterMap.1 hx
  exact item_ok h (List.mem_of_mem_take hk) e
theorem scanN_len (L : List Ver) (a b : List Int) (t n : Int) (i : Nat) : (scanN L a b t n i).length ≤ (keysV L).length := by
  have h1 : (scanN L a b t n i).length ≤ ((keysV L).take i).length := List.length_filterMap_le _ _
  rw [List.length_take] at h1
  omega
/-- The boxes of Scan: two keys, a stamp. -/
structure ScB (w u : World) (a b : List Int) (t n : Int) : Prop where
  below : Below w.heap.size w u
  a : KeyAt u w.heap.size 0 a
  b : KeyAt u (w.heap.size + 1) 0 b
  c0 : u.cell? ⟨w.heap.size + 2, 0, none⟩ = some (.int .i64 t)
  c1 : u.cell? ⟨w.heap.size + 2, 1, none⟩ = some (.int .u8 n)
theorem ScB.made (w : World) {a b : List Int} (ha : Ky a) (hb : Ky b) (t n : Int) (T T' : TypeId) : ScB w (((w.alloc (.cells (kcs a) T)).alloc (.cells (kcs b) T)).alloc (.cells #[.int .i64 t, .int .u8 n] T')) a b t n := by
  obtain ⟨u1, h1⟩ : ∃ u, u = w.alloc (.cells (kcs a) T) := ⟨_, rfl⟩
  have e1 : u1.heap.size = w.heap.size + 1 := by rw [h1]; simp
  have k1 : KeyAt u1 w.heap.size 0 a := by rw [h1]; exact KeyAt.made w T a ha
  have b1 : Below w.heap.size w u1 := by rw [h1]; exact (Below.refl _ _).alloc (Nat.le_refl _) _
  rw [← h1]
  obtain ⟨u2, h2⟩ : ∃ u, u = u1.alloc (.cells (kcs b) T) := ⟨_, rfl⟩
  have e2 : u2.heap.size = w.heap.size + 2 := by rw [h2]; simp; omega
  have k2 : KeyAt u2 (w.heap.size + 1) 0 b := by rw [h2, ← e1]; exact KeyAt.made u1 T b hb
  have b2 : Below u1.heap.size u1 u2 := by rw [h2]; exact (Below.refl _ _).alloc (Nat.le_refl _) _
  rw [← h2]
  have b3 : Below u2.heap.size u2 (u2.alloc (.cells #[.int .i64 t, .int .u8 n] T')) := (Below.refl _ _).alloc (Nat.le_refl _) _
  refine ⟨(b1.trans (b2.mono b1.size)).trans (b3.mono (by omega)), (k1.past b2).past b3, k2.past b3, ?_, ?_⟩ <;> (rw [← e2, World.cell?_alloc_new]; rfl)
theorem ScB.past {w u u' : World} {a b : List Int} {t n : Int} (h : ScB w u a b t n) (hb : Below u.heap.size u u') : ScB w u' a b t n :=
  ⟨h.below.trans (hb.mono h.below.size), h.a.past hb, h.b.past hb, (hb.cell (p := ⟨w.heap.size + 2, 0, none⟩) (cell_lt h.c0)).trans h.c0, (hb.cell (p := ⟨w.heap.size + 2, 1, none⟩) (cell_lt h.c0)).trans h.c1⟩
/-- What Scan's rounds hold: U the world behind the boxes and the keys. -/
structure ScR (w U u : World) (a b : List Int) (t n : Int) (v : Value) (M : List Itm) : Prop where
  box : ScB w U a b t n
  own : OwnB 132 17 U u v M.length (M.flatMap encI)
theorem ScR.past {w U u u' : World} {a b : List Int} {t n : Int} {v : Value} {M : List Itm} (h : ScR w U u a b t n v M) (hb : Below u.heap.size u u') : ScR w U u' a b t n v M := ⟨h.box, h.own.past hb⟩
theorem ScR.here {w U u : World} {a b : List Int} {t n : Int} {v : Value} {M : List Itm} (h : ScR w U u a b t n v M) : ScB w u a b t n := h.box.past (h.own.below.mono (Nat.le_refl _))
theorem own_down {u : World} {B B' : Nat} {e : TypeId} {size : Nat} {v : Value} {n : Nat} {xs : List Value} (h : u.ownsRow B e size v n xs) (hB : B' ≤ B) : u.ownsRow B' e size v n xs :=
  ⟨h.1, h.2.imp id (fun ⟨g, cap, cur, h1, h2, h3⟩ => ⟨g, cap, cur, h1, Nat.le_trans hB h2, h3⟩)⟩
set_option maxHeartbeats 8000000 in
set_option maxRecDepth 4000 in
theorem sscan_own (p : Nat) (L : List Ver) (X : Foot) (a b : List Int) (ha : Ky a) (hb : Ky b) (t n most : Int) (hmo : -9223372036854775808 ≤ most ∧ most ≤ 9223372036854775807) (w : World) (h : StD w p L X) :
    Calls Tryz.prog 57 #[.pointer (some ⟨p, 0, none⟩), kv a, kv b, .agg #[.int .i64 t, .int .u8 n], .int .i64 most] w fun e w' => (∃ a' c', e = .returned (.slice a' ((scanV L a b t n).take most.toNat).length c') ∧ ItmsAt w' a' ((scanV L a b t n).take most.toNat) ∧ ((scanV L a b t n).take most.toNat).length ≤ c' ∧ w'.ownsRow w.heap.size 132 17 (.slice a' ((scanV L a b t n).take most.toNat).length c') ((scanV L a b t n).take most.toNat).length (((scanV L a b t n).take most.toNat).flatMap encI)) ∧ Below w.heap.size w w' := by
  have hg := h.1
  have HG : Hid (StoG L) := hg
  have KA : Hid (Ky a) := ha
  have KB : Hid (Ky b) := hb
  obtain ⟨W0, hW0⟩ : ∃ u, u = ((w.alloc (.cells (kcs a) 38)).alloc (.cells (kcs b) 38)).alloc (.cells #[.int .i64 t, .int .u8 n] 28) := ⟨_, rfl⟩
  have HB0 : Hid (ScB w W0 a b t n) := by rw [hW0]; exact ScB.made w ha hb t n 38 28
  have HW0 : Hid (((w.alloc (.cells (kcs a) 38)).alloc (.cells (kcs b) 38)).alloc (.cells #[.int .i64 t, .int .u8 n] 28) = W0) := hW0.symm
  have HST : Hid (∀ u, Below w.heap.size w u → StD u p L X) := fun u hb => h.past hb
  obtain ⟨K, hK⟩ : ∃ K, K = keysV L := ⟨_, rfl⟩
  obtain ⟨N, hN⟩ : ∃ N, N = K.length := ⟨_, rfl⟩
  have hN200 : N ≤ 200 := by rw [hN, hK]; exact hg.few
  have CK : Hid (Calls Tryz.prog 79 #[.pointer (some ⟨p, 0, none⟩)] W0 fun e w' => (∃ a' cap', e = .returned (.slice a' N cap') ∧ KeysAt w' a' K ∧ N ≤ cap') ∧ Below W0.heap.size W0 w') := by
    rw [hN, hK]; exact skeys_any p L X W0 (h.past HB0.out.below)
  have HKN : Hid (K = keysV L ∧ K.length = N) := ⟨hK, hN.symm⟩
  have HBE : Hid (∀ (U u : World) (v : Value) (i : Nat), ScR w U u a b t n v (scanN L a b t n i) → Below w.heap.size w u) := fun U u v i hr => hr.here.below
  obtain ⟨R, hR⟩ : ∃ R, R = (scanV L a b t n).take most.toNat := ⟨_, rfl⟩
  have HEND : Hid (∀ (U u : World) (v : Value) (i : Nat), ScR w U u a b t n v (scanN L a b t n i) → scanN L a b t n i = R → (∃ a' c', Ending.returned v = Ending.returned (.slice a' R.length c') ∧ ItmsAt u a' R ∧ R.length ≤ c' ∧ u.ownsRow w.heap.size 132 17 (.slice a' R.length c') R.length (R.flatMap encI)) ∧ Below w.heap.size w u) := fun U u v i hr he => by
    obtain ⟨a', c', e1, e2, e3⟩ := own_itms hr.own.own rfl (scanN_ok hg)
    refine ⟨⟨a', c', by rw [e1, he], by rw [← he]; exact e3, by rw [← he]; exact e2, by rw [← he]; have h9 := hr.own.own; rw [e1] at h9; exact own_down h9 hr.box.below.size⟩, hr.here.below⟩
  have HSTOP : Hid (∀ i, ((scanN L a b t n i).length : Int) ≤ max most 0 → most ≤ ((scanN L a b t n i).length : Int) → scanN L a b t n i = R) := fun i h1 h2 => by
    obtain ⟨r, hr⟩ := scan_pre L a b t n i
    rw [hR, hr]
    have : most.toNat = (scanN L a b t n i).length := by omega
    rw [this, List.take_left]
  have HALL : Hid (((scanN L a b t n N).length : Int) ≤ max most 0 → scanN L a b t n N = R) := fun h1 => by
    have e : scanN L a b t n N = scanV L a b t n := by
      unfold scanN scanV
      rw [List.take_of_length_le (by rw [hN, hK]; exact Nat.le_refl _)]
    rw [hR, ← e, List.take_of_length_le (by omega)]
  have HLEN : Hid (∀ i, (scanN L a b t n i).length ≤ 200) := fun i => Nat.le_trans (scanN_len L a b t n i) hg.few
  rw [← hR]
  clear hg ha hb hW0 h hK hN hR
  go_enter Tryz.func57, Tryz.ntmps57
  go_wp2_with (go_at_call 79; rw [HW0.out]; refine CK.out.mono ?_; rintro e w1 ⟨⟨ka, kcap, rfl, hka, hkc⟩, hb1⟩; have HKA : Hid (KeysAt w1 ka K) := hka; have HB1 : Hid (ScB w w1 a b t n) := HB0.out.past hb1; clear hka hb1)
  go_loopw [11, 19] (fun lv iv wr => ∃ (i m : Nat) (la : Option Addr) (lc : Nat), i ≤ N ∧ iv = .int .i64 i ∧ lv = .slice la m lc ∧ m ≤ 200 ∧ Hid (m = (scanN L a b t n i).length) ∧ Hid ((m : Int) ≤ max most 0) ∧ Hid (ScR w w1 wr a b t n (.slice la m lc) (scanN L a b t n i))) (fun _ iv _ => N - (intOf iv).toNat)
  case atStart => exact ⟨0, 0, none, 0, Nat.zero_le _, rfl, rfl, by omega, rfl, by show ((0 : Nat) : Int) ≤ max most 0; omega, ⟨HB1.out, ⟨World.ownsRow_nil _ _ _ _, Below.refl _ _⟩⟩⟩
  case round =>
    obtain ⟨i, m, la, lc, hi, rfl, rfl, hm200, HM, HMX, HS⟩ := hrel
    have hi0 : (0 : Int) ≤ (i : Int) := by omega
    by_cases hlt : i < N
    · have h1 : (i : Int) < (N : Int) := by omega
      obtain ⟨kb, ko, rfl, hkat, hky⟩ := (HKA.out.past (w' := wr) HS.out.own.below).key (i := i) (by rw [HKN.out.2]; exact hlt)
      obtain ⟨k, hk⟩ : ∃ k, k = K.getD i [] := ⟨_, rfl⟩
      rw [← hk] at hkat hky
      have HKI : Hid ((keysV L)[i]? = some k) := by
        show _ = _
        have : i < K.length := by rw [HKN.out.2]; exact hlt
        rw [← HKN.out.1, hk]
        simp [List.getD, this]
      have HKAT : Hid (KeyAt wr kb (ko + i * 16) k) := hkat
      have KK : Hid (Ky k) := hky
      have hmine := KeyMine.made wr 38 zeroK zeroK_ky
      obtain ⟨hk1, hb1, hz1⟩ := laid_key wr 38 hky
      rw [zero_cells] at hmine hk1 hb1 hz1
      have HMI : Hid _ := hmine
      have HK1 : Hid _ := hk1
      have HB2 : Hid _ := hb1
      clear hmine hk1 hb1 hz1 hkat hky hk
      by_cases hbr : most ≤ (m : Int)
      · have HX : Hid (scanN L a b t n i = R) := HSTOP.out i (by rw [← HM.out]; exact HMX.out) (by rw [← HM.out]; exact hbr)
        go_wp2_with (first | (have hgo := HKAT.out; clear hgo; refine wpList_load_keyD 22 (by rfl) (by rfl) _ (by rfl) kb (ko + i * 16) (by rfl) k KK.out HKAT.out ?_) | (have hgo := HMI.out; clear hgo; refine wpList_store_keyU (by rfl) _ _ (by rfl) wr.heap.size 0 zeroK k (by rfl) (by rfl) KK.out HMI.out ?_; intro u2 hu; rw [← hu] at HK1 HB2; clear hu HMI HKAT))
        go_ret
        exact HEND.out _ _ _ _ (HS.out.past HB2.out) HX.out
      · obtain ⟨wi, hwi⟩ : ∃ x, x = withinK k a b := ⟨_, rfl⟩
        have CW : Hid (∀ u, Calls Tryz.prog 107 #[kv k, kv a, kv b] u fun e w' => e = .returned (.bool wi) ∧ Below u.heap.size u w') := fun u => by rw [hwi]; exact kwithin_any k a b KK.out KA.out KB.out u
        have HNX := scan_next (a := a) (b := b) (t := t) (n := n) HKI.out
        have hitem : itemV L a b t n k = match getV L k t n with | none => none | some v => if wi = true then some (k, v) else none := by rw [hwi]; rfl
        cases wi with
        | false =>
          have HX : Hid (scanN L a b t n (i + 1) = scanN L a b t n i) := by
            show _ = _
            have e : itemV L a b t n k = none := by rw [hitem]; cases getV L k t n <;> rfl
            rw [HNX, e]; simp
          clear hitem HNX hwi
          go_wp2_with (first | (have hgo := HKAT.out; clear hgo; refine wpList_load_keyD 22 (by rfl) (by rfl) _ (by rfl) kb (ko + i * 16) (by rfl) k KK.out HKAT.out ?_) | (have hgo := HMI.out; clear hgo; refine wpList_store_keyU (by rfl) _ _ (by rfl) wr.heap.size 0 zeroK k (by rfl) (by rfl) KK.out HMI.out ?_; intro u2 hu; rw [← hu] at HK1 HB2; have HS2 : Hid (ScR w w1 u2 a b t n (.slice la m lc) (scanN L a b t n i)) := HS.out.past HB2.out; clear hu HMI HKAT) | (have hgo := HS2.out; clear hgo; refine wpList_load_keyD 27 (by rfl) (by rfl) _ (by rfl) wr.heap.size 0 (by rfl) k KK.out HK1.out.lies ?_) | (have hgo := HS2.out; clear hgo; refine wpList_load_keyD 28 (by rfl) (by rfl) _ (by rfl) w.heap.size 0 (by rfl) a KA.out HS2.out.here.a ?_) | (have hgo := HS2.out; clear hgo; refine wpList_load_keyD 29 (by rfl) (by rfl) _ (by rfl) (w.heap.size + 1) 0 (by rfl) b KB.out HS2.out.here.b ?_) | (go_at_call 107; refine (CW.out _).mono ?_; rintro e w3 ⟨rfl, hb3⟩; have HS3 : Hid (ScR w w1 w3 a b t n (.slice la m lc) (scanN L a b t n (i + 1))) := (by rw [HX.out]; exact HS2.out.past hb3); clear hb3))
          go_roundw
          case rel => exact ⟨i + 1, m, la, lc, by omega, by go_num, rfl, hm200, by show _ = _; rw [HX.out]; exact HM.out, HMX, HS3⟩
          case measure => simp [intOf]; omega
        | true =>
          obtain ⟨gv, hgv⟩ : ∃ x, x = getV L k t n := ⟨_, rfl⟩
          have CG0 : ∀ u, Below w.heap.size w u → Calls Tryz.prog 54 #[.pointer (some ⟨p, 0, none⟩), kv k, .agg #[.int .i64 t, .int .u8 n]] u fun e w' => e = .returned (.tuple #[.string (strOfNums (gv.getD [])), .bool gv.isSome]) ∧ Below u.heap.size u w' := fun u hb => by rw [hgv]; exact sget_any p L X k KK.out t n u (HST.out u hb)
          rw [← hgv] at hitem
          cases gv with
          | none =>
            have HX : Hid (scanN L a b t n (i + 1) = scanN L a b t n i) := by
              show _ = _
              have e : itemV L a b t n k = none := hitem
              rw [HNX, e]; simp
            have CG : Hid (∀ u, Below w.heap.size w u → Calls Tryz.prog 54 #[.pointer (some ⟨p, 0, none⟩), kv k, .agg #[.int .i64 t, .int .u8 n]] u fun e w' => e = .returned (.tuple #[.string (strOfNums []), .bool false]) ∧ Below u.heap.size u w') := CG0
            generalize strOfNums [] = S0 at CG
            clear hitem HNX hwi hgv CG0
            go_wp2_with (first | (have hgo := HKAT.out; clear hgo; refine wpList_load_keyD 22 (by rfl) (by rfl) _ (by rfl) kb (ko + i * 16) (by rfl) k KK.out HKAT.out ?_) | (have hgo := HMI.out; clear hgo; refine wpList_store_keyU (by rfl) _ _ (by rfl) wr.heap.size 0 zeroK k (by rfl) (by rfl) KK.out HMI.out ?_; intro u2 hu; rw [← hu] at HK1 HB2; have HS2 : Hid (ScR w w1 u2 a b t n (.slice la m lc) (scanN L a b t n i)) := HS.out.past HB2.out; clear hu HMI HKAT) | (have hgo := HS2.out; clear hgo; refine wpList_load_keyD 27 (by rfl) (by rfl) _ (by rfl) wr.heap.size 0 (by rfl) k KK.out HK1.out.lies ?_) | (have hgo := HS2.out; clear hgo; refine wpList_load_keyD 28 (by rfl) (by rfl) _ (by rfl) w.heap.size 0 (by rfl) a KA.out HS2.out.here.a ?_) | (have hgo := HS2.out; clear hgo; refine wpList_load_keyD 29 (by rfl) (by rfl) _ (by rfl) (w.heap.size + 1) 0 (by rfl) b KB.out HS2.out.here.b ?_) | (go_at_call 107; refine (CW.out _).mono ?_; rintro e w3 ⟨rfl, hb3⟩; have HS3 : Hid (ScR w w1 w3 a b t n (.slice la m lc) (scanN L a b t n i)) := HS2.out.past hb3; have HK3 : Hid (KeyAt w3 wr.heap.size 0 k) := HK1.out.lies.past hb3; have x0 := HS3.out.here.c0; have x1 := HS3.out.here.c1; clear hb3 HS2) | (have hgo := HS3.out; clear hgo; refine wpList_load_keyD 34 (by rfl) (by rfl) _ (by rfl) wr.heap.size 0 (by rfl) k KK.out HK3.out ?_) | (go_at_call 54; refine (CG.out _ HS3.out.here.below).mono ?_; rintro e w4 ⟨rfl, hb4⟩; have HS4 : Hid (ScR w w1 w4 a b t n (.slice la m lc) (scanN L a b t n (i + 1))) := (by rw [HX.out]; exact HS3.out.past hb4); clear hb4 x0 x1))
            go_roundw
            case rel => exact ⟨i + 1, m, la, lc, by omega, by go_num, rfl, hm200, by show _ = _; rw [HX.out]; exact HM.out, HMX, HS4⟩
            case measure => simp [intOf]; omega
          | some v =>
            have HX : Hid (scanN L a b t n (i + 1) = scanN L a b t n i ++ [(k, v)]) := by
              show _ = _
              have e : itemV L a b t n k = some (k, v) := hitem
              rw [HNX, e]; simp
            have CG : Hid (∀ u, Below w.heap.size w u → Calls Tryz.prog 54 #[.pointer (some ⟨p, 0, none⟩), kv k, .agg #[.int .i64 t, .int .u8 n]] u fun e w' => e = .returned (.tuple #[.string (strOfNums v), .bool true]) ∧ Below u.heap.size u w') := CG0
            have HFL : Hid ((scanN L a b t n i).flatMap encI ++ encI (k, v) = (scanN L a b t n (i + 1)).flatMap encI) := by show _ = _; rw [HX.out, List.flatMap_append]; simp
            clear hitem HNX hwi hgv CG0
            have hmi : ¬ most ≤ (m : Int) := hbr
            go_wp2_with (first | (have hgo := HKAT.out; clear hgo; refine wpList_load_keyD 22 (by rfl) (by rfl) _ (by rfl) kb (ko + i * 16) (by rfl) k KK.out HKAT.out ?_) | (have hgo := HMI.out; clear hgo; refine wpList_store_keyU (by rfl) _ _ (by rfl) wr.heap.size 0 zeroK k (by rfl) (by rfl) KK.out HMI.out ?_; intro u2 hu; rw [← hu] at HK1 HB2; have HS2 : Hid (ScR w w1 u2 a b t n (.slice la m lc) (scanN L a b t n i)) := HS.out.past HB2.out; clear hu HMI HKAT) | (have hgo := HS2.out; clear hgo; refine wpList_load_keyD 27 (by rfl) (by rfl) _ (by rfl) wr.heap.size 0 (by rfl) k KK.out HK1.out.lies ?_) | (have hgo := HS2.out; clear hgo; refine wpList_load_keyD 28 (by rfl) (by rfl) _ (by rfl) w.heap.size 0 (by rfl) a KA.out HS2.out.here.a ?_) | (have hgo := HS2.out; clear hgo; refine wpList_load_keyD 29 (by rfl) (by rfl) _ (by rfl) (w.heap.size + 1) 0 (by rfl) b KB.out HS2.out.here.b ?_) | (go_at_call 107; refine (CW.out _).mono ?_; rintro e w3 ⟨rfl, hb3⟩; have HS3 : Hid (ScR w w1 w3 a b t n (.slice la m lc) (scanN L a b t n i)) := HS2.out.past hb3; have HK3 : Hid (KeyAt w3 wr.heap.size 0 k) := HK1.out.lies.past hb3; have x0 := HS3.out.here.c0; have x1 := HS3.out.here.c1; clear hb3 HS2) | (have hgo := HS3.out; clear hgo; refine wpList_load_keyD 34 (by rfl) (by rfl) _ (by rfl) wr.heap.size 0 (by rfl) k KK.out HK3.out ?_) | (go_at_call 54; refine (CG.out _ HS3.out.here.below).mono ?_; rintro e w4 ⟨rfl, hb4⟩; have HS4 : Hid (ScR w w1 w4 a b t n (.slice la m lc) (scanN L a b t n i)) := HS3.out.past hb4; have HK4 : Hid (KeyAt w4 wr.heap.size 0 k) := HK3.out.past hb4; clear hb4 x0 x1 HS3) | (have hgo := HS4.out; clear hgo; refine wpList_load_keyD 41 (by rfl) (by rfl) _ (by rfl) wr.heap.size 0 (by rfl) k KK.out HK4.out ?_) | (have hgo := HS4.out; clear hgo; refine wpList_build_itm 43 (by rfl) (by rfl) (.tmp 41) (.tmp 42) (by rfl) k v KK.out (by rfl) (by rfl) ?_) | (have hgo := HS4.out; clear hgo; refine wpList_build_itms 44 (by rfl) (by rfl) (.tmp 43) (by rfl) (k, v) KK.out (by rfl) ?_) | (have hgo := HS4.out; clear hgo; refine wpList_own itmEl (w0 := w1) rfl (.tmp 40) (.tmp 44) rfl _ m ((scanN L a b t n i).flatMap encI) (encI (k, v)) rfl (by rw [HM.out] at HS4 ⊢; exact HS4.out.own.alloc _) _ _ _ rfl (by rw [encI_len KK.out]) (lies_made _ _ _) (encI_one (k, v)) (fun h => by cases h) (m + 1) rfl (by omega) _ HFL.out ?_; intro a6 c6 w6 h6 hg6; have O6 : Hid (OwnB 132 17 w1 w6 (.slice a6 (m + 1) c6) (m + 1) ((scanN L a b t n (i + 1)).flatMap encI)) := h6; clear h6 hg6))
            have HM2 : Hid (m + 1 = (scanN L a b t n (i + 1)).length) := by show _ = _; rw [HX.out, List.length_append, ← HM.out]; rfl
            have h201 := HLEN.out (i + 1)
            rw [← HM2.out] at h201
            go_roundw
            case rel => exact ⟨i + 1, m + 1, a6, c6, by omega, by go_num, rfl, h201, HM2, by show ((m + 1 : Nat) : Int) ≤ max most 0; omega, ⟨HB1.out, by rw [← HM2.out]; exact O6.out⟩⟩
            case measure => simp [intOf]; omega
    · obtain rfl : i = N := by omega
      have HX : Hid (scanN L a b t n i = R) := HALL.out (by rw [← HM.out]; exact HMX.out)
      go_wp2
      go_ret
      exact HEND.out _ _ _ _ HS.out HX.out
theorem sscan_any (p : Nat) (L : List Ver) (X : Foot) (a b : List Int) (ha : Ky a) (hb : Ky b) (t n most : Int) (hmo : -9223372036854775808 ≤ most ∧ most ≤ 9223372036854775807) (w : World) (h : StD w p L X) :
    Calls Tryz.prog 57 #[.pointer (some ⟨p, 0, none⟩), kv a, kv b, .agg #[.int .i64 t, .int .u8 n], .int .i64 most] w fun e w' => (∃ a' c', e = .returned (.slice a' ((scanV L a b t n).take most.toNat).length c') ∧ ItmsAt w' a' ((scanV L a b t n).take most.toNat) ∧ ((scanV L a b t n).take most.toNat).length ≤ c') ∧ Below w.heap.size w w' :=
  (sscan_own p L X a b ha hb t n most hmo w h).mono fun e w' ⟨⟨a', c', h1, h2, h3, _⟩, h4⟩ => ⟨⟨a', c', h1, h2, h3⟩, h4⟩
end Go.Proofs.YtileidbdmpeciaaGreat
