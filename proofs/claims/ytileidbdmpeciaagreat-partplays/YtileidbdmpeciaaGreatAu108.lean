/-
  What package store answers: Scan.
  The entries of a table's answer, in every world behind.
  What the landed parts answer: Scan, and who blocks a stretch (package part: anyBlocked).
  What follows from chapter 16: what is prepared can be committed; what was read stays; what is over is over. No program is named here.
-/
import Derived.Test.YtileidbdmpeciaaGreatAu101
import Derived.Test.YtileidbdmpeciaaGreatAu112
import Derived.Test.YtileidbdmpeciaaGreatAu98
import Derived.Test.YtileidbdmpeciaaGreatAu87
import Derived.Test.YtileidbdmpeciaaGreatAu105
namespace Go.Proofs.YtileidbdmpeciaaGreat
open Go.RowKit
set_option linter.unusedVariables false

theorem run_build_itm (w : World) (k v : List Int) (hk : Ky k) : (Instr.build 132 #[(0, kv k), (1, .string (strOfNums v))]).run Tryz.prog w = .ok (iv (k, v)) w := by
  have hl := kc_len hk
  have hf : Instr.fill (fun x => [(0, 16), (16, 1)][x]?) (encI (zeroK, [])).toArray [(0, kv k), (1, .string (strOfNums v))] = some (encI (k, v)).toArray := by
    show Instr.fill (fun x => [(0, 16), (16, 1)][x]?) (encI (zeroK, [])).toArray [(0, .agg (kc k).toArray), (1, .string (strOfNums v))] = _
    rw [fill_step (fun x => [(0, 16), (16, 1)][x]?) (encI (zeroK, [])) 0 0 16 (kc k) rfl hl (by rw [encI_len zeroK_ky]; omega)]
    rw [fill_cell (fun x => [(0, 16), (16, 1)][x]?) _ 1 16 (.string (strOfNums v)) rfl rfl (by rw [List.length_append, List.length_append, List.length_drop, hl, encI_len (x := (zeroK, [])) zeroK_ky]; simp)]
    show some _ = some _
    congr 2
    have e1 : (encI (zeroK, [])).drop (0 + 16) = [.string ⟨#[]⟩] := rfl
    rw [e1, List.take_zero, List.nil_append, List.set_append_right _ _ (by omega), hl]
    rfl
  simp [Instr.build, run_underlying Tryz.underlying132]
  have hf2 : Instr.fill (fun x => [(0, 16), (16, 1)][x]?) (Value.agg #[.int .u8 0, .int .u8 0, .int .u8 0, .int .u8 0, .int .u8 0, .int .u8 0, .int .u8 0, .int .u8 0, .int .u8 0, .int .u8 0, .int .u8 0, .int .u8 0, .int .u8 0, .int .u8 0, .int .u8 0, .int .u8 0, .string ⟨#[]⟩]).cells [(0, kv k), (1, .string (strOfNums v))] = some (encI (k, v)).toArray := hf
  rw [hf2]
  rfl
theorem wpList_build_itm (d : Tmp) {ops : Array Oper} {rest : List Oper} {op : Oper} {a : Act} {w : World} {Q : Exit → Act → World → Prop} (hd : op.dst = some d) (hgd : op.guard = none) (x y : Operand) (ho : op.op = .build 132 #[(0, x), (1, y)])
    (k v : List Int) (hk : Ky k) (hx : a.eval x = kv k) (hy : a.eval y = .string (strOfNums v))
    (h : wpList Tryz.prog ops Q rest (a.put op.dst (iv (k, v))) w) : wpList Tryz.prog ops Q (op :: rest) a w := by
  refine wpList_plain hgd fun K hK => ?_
  have hrun := run_build_itm w k v hk
  unfold Oper.wp
  simp only [execOp, ho, List.map_toArray, List.map_cons, List.map_nil, hx, hy, Sem.run_bind, hrun, Result.andThen]
  exact hK _ _ h
theorem run_build_itms (w : World) (x : Itm) (hk : Ky x.1) :
    (Instr.buildSlice 40 1 #[(0, iv x)]).run Tryz.prog w = .ok (.slice (some ⟨w.heap.size, 0, none⟩) 1 1) (w.alloc (.cells (encI x).toArray 132)) := by
  have hl := encI_len hk
  have hf : Instr.fill (fun i => some (i * 17, 17)) (encI (zeroK, [])).toArray [(0, iv x)] = some (encI x).toArray := by
    rw [fill_step _ (encI (zeroK, [])) 0 0 17 (encI x) rfl hl (by rw [encI_len zeroK_ky]; omega)]
    show some _ = some _
    congr 2
    rw [List.drop_eq_nil_of_le (by rw [encI_len zeroK_ky]; omega)]
    simp
  simp [Instr.buildSlice, run_underlying Tryz.underlying40]
  generalize hz : Array.map _ (Array.range 17) = Z
  have hz2 : Z = (encI (zeroK, [])).toArray := by rw [← hz]; kernel_rfl
  rw [hz2, hf]
  simp [newRow]
theorem wpList_build_itms (d : Tmp) {ops : Array Oper} {rest : List Oper} {op : Oper} {a : Act} {w : World} {Q : Exit → Act → World → Prop} (hd : op.dst = some d) (hgd : op.guard = none) (x : Operand) (ho : op.op = .buildSlice 40 1 #[(0, x)])
    (I : Itm) (hk : Ky I.1) (hx : a.eval x = iv I)
    (h : wpList Tryz.prog ops Q rest (a.put op.dst (.slice (some ⟨w.heap.size, 0, none⟩) 1 1)) (w.alloc (.cells (encI I).toArray 132))) : wpList Tryz.prog ops Q (op :: rest) a w := by
  refine wpList_plain hgd fun K hK => ?_
  have hrun := run_build_itms w I hk
  unfold Oper.wp
  simp [execOp, ho, hx, hrun, Result.andThen]
  exact hK _ _ h
/-- What a stretch tells is made of keys and of values of a store. -/
theorem get_ok {L : List Ver} (h : StoG L) {k : List Int} {t n : Int} {v : List Int} (hv : getV L k t n = some v) : (∀ z ∈ v, 0 ≤ z ∧ z ≤ 255) ∧ v.length ≤ 200 := by
  unfold getV at hv
  cases hA : atV L k t n with
  | none => rw [hA] at hv; cases hv
  | some X =>
    rw [hA] at hv
    have hX : X ∈ L := by
      unfold atV at hA
      exact chain_sub (List.mem_reverse.1 (List.mem_of_find?_eq_some hA))
    have hm := h.sto.may X hX
    unfold mayV at hm
    simp only [Bool.and_eq_true, decide_eq_true_eq] at hm
    by_cases hg : X.g = true
    · simp only [hg, if_true] at hv; cases hv
    · simp only [hg] at hv
      have hv : X.v = v := by simpa using hv
      rw [← hv]
      exact ⟨(h.sto.ins X hX).2.2, hm.1.2⟩
theorem item_ok {L : List Ver} (h : StoG L) {a b : List Int} {t n : Int} {k : List Int} {x : Itm} (hk : k ∈ keysV L) (hx : itemV L a b t n k = some x) : ItmOk x := by
  obtain ⟨e1, e2, _⟩ := item_some hx
  have := get_ok h e2
  exact ⟨by rw [e1]; exact h.keys k hk, this.1, by have := this.2; omega⟩
/-- A stretch of the first keys. -/
def scanN (L : List Ver) (a b : List Int) (t n : Int) (i : Nat) : List Itm := ((keysV L).take i).filterMap (itemV L a b t n)
theorem scan_pre (L : List Ver) (a b : List Int) (t n : Int) (i : Nat) : ∃ r, scanV L a b t n = scanN L a b t n i ++ r := by
  refine ⟨((keysV L).drop i).filterMap (itemV L a b t n), ?_⟩
  unfold scanV scanN
  rw [← List.filterMap_append, List.take_append_drop]
theorem scan_next {L : List Ver} {a b : List Int} {t n : Int} {i : Nat} {k : List Int} (h : (keysV L)[i]? = some k) : scanN L a b t n (i + 1) = scanN L a b t n i ++ (itemV L a b t n k).toList := by
  unfold scanN
  rw [List.take_add_one, h, List.filterMap_append]
  congr 1
theorem scanN_ok {L : List Ver} (h : StoG L) {a b : List Int} {t n : Int} {i : Nat} : ∀ x ∈ scanN L a b t n i, ItmOk x := fun x hx => by
  obtain ⟨k, hk, e⟩ := List.mem_filterMap.1 hx
  exact item_ok h (List.mem_of_mem_take hk) e
theorem scanN_len (L : List Ver) (a b : List Int) (t n : Int) (i : Nat) : (scanN L a b t n i).length ≤ (keysV L).length := by
  have h1 : (scanN L a b t n i).length ≤ ((keysV L).take i).length := List.length_filterMap_le _ _
  rw [List.length_take] at h1
  omega
/-- The boxes of Scan: two keys, a stamp. -/
structure ScB (w u : World) (a b : List Int) (t n : Int) : Prop where
  below : Below w.heap.size w u
  a : KeyAt u w.heap.size 0 a
  b : KeyAt u (w.heap.size + 1) 0 b
  c0 : u.cell? ⟨w.heap.size + 2, 0, none⟩ = some (.int .i64 t)
  c1 : u.cell? ⟨w.heap.size + 2, 1, none⟩ = some (.int .u8 n)
theorem ScB.made (w : World) {a b : List Int} (ha : Ky a) (hb : Ky b) (t n : Int) (T T' : TypeId) : ScB w (((w.alloc (.cells (kcs a) T)).alloc (.cells (kcs b) T)).alloc (.cells #[.int .i64 t, .int .u8 n] T')) a b t n := by
  obtain ⟨u1, h1⟩ : ∃ u, u = w.alloc (.cells (kcs a) T) := ⟨_, rfl⟩
  have e1 : u1.heap.size = w.heap.size + 1 := by rw [h1]; simp
  have k1 : KeyAt u1 w.heap.size 0 a := by rw [h1]; exact KeyAt.made w T a ha
  have b1 : Below w.heap.size w u1 := by rw [h1]; exact (Below.refl _ _).alloc (Nat.le_refl _) _
  rw [← h1]
  obtain ⟨u2, h2⟩ : ∃ u, u = u1.alloc (.cells (kcs b) T) := ⟨_, rfl⟩
  have e2 : u2.heap.size = w.heap.size + 2 := by rw [h2]; simp; omega
  have k2 : KeyAt u2 (w.heap.size + 1) 0 b := by rw [h2, ← e1]; exact KeyAt.made u1 T b hb
  have b2 : Below u1.heap.size u1 u2 := by rw [h2]; exact (Below.refl _ _).alloc (Nat.le_refl _) _
  rw [← h2]
  have b3 : Below u2.heap.size u2 (u2.alloc (.cells #[.int .i64 t, .int .u8 n] T')) := (Below.refl _ _).alloc (Nat.le_refl _) _
  refine ⟨(b1.trans (b2.mono b1.size)).trans (b3.mono (by omega)), (k1.past b2).past b3, k2.past b3, ?_, ?_⟩ <;> (rw [← e2, World.cell?_alloc_new]; rfl)
theorem ScB.past {w u u' : World} {a b : List Int} {t n : Int} (h : ScB w u a b t n) (hb : Below u.heap.size u u') : ScB w u' a b t n :=
  ⟨h.below.trans (hb.mono h.below.size), h.a.past hb, h.b.past hb, (hb.cell (p := ⟨w.heap.size + 2, 0, none⟩) (cell_lt h.c0)).trans h.c0, (hb.cell (p := ⟨w.heap.size + 2, 1, none⟩) (cell_lt h.c0)).trans h.c1⟩
/-- What Scan's rounds hold: U the world behind the boxes and the keys. -/
structure ScR (w U u : World) (a b : List Int) (t n : Int) (v : Value) (M : List Itm) : Prop where
  box : ScB w U a b t n
  own : OwnB 132 17 U u v M.length (M.flatMap encI)
theorem ScR.past {w U u u' : World} {a b : List Int} {t n : Int} {v : Value} {M : List Itm} (h : ScR w U u a b t n v M) (hb : Below u.heap.size u u') : ScR w U u' a b t n v M := ⟨h.box, h.own.past hb⟩
theorem ScR.here {w U u : World} {a b : List Int} {t n : Int} {v : Value} {M : List Itm} (h : ScR w U u a b t n v M) : ScB w u a b t n := h.box.past (h.own.below.mono (Nat.le_refl _))
theorem own_down {u : World} {B B' : Nat} {e : TypeId} {size : Nat} {v : Value} {n : Nat} {xs : List Value} (h : u.ownsRow B e size v n xs) (hB : B' ≤ B) : u.ownsRow B' e size v n xs :=
  ⟨h.1, h.2.imp id (fun ⟨g, cap, cur, h1, h2, h3⟩ => ⟨g, cap, cur, h1, Nat.le_trans hB h2, h3⟩)⟩
set_option maxHeartbeats 8000000 in
set_option maxRecDepth 4000 in
theorem sscan_own (p : Nat) (L : List Ver) (X : Foot) (a b : List Int) (ha : Ky a) (hb : Ky b) (t n most : Int) (hmo : -9223372036854775808 ≤ most ∧ most ≤ 9223372036854775807) (w : World) (h : StD w p L X) :
    Calls Tryz.prog 57 #[.pointer (some ⟨p, 0, none⟩), kv a, kv b, .agg #[.int .i64 t, .int .u8 n], .int .i64 most] w fun e w' => (∃ a' c', e = .returned (.slice a' ((scanV L a b t n).take most.toNat).length c') ∧ ItmsAt w' a' ((scanV L a b t n).take most.toNat) ∧ ((scanV L a b t n).take most.toNat).length ≤ c' ∧ w'.ownsRow w.heap.size 132 17 (.slice a' ((scanV L a b t n).take most.toNat).length c') ((scanV L a b t n).take most.toNat).length (((scanV L a b t n).take most.toNat).flatMap encI)) ∧ Below w.heap.size w w' := by
  have hg := h.1
  have HG : Hid (StoG L) := hg
  have KA : Hid (Ky a) := ha
  have KB : Hid (Ky b) := hb
  obtain ⟨W0, hW0⟩ : ∃ u, u = ((w.alloc (.cells (kcs a) 38)).alloc (.cells (kcs b) 38)).alloc (.cells #[.int .i64 t, .int .u8 n] 28) := ⟨_, rfl⟩
  have HB0 : Hid (ScB w W0 a b t n) := by rw [hW0]; exact ScB.made w ha hb t n 38 28
  have HW0 : Hid (((w.alloc (.cells (kcs a) 38)).alloc (.cells (kcs b) 38)).alloc (.cells #[.int .i64 t, .int .u8 n] 28) = W0) := hW0.symm
  have HST : Hid (∀ u, Below w.heap.size w u → StD u p L X) := fun u hb => h.past hb
  obtain ⟨K, hK⟩ : ∃ K, K = keysV L := ⟨_, rfl⟩
  obtain ⟨N, hN⟩ : ∃ N, N = K.length := ⟨_, rfl⟩
  have hN200 : N ≤ 200 := by rw [hN, hK]; exact hg.few
  have CK : Hid (Calls Tryz.prog 79 #[.pointer (some ⟨p, 0, none⟩)] W0 fun e w' => (∃ a' cap', e = .returned (.slice a' N cap') ∧ KeysAt w' a' K ∧ N ≤ cap') ∧ Below W0.heap.size W0 w') := by
    rw [hN, hK]; exact skeys_any p L X W0 (h.past HB0.out.below)
  have HKN : Hid (K = keysV L ∧ K.length = N) := ⟨hK, hN.symm⟩
  have HBE : Hid (∀ (U u : World) (v : Value) (i : Nat), ScR w U u a b t n v (scanN L a b t n i) → Below w.heap.size w u) := fun U u v i hr => hr.here.below
  obtain ⟨R, hR⟩ : ∃ R, R = (scanV L a b t n).take most.toNat := ⟨_, rfl⟩
  have HEND : Hid (∀ (U u : World) (v : Value) (i : Nat), ScR w U u a b t n v (scanN L a b t n i) → scanN L a b t n i = R → (∃ a' c', Ending.returned v = Ending.returned (.slice a' R.length c') ∧ ItmsAt u a' R ∧ R.length ≤ c' ∧ u.ownsRow w.heap.size 132 17 (.slice a' R.length c') R.length (R.flatMap encI)) ∧ Below w.heap.size w u) := fun U u v i hr he => by
    obtain ⟨a', c', e1, e2, e3⟩ := own_itms hr.own.own rfl (scanN_ok hg)
    refine ⟨⟨a', c', by rw [e1, he], by rw [← he]; exact e3, by rw [← he]; exact e2, by rw [← he]; have h9 := hr.own.own; rw [e1] at h9; exact own_down h9 hr.box.below.size⟩, hr.here.below⟩
  have HSTOP : Hid (∀ i, ((scanN L a b t n i).length : Int) ≤ max most 0 → most ≤ ((scanN L a b t n i).length : Int) → scanN L a b t n i = R) := fun i h1 h2 => by
    obtain ⟨r, hr⟩ := scan_pre L a b t n i
    rw [hR, hr]
    have : most.toNat = (scanN L a b t n i).length := by omega
    rw [this, List.take_left]
  have HALL : Hid (((scanN L a b t n N).length : Int) ≤ max most 0 → scanN L a b t n N = R) := fun h1 => by
    have e : scanN L a b t n N = scanV L a b t n := by
      unfold scanN scanV
      rw [List.take_of_length_le (by rw [hN, hK]; exact Nat.le_refl _)]
    rw [hR, ← e, List.take_of_length_le (by omega)]
  have HLEN : Hid (∀ i, (scanN L a b t n i).length ≤ 200) := fun i => Nat.le_trans (scanN_len L a b t n i) hg.few
  rw [← hR]
  clear hg ha hb hW0 h hK hN hR
  go_enter Tryz.func57, Tryz.ntmps57
  go_wp2_with (go_at_call 79; rw [HW0.out]; refine CK.out.mono ?_; rintro e w1 ⟨⟨ka, kcap, rfl, hka, hkc⟩, hb1⟩; have HKA : Hid (KeysAt w1 ka K) := hka; have HB1 : Hid (ScB w w1 a b t n) := HB0.out.past hb1; clear hka hb1)
  go_loopw [11, 19] (fun lv iv wr => ∃ (i m : Nat) (la : Option Addr) (lc : Nat), i ≤ N ∧ iv = .int .i64 i ∧ lv = .slice la m lc ∧ m ≤ 200 ∧ Hid (m = (scanN L a b t n i).length) ∧ Hid ((m : Int) ≤ max most 0) ∧ Hid (ScR w w1 wr a b t n (.slice la m lc) (scanN L a b t n i))) (fun _ iv _ => N - (intOf iv).toNat)
  case atStart => exact ⟨0, 0, none, 0, Nat.zero_le _, rfl, rfl, by omega, rfl, by show ((0 : Nat) : Int) ≤ max most 0; omega, ⟨HB1.out, ⟨World.ownsRow_nil _ _ _ _, Below.refl _ _⟩⟩⟩
  case round =>
    obtain ⟨i, m, la, lc, hi, rfl, rfl, hm200, HM, HMX, HS⟩ := hrel
    have hi0 : (0 : Int) ≤ (i : Int) := by omega
    by_cases hlt : i < N
    · have h1 : (i : Int) < (N : Int) := by omega
      obtain ⟨kb, ko, rfl, hkat, hky⟩ := (HKA.out.past (w' := wr) HS.out.own.below).key (i := i) (by rw [HKN.out.2]; exact hlt)
      obtain ⟨k, hk⟩ : ∃ k, k = K.getD i [] := ⟨_, rfl⟩
      rw [← hk] at hkat hky
      have HKI : Hid ((keysV L)[i]? = some k) := by
        show _ = _
        have : i < K.length := by rw [HKN.out.2]; exact hlt
        rw [← HKN.out.1, hk]
        simp [List.getD, this]
      have HKAT : Hid (KeyAt wr kb (ko + i * 16) k) := hkat
      have KK : Hid (Ky k) := hky
      have hmine := KeyMine.made wr 38 zeroK zeroK_ky
      obtain ⟨hk1, hb1, hz1⟩ := laid_key wr 38 hky
      rw [zero_cells] at hmine hk1 hb1 hz1
      have HMI : Hid _ := hmine
      have HK1 : Hid _ := hk1
      have HB2 : Hid _ := hb1
      clear hmine hk1 hb1 hz1 hkat hky hk
      by_cases hbr : most ≤ (m : Int)
      · have HX : Hid (scanN L a b t n i = R) := HSTOP.out i (by rw [← HM.out]; exact HMX.out) (by rw [← HM.out]; exact hbr)
        go_wp2_with (first | (have hgo := HKAT.out; clear hgo; refine wpList_load_keyD 22 (by rfl) (by rfl) _ (by rfl) kb (ko + i * 16) (by rfl) k KK.out HKAT.out ?_) | (have hgo := HMI.out; clear hgo; refine wpList_store_keyU (by rfl) _ _ (by rfl) wr.heap.size 0 zeroK k (by rfl) (by rfl) KK.out HMI.out ?_; intro u2 hu; rw [← hu] at HK1 HB2; clear hu HMI HKAT))
        go_ret
        exact HEND.out _ _ _ _ (HS.out.past HB2.out) HX.out
      · obtain ⟨wi, hwi⟩ : ∃ x, x = withinK k a b := ⟨_, rfl⟩
        have CW : Hid (∀ u, Calls Tryz.prog 107 #[kv k, kv a, kv b] u fun e w' => e = .returned (.bool wi) ∧ Below u.heap.size u w') := fun u => by rw [hwi]; exact kwithin_any k a b KK.out KA.out KB.out u
        have HNX := scan_next (a := a) (b := b) (t := t) (n := n) HKI.out
        have hitem : itemV L a b t n k = match getV L k t n with | none => none | some v => if wi = true then some (k, v) else none := by rw [hwi]; rfl
        cases wi with
        | false =>
          have HX : Hid (scanN L a b t n (i + 1) = scanN L a b t n i) := by
            show _ = _
            have e : itemV L a b t n k = none := by rw [hitem]; cases getV L k t n <;> rfl
            rw [HNX, e]; simp
          clear hitem HNX hwi
          go_wp2_with (first | (have hgo := HKAT.out; clear hgo; refine wpList_load_keyD 22 (by rfl) (by rfl) _ (by rfl) kb (ko + i * 16) (by rfl) k KK.out HKAT.out ?_) | (have hgo := HMI.out; clear hgo; refine wpList_store_keyU (by rfl) _ _ (by rfl) wr.heap.size 0 zeroK k (by rfl) (by rfl) KK.out HMI.out ?_; intro u2 hu; rw [← hu] at HK1 HB2; have HS2 : Hid (ScR w w1 u2 a b t n (.slice la m lc) (scanN L a b t n i)) := HS.out.past HB2.out; clear hu HMI HKAT) | (have hgo := HS2.out; clear hgo; refine wpList_load_keyD 27 (by rfl) (by rfl) _ (by rfl) wr.heap.size 0 (by rfl) k KK.out HK1.out.lies ?_) | (have hgo := HS2.out; clear hgo; refine wpList_load_keyD 28 (by rfl) (by rfl) _ (by rfl) w.heap.size 0 (by rfl) a KA.out HS2.out.here.a ?_) | (have hgo := HS2.out; clear hgo; refine wpList_load_keyD 29 (by rfl) (by rfl) _ (by rfl) (w.heap.size + 1) 0 (by rfl) b KB.out HS2.out.here.b ?_) | (go_at_call 107; refine (CW.out _).mono ?_; rintro e w3 ⟨rfl, hb3⟩; have HS3 : Hid (ScR w w1 w3 a b t n (.slice la m lc) (scanN L a b t n (i + 1))) := (by rw [HX.out]; exact HS2.out.past hb3); clear hb3))
          go_roundw
          case rel => exact ⟨i + 1, m, la, lc, by omega, by go_num, rfl, hm200, by show _ = _; rw [HX.out]; exact HM.out, HMX, HS3⟩
          case measure => simp [intOf]; omega
        | true =>
          obtain ⟨gv, hgv⟩ : ∃ x, x = getV L k t n := ⟨_, rfl⟩
          have CG0 : ∀ u, Below w.heap.size w u → Calls Tryz.prog 54 #[.pointer (some ⟨p, 0, none⟩), kv k, .agg #[.int .i64 t, .int .u8 n]] u fun e w' => e = .returned (.tuple #[.string (strOfNums (gv.getD [])), .bool gv.isSome]) ∧ Below u.heap.size u w' := fun u hb => by rw [hgv]; exact sget_any p L X k KK.out t n u (HST.out u hb)
          rw [← hgv] at hitem
          cases gv with
          | none =>
            have HX : Hid (scanN L a b t n (i + 1) = scanN L a b t n i) := by
              show _ = _
              have e : itemV L a b t n k = none := hitem
              rw [HNX, e]; simp
            have CG : Hid (∀ u, Below w.heap.size w u → Calls Tryz.prog 54 #[.pointer (some ⟨p, 0, none⟩), kv k, .agg #[.int .i64 t, .int .u8 n]] u fun e w' => e = .returned (.tuple #[.string (strOfNums []), .bool false]) ∧ Below u.heap.size u w') := CG0
            generalize strOfNums [] = S0 at CG
            clear hitem HNX hwi hgv CG0
            go_wp2_with (first | (have hgo := HKAT.out; clear hgo; refine wpList_load_keyD 22 (by rfl) (by rfl) _ (by rfl) kb (ko + i * 16) (by rfl) k KK.out HKAT.out ?_) | (have hgo := HMI.out; clear hgo; refine wpList_store_keyU (by rfl) _ _ (by rfl) wr.heap.size 0 zeroK k (by rfl) (by rfl) KK.out HMI.out ?_; intro u2 hu; rw [← hu] at HK1 HB2; have HS2 : Hid (ScR w w1 u2 a b t n (.slice la m lc) (scanN L a b t n i)) := HS.out.past HB2.out; clear hu HMI HKAT) | (have hgo := HS2.out; clear hgo; refine wpList_load_keyD 27 (by rfl) (by rfl) _ (by rfl) wr.heap.size 0 (by rfl) k KK.out HK1.out.lies ?_) | (have hgo := HS2.out; clear hgo; refine wpList_load_keyD 28 (by rfl) (by rfl) _ (by rfl) w.heap.size 0 (by rfl) a KA.out HS2.out.here.a ?_) | (have hgo := HS2.out; clear hgo; refine wpList_load_keyD 29 (by rfl) (by rfl) _ (by rfl) (w.heap.size + 1) 0 (by rfl) b KB.out HS2.out.here.b ?_) | (go_at_call 107; refine (CW.out _).mono ?_; rintro e w3 ⟨rfl, hb3⟩; have HS3 : Hid (ScR w w1 w3 a b t n (.slice la m lc) (scanN L a b t n i)) := HS2.out.past hb3; have HK3 : Hid (KeyAt w3 wr.heap.size 0 k) := HK1.out.lies.past hb3; have x0 := HS3.out.here.c0; have x1 := HS3.out.here.c1; clear hb3 HS2) | (have hgo := HS3.out; clear hgo; refine wpList_load_keyD 34 (by rfl) (by rfl) _ (by rfl) wr.heap.size 0 (by rfl) k KK.out HK3.out ?_) | (go_at_call 54; refine (CG.out _ HS3.out.here.below).mono ?_; rintro e w4 ⟨rfl, hb4⟩; have HS4 : Hid (ScR w w1 w4 a b t n (.slice la m lc) (scanN L a b t n (i + 1))) := (by rw [HX.out]; exact HS3.out.past hb4); clear hb4 x0 x1))
            go_roundw
            case rel => exact ⟨i + 1, m, la, lc, by omega, by go_num, rfl, hm200, by show _ = _; rw [HX.out]; exact HM.out, HMX, HS4⟩
            case measure => simp [intOf]; omega
          | some v =>
            have HX : Hid (scanN L a b t n (i + 1) = scanN L a b t n i ++ [(k, v)]) := by
              show _ = _
              have e : itemV L a b t n k = some (k, v) := hitem
              rw [HNX, e]; simp
            have CG : Hid (∀ u, Below w.heap.size w u → Calls Tryz.prog 54 #[.pointer (some ⟨p, 0, none⟩), kv k, .agg #[.int .i64 t, .int .u8 n]] u fun e w' => e = .returned (.tuple #[.string (strOfNums v), .bool true]) ∧ Below u.heap.size u w') := CG0
            have HFL : Hid ((scanN L a b t n i).flatMap encI ++ encI (k, v) = (scanN L a b t n (i + 1)).flatMap encI) := by show _ = _; rw [HX.out, List.flatMap_append]; simp
            clear hitem HNX hwi hgv CG0
            have hmi : ¬ most ≤ (m : Int) := hbr
            go_wp2_with (first | (have hgo := HKAT.out; clear hgo; refine wpList_load_keyD 22 (by rfl) (by rfl) _ (by rfl) kb (ko + i * 16) (by rfl) k KK.out HKAT.out ?_) | (have hgo := HMI.out; clear hgo; refine wpList_store_keyU (by rfl) _ _ (by rfl) wr.heap.size 0 zeroK k (by rfl) (by rfl) KK.out HMI.out ?_; intro u2 hu; rw [← hu] at HK1 HB2; have HS2 : Hid (ScR w w1 u2 a b t n (.slice la m lc) (scanN L a b t n i)) := HS.out.past HB2.out; clear hu HMI HKAT) | (have hgo := HS2.out; clear hgo; refine wpList_load_keyD 27 (by rfl) (by rfl) _ (by rfl) wr.heap.size 0 (by rfl) k KK.out HK1.out.lies ?_) | (have hgo := HS2.out; clear hgo; refine wpList_load_keyD 28 (by rfl) (by rfl) _ (by rfl) w.heap.size 0 (by rfl) a KA.out HS2.out.here.a ?_) | (have hgo := HS2.out; clear hgo; refine wpList_load_keyD 29 (by rfl) (by rfl) _ (by rfl) (w.heap.size + 1) 0 (by rfl) b KB.out HS2.out.here.b ?_) | (go_at_call 107; refine (CW.out _).mono ?_; rintro e w3 ⟨rfl, hb3⟩; have HS3 : Hid (ScR w w1 w3 a b t n (.slice la m lc) (scanN L a b t n i)) := HS2.out.past hb3; have HK3 : Hid (KeyAt w3 wr.heap.size 0 k) := HK1.out.lies.past hb3; have x0 := HS3.out.here.c0; have x1 := HS3.out.here.c1; clear hb3 HS2) | (have hgo := HS3.out; clear hgo; refine wpList_load_keyD 34 (by rfl) (by rfl) _ (by rfl) wr.heap.size 0 (by rfl) k KK.out HK3.out ?_) | (go_at_call 54; refine (CG.out _ HS3.out.here.below).mono ?_; rintro e w4 ⟨rfl, hb4⟩; have HS4 : Hid (ScR w w1 w4 a b t n (.slice la m lc) (scanN L a b t n i)) := HS3.out.past hb4; have HK4 : Hid (KeyAt w4 wr.heap.size 0 k) := HK3.out.past hb4; clear hb4 x0 x1 HS3) | (have hgo := HS4.out; clear hgo; refine wpList_load_keyD 41 (by rfl) (by rfl) _ (by rfl) wr.heap.size 0 (by rfl) k KK.out HK4.out ?_) | (have hgo := HS4.out; clear hgo; refine wpList_build_itm 43 (by rfl) (by rfl) (.tmp 41) (.tmp 42) (by rfl) k v KK.out (by rfl) (by rfl) ?_) | (have hgo := HS4.out; clear hgo; refine wpList_build_itms 44 (by rfl) (by rfl) (.tmp 43) (by rfl) (k, v) KK.out (by rfl) ?_) | (have hgo := HS4.out; clear hgo; refine wpList_own itmEl (w0 := w1) rfl (.tmp 40) (.tmp 44) rfl _ m ((scanN L a b t n i).flatMap encI) (encI (k, v)) rfl (by rw [HM.out] at HS4 ⊢; exact HS4.out.own.alloc _) _ _ _ rfl (by rw [encI_len KK.out]) (lies_made _ _ _) (encI_one (k, v)) (fun h => by cases h) (m + 1) rfl (by omega) _ HFL.out ?_; intro a6 c6 w6 h6 hg6; have O6 : Hid (OwnB 132 17 w1 w6 (.slice a6 (m + 1) c6) (m + 1) ((scanN L a b t n (i + 1)).flatMap encI)) := h6; clear h6 hg6))
            have HM2 : Hid (m + 1 = (scanN L a b t n (i + 1)).length) := by show _ = _; rw [HX.out, List.length_append, ← HM.out]; rfl
            have h201 := HLEN.out (i + 1)
            rw [← HM2.out] at h201
            go_roundw
            case rel => exact ⟨i + 1, m + 1, a6, c6, by omega, by go_num, rfl, h201, HM2, by show ((m + 1 : Nat) : Int) ≤ max most 0; omega, ⟨HB1.out, by rw [← HM2.out]; exact O6.out⟩⟩
            case measure => simp [intOf]; omega
    · obtain rfl : i = N := by omega
      have HX : Hid (scanN L a b t n i = R) := HALL.out (by rw [← HM.out]; exact HMX.out)
      go_wp2
      go_ret
      exact HEND.out _ _ _ _ HS.out HX.out
theorem sscan_any (p : Nat) (L : List Ver) (X : Foot) (a b : List Int) (ha : Ky a) (hb : Ky b) (t n most : Int) (hmo : -9223372036854775808 ≤ most ∧ most ≤ 9223372036854775807) (w : World) (h : StD w p L X) :
    Calls Tryz.prog 57 #[.pointer (some ⟨p, 0, none⟩), kv a, kv b, .agg #[.int .i64 t, .int .u8 n], .int .i64 most] w fun e w' => (∃ a' c', e = .returned (.slice a' ((scanV L a b t n).take most.toNat).length c') ∧ ItmsAt w' a' ((scanV L a b t n).take most.toNat) ∧ ((scanV L a b t n).take most.toNat).length ≤ c') ∧ Below w.heap.size w w' :=
  (sscan_own p L X a b ha hb t n most hmo w h).mono fun e w' ⟨⟨a', c', h1, h2, h3, _⟩, h4⟩ => ⟨⟨a', c', h1, h2, h3⟩, h4⟩
end Go.Proofs.YtileidbdmpeciaaGreat

namespace Go.Proofs.YtileidbdmpeciaaGreat
open Go.RowKit
set_option linter.unusedVariables false

/-- An entry of an answer, in every world behind. -/
theorem AllOf.open {u : World} {B : Nat} {a : Option Addr} {N c : Nat} {L : List EntM} {E : List Ent} (h : AllOf u B (.slice a N c) L E) : N = L.length ∧ N ≤ c ∧ ∀ i y, L[i]? = some y → ∃ g, a = some ⟨g, 0, none⟩ ∧ Hid (∀ v, Below u.heap.size u v → EntAt v g (i * 6) y ∧ EntW v y) := by
  have hr := h.row
  have hN : N = L.length ∧ N ≤ c := by
    rcases hr.2 with ⟨e1, e2⟩ | ⟨g, cap, cur, e1, _, _, e5, _⟩
    · injection e1 with x1 x2 x3
      omega
    · injection e1 with x1 x2 x3
      omega
  refine ⟨hN.1, hN.2, fun i y hy => ?_⟩
  rcases hr.2 with ⟨e1, e2⟩ | ⟨g, cap, cur, e1, hg, hh, e5, _⟩
  · rw [List.eq_nil_of_length_eq_zero e2] at hy
    simp at hy
  · injection e1 with x1 x2 x3
    subst x1
    have hr2 := hr
    rw [hN.1] at hr2
    refine ⟨g, rfl, fun v hv => ⟨⟨?_⟩, ((h.own y (List.mem_of_getElem? hy)).past hv).ent⟩⟩
    have hl := ((own_lies hr2).el (size := 6) (fun z _ => encE_len z) hy).past hv
    rwa [Nat.zero_add] at hl
end Go.Proofs.YtileidbdmpeciaaGreat

namespace Go.Proofs.YtileidbdmpeciaaGreat
open Go.RowKit
set_option linter.unusedVariables false
set_option linter.unusedSimpArgs false

set_option maxHeartbeats 2000000 in
/-- Is a write's key within? -/
theorem pbw_any (W : Wrt) (hW : WrtOk W) (a b : List Int) (ha : Ky a) (hb : Ky b) (ba bb : Nat) (w : World) (h1 : KeyAt w ba 0 a) (h2 : KeyAt w bb 0 b) :
    Calls Tryz.prog 106 #[wv W, .pointer (some ⟨ba, 0, none⟩), .pointer (some ⟨bb, 0, none⟩)] w fun e w' => e = .returned (.bool (withinK W.k a b)) ∧ Below w.heap.size w w' := by
  obtain ⟨C, hC⟩ : ∃ C, C = encW W := ⟨_, rfl⟩
  obtain ⟨w1, hw1⟩ : ∃ u, u = w.alloc (.cells C.toArray 80) := ⟨_, rfl⟩
  have hmine : WrtMine w1 w.heap.size 0 W := by rw [hw1, hC]; exact WrtMine.made w 80 W hW.key
  have HB1 : Hid (Below w.heap.size w w1) := by rw [hw1]; exact (Below.refl _ _).alloc (Nat.le_refl _) _
  have F1 : Hid (KeyAt w1 w.heap.size 0 W.k) := hmine.keyat
  have F2 : Hid (KeyAt w1 ba 0 a) := h1.past HB1.out
  have F3 : Hid (KeyAt w1 bb 0 b) := h2.past HB1.out
  have K1 : Hid (Ky W.k) := hW.key
  have K2 : Hid (Ky a) := ha
  have K3 : Hid (Ky b) := hb
  obtain ⟨R, hR⟩ : ∃ R, R = withinK W.k a b := ⟨_, rfl⟩
  have CW : Hid (∀ u, Calls Tryz.prog 107 #[kv W.k, kv a, kv b] u fun e w' => e = .returned (.bool R) ∧ Below u.heap.size u w') := fun u => by rw [hR]; exact kwithin_any W.k a b hW.key ha hb u
  have HW1 : Hid (w.alloc (.cells C.toArray 80) = w1) := hw1.symm
  show Calls Tryz.prog 106 #[.agg (encW W).toArray, .pointer (some ⟨ba, 0, none⟩), .pointer (some ⟨bb, 0, none⟩)] w _
  rw [← hC, ← hR]
  generalize W.k = j at *
  clear hmine hw1 hC hW ha hb h1 h2 hR
  go_enter Tryz.func106, Tryz.ntmps106
  go_wp2_with (first | ((with_reducible show wpList _ _ _ (Oper.mk (some 6) _ _ _ _ _ :: _) _ _); rw [HW1.out]; refine wpList_load_keyD 6 (by rfl) (by rfl) _ (by rfl) w.heap.size 0 (by rfl) j K1.out F1.out ?_) | ((with_reducible show wpList _ _ _ (Oper.mk (some 7) _ _ _ _ _ :: _) _ _); refine wpList_load_keyD 7 (by rfl) (by rfl) _ (by rfl) ba 0 (by rfl) a K2.out F2.out ?_) | ((with_reducible show wpList _ _ _ (Oper.mk (some 8) _ _ _ _ _ :: _) _ _); refine wpList_load_keyD 8 (by rfl) (by rfl) _ (by rfl) bb 0 (by rfl) b K3.out F3.out ?_) | (go_at_call 107; refine (CW.out _).mono ?_; rintro e w2 ⟨rfl, hb2⟩; have HB2 : Hid (Below w.heap.size w w2) := HB1.out.trans (hb2.mono HB1.out.size); clear hb2))
  go_ret
  exact ⟨rfl, HB2.out⟩
/-- Does an entry block a stretch? -/
def blkE (a b : List Int) (t n : Int) (e : Ent) : Bool := !decide (0 < cmpS e.t e.n t n) && e.l.any (fun W => withinK W.k a b)
theorem blk_range (T : List Ent) (a b : List Int) (t n : Int) : rangeB T a b t n = T.any (blkE a b t n) := by
  unfold rangeB
  congr 1
  funext e
  unfold blkE
  by_cases h : 0 < cmpS e.t e.n t n
  · have h2 : decide (cmpS e.t e.n t n ≤ 0) = false := decide_eq_false (by omega)
    simp [h, h2]
  · have h2 : decide (cmpS e.t e.n t n ≤ 0) = true := decide_eq_true (by omega)
    simp [h, h2]
set_option maxHeartbeats 4000000 in
theorem pbe_any (x : EntM) (a b : List Int) (ha : Ky a) (hb : Ky b) (t n : Int) (bt ba bb : Nat) (w : World) (hx : EntW w x) (s0 : w.cell? ⟨bt, 0, none⟩ = some (.int .i64 t)) (s1 : w.cell? ⟨bt, 1, none⟩ = some (.int .u8 n)) (h1 : KeyAt w ba 0 a) (h2 : KeyAt w bb 0 b) :
    Calls Tryz.prog 105 #[ev x, .pointer (some ⟨bt, 0, none⟩), .pointer (some ⟨ba, 0, none⟩), .pointer (some ⟨bb, 0, none⟩)] w fun e w' => e = .returned (.bool (blkE a b t n x.e)) ∧ Below w.heap.size w w' := by
  obtain ⟨w1, hw1⟩ : ∃ u, u = w.alloc (.cells (encE x).toArray 31) := ⟨_, rfl⟩
  have HB1 : Hid (Below w.heap.size w w1) := by rw [hw1]; exact (Below.refl _ _).alloc (Nat.le_refl _) _
  have CB : Hid (∀ u, Below w1.heap.size w1 u → Calls Tryz.prog 83 #[.slice x.a x.e.l.length x.c, .func (.func 106) #[] #[.pointer (some ⟨ba, 0, none⟩), .pointer (some ⟨bb, 0, none⟩)]] u fun e w' => e = .returned (.bool (x.e.l.any (fun W => withinK W.k a b))) ∧ Below u.heap.size u w') := fun u hu => by
    have hb2 := HB1.out.trans (hu.mono HB1.out.size)
    exact pacb_any x.a x.e.l.length x.c x.e.l (fun W => withinK W.k a b) ba bb u rfl hx.room hx.few (hx.wr.past hb2) (fun W hW v hv => pbw_any W (hx.wr.oks W hW) a b ha hb ba bb v ((h1.past hb2).past hv) ((h2.past hb2).past hv))
  obtain ⟨c, hc⟩ : ∃ c, c = cmpS x.e.t x.e.n t n := ⟨_, rfl⟩
  have CC : Hid (∀ u, Calls Tryz.prog 49 #[.agg #[.int .i64 x.e.t, .int .u8 x.e.n], .agg #[.int .i64 t, .int .u8 n]] u fun e w' => e = .returned (.int .i64 c) ∧ Below u.heap.size u w') := fun u => by rw [hc]; exact scmp_any x.e.t x.e.n t n u
  obtain ⟨A, hA⟩ : ∃ A, A = x.e.l.any (fun W => withinK W.k a b) := ⟨_, rfl⟩
  obtain ⟨R, hR⟩ : ∃ R, R = blkE a b t n x.e := ⟨_, rfl⟩
  have HR : Hid (R = (!decide (0 < c) && A)) := by show _ = _; rw [hR, hc, hA]; rfl
  rw [← hA] at CB
  rw [← hR]
  have q0 : w1.cell? ⟨bt, 0, none⟩ = some (.int .i64 t) := (HB1.out.cell (p := ⟨bt, 0, none⟩) (cell_lt s0)).trans s0
  have q1 : w1.cell? ⟨bt, 1, none⟩ = some (.int .u8 n) := (HB1.out.cell (p := ⟨bt, 1, none⟩) (cell_lt s0)).trans s1
  show Calls Tryz.prog 105 #[.agg #[.int .i64 x.e.id, .int .i64 x.e.s, .int .u8 x.e.m, .int .i64 x.e.t, .int .u8 x.e.n, .slice x.a x.e.l.length x.c], .pointer (some ⟨bt, 0, none⟩), .pointer (some ⟨ba, 0, none⟩), .pointer (some ⟨bb, 0, none⟩)] w _
  have HW2 : Hid (w.alloc (.cells #[.int .i64 x.e.id, .int .i64 x.e.s, .int .u8 x.e.m, .int .i64 x.e.t, .int .u8 x.e.n, .slice x.a x.e.l.length x.c] 31) = w1) := hw1.symm
  rw [show w1 = w.alloc (.cells #[.int .i64 x.e.id, .int .i64 x.e.s, .int .u8 x.e.m, .int .i64 x.e.t, .int .u8 x.e.n, .slice x.a x.e.l.length x.c] 31) from hw1] at q0 q1
  generalize x.e.l.length = L1 at *
  generalize x.e.id = i1 at *
  generalize x.e.s = z1 at *
  generalize x.e.m = m1 at *
  generalize x.e.t = t1 at *
  generalize x.e.n = n1 at *
  generalize x.a = xa at *
  generalize x.c = xc at *
  clear hw1 hx hc hA hR h1 h2 ha hb
  by_cases hgt : 0 < c
  · have HF : Hid (R = false) := by show _ = _; rw [HR.out, decide_eq_true hgt]; rfl
    go_enter Tryz.func105, Tryz.ntmps105
    go_wp2_with (first | (go_at_call 49; refine (CC.out _).mono ?_; rintro e w2 ⟨rfl, hb2⟩; rw [HW2.out] at hb2; have B2 : Hid (Below w.heap.size w w2) := HB1.out.trans (hb2.mono HB1.out.size); clear hb2))
    go_ret
    exact ⟨by rw [HF.out]; rfl, B2.out⟩
  · have HF : Hid (R = A) := by show _ = _; rw [HR.out, decide_eq_false hgt]; rfl
    go_enter Tryz.func105, Tryz.ntmps105
    go_wp2_with (first | (have hgo := B2.out; clear hgo; go_at_call 83; refine (CB.out _ B2.out).mono ?_; rintro e w3 ⟨rfl, hb3⟩; have B3 : Hid (Below w.heap.size w w3) := HB1.out.trans ((B2.out.trans (hb3.mono B2.out.size)).mono HB1.out.size); clear hb3) | (go_at_call 49; refine (CC.out _).mono ?_; rintro e w2 ⟨rfl, hb2⟩; have z5 := ent5 hb2; rw [HW2.out] at hb2; have B2 : Hid (Below w1.heap.size w1 w2) := hb2; clear hb2))
    go_ret
    exact ⟨by rw [HF.out]; rfl, B3.out⟩
set_option maxHeartbeats 4000000 in
theorem pblk_any {p s tb m : Nat} {P : PSt} {M : List EntM} {XS XT : Foot} (a b : List Int) (ha : Ky a) (hb : Ky b) (t n : Int) (w : World) (h : ParI w p s tb m P M XS XT) :
    Calls Tryz.prog 56 #[.pointer (some ⟨p, 0, none⟩), kv a, kv b, .agg #[.int .i64 t, .int .u8 n]] w fun e w' => e = .returned (.bool (rangeB P.T a b t n)) ∧ Below w.heap.size w w' := by
  obtain ⟨W0, hW0⟩ : ∃ u, u = ((w.alloc (.cells (kcs a) 38)).alloc (.cells (kcs b) 38)).alloc (.cells #[.int .i64 t, .int .u8 n] 28) := ⟨_, rfl⟩
  have HB0 : Hid (ScB w W0 a b t n) := by rw [hW0]; exact ScB.made w ha hb t n 38 28
  have HW0 : Hid (((w.alloc (.cells (kcs a) 38)).alloc (.cells (kcs b) 38)).alloc (.cells #[.int .i64 t, .int .u8 n] 28) = W0) := hW0.symm
  have FBX : Hid (∀ u, Below W0.heap.size W0 u → ScB w u a b t n) := fun u hu => HB0.out.past hu
  obtain ⟨N, hN⟩ : ∃ N, N = M.length := ⟨_, rfl⟩
  have hfew := h.tab.few
  rw [← hN] at hfew
  have q1 : (((w.alloc (.cells (kcs a) 38)).alloc (.cells (kcs b) 38)).alloc (.cells #[.int .i64 t, .int .u8 n] 28)).cell? ⟨p, 1, none⟩ = some (.pointer (some ⟨tb, 0, none⟩)) := by rw [← hW0]; exact (h.past HB0.out.below).c1
  obtain ⟨R, hR⟩ : ∃ R, R = rangeB P.T a b t n := ⟨_, rfl⟩
  have CA : Hid (Calls Tryz.prog 59 #[.pointer (some ⟨tb, 0, none⟩)] W0 fun e w' => (∃ la lc, e = .returned (.slice la N lc) ∧ Hid (Calls Tryz.prog 104 #[.slice la N lc, .func (.func 105) #[] #[.pointer (some ⟨w.heap.size + 2, 0, none⟩), .pointer (some ⟨w.heap.size, 0, none⟩), .pointer (some ⟨w.heap.size + 1, 0, none⟩)]] w' fun e w'' => e = .returned (.bool R) ∧ Below w'.heap.size w' w'')) ∧ Below W0.heap.size W0 w') := by
    refine (pall_any tb M XT W0 (h.past HB0.out.below).tab).mono ?_
    rintro e w' ⟨⟨la, lc, L, rfl, hA⟩, hbl⟩
    obtain ⟨h1, h2, h3⟩ := hA.open
    refine ⟨⟨la, lc, by rw [hN], ?_⟩, hbl⟩
    have e1 : R = L.any (fun x => blkE a b t n x.e) := by
      rw [hR, blk_range, ← h.is, ← hA.is]
      unfold ents
      rw [List.any_map]
      rfl
    rw [e1, hN]
    exact pace_any la M.length lc L (fun x => blkE a b t n x.e) _ _ _ w' h1.symm h2 (by omega) (fun u hu i x hx => by
      obtain ⟨g, e, HG⟩ := h3 i x hx
      exact ⟨g, e, (HG.out u hu).1⟩) (fun x hx u hu => by
      obtain ⟨i, hi, rfl⟩ := List.mem_iff_getElem.1 hx
      obtain ⟨g, e, HG⟩ := h3 i _ (List.getElem?_eq_getElem hi)
      have hs := FBX.out u (hbl.trans (hu.mono hbl.size))
      exact pbe_any _ a b ha hb t n _ _ _ u (HG.out u hu).2 hs.c0 hs.c1 hs.a hs.b)
  rw [← hR]
  clear h hW0 hN hR ha hb
  go_enter Tryz.func56, Tryz.ntmps56
  go_wp2_with (first
    | (have hgo := C1.out; clear hgo; go_at_call 104; refine C1.out.mono ?_; rintro e w3 ⟨rfl, hb3⟩; have B3 : Hid (Below w.heap.size w w3) := HB0.out.below.trans ((B1.out.trans (hb3.mono B1.out.size)).mono HB0.out.below.size); clear hb3)
    | (go_at_call 59; rw [HW0.out]; refine CA.out.mono ?_; rintro e w1 ⟨⟨la, lc, rfl, C1⟩, hb1⟩; have B1 : Hid (Below W0.heap.size W0 w1) := hb1; clear hb1 CA))
  go_ret
  exact ⟨rfl, B3.out⟩
set_option maxHeartbeats 8000000 in
set_option maxRecDepth 4000 in
theorem pscan_any {p s tb m : Nat} {P : PSt} {M : List EntM} {XS XT : Foot} (a b : List Int) (ha : Ky a) (hb : Ky b) (t n now most : Int) (hmo : -9223372036854775808 ≤ most ∧ most ≤ 9223372036854775807) (w : World) (h : ParI w p s tb m P M XS XT) :
    Calls Tryz.prog 16 #[.pointer (some ⟨p, 0, none⟩), kv a, kv b, .agg #[.int .i64 t, .int .u8 n], .int .i64 now, .int .i64 most] w fun e w' => (∃ a' c', e = .returned (.tuple #[.slice a' (scanP P a b t n now most).2.length c', .int .i64 (scanP P a b t n now most).1]) ∧ ItmsAt w' a' (scanP P a b t n now most).2 ∧ (scanP P a b t n now most).2.length ≤ c') ∧ Below w.heap.size w w' := by
  have KA : Hid (Ky a) := ha
  have KB : Hid (Ky b) := hb
  obtain ⟨Z, hZ⟩ : ∃ Z, Z = scanP P a b t n now most := ⟨_, rfl⟩
  rw [← hZ]
  obtain ⟨W0, hW0⟩ : ∃ u, u = ((w.alloc (.cells (kcs a) 38)).alloc (.cells (kcs b) 38)).alloc (.cells #[.int .i64 t, .int .u8 n] 28) := ⟨_, rfl⟩
  have HB0 : Hid (ScB w W0 a b t n) := by rw [hW0]; exact ScB.made w ha hb t n 38 28
  have HW0 : Hid (((w.alloc (.cells (kcs a) 38)).alloc (.cells (kcs b) 38)).alloc (.cells #[.int .i64 t, .int .u8 n] 28) = W0) := hW0.symm
  have FBX : Hid (∀ u, Below W0.heap.size W0 u → ScB w u a b t n) := fun u hu => HB0.out.past hu
  have HQ : Hid (∀ u, Below W0.heap.size W0 u → Below w.heap.size w u ∧ u.cell? ⟨p, 0, none⟩ = some (.pointer (some ⟨s, 0, none⟩))) := fun u hu => by
    have hb2 : Below w.heap.size w u := HB0.out.below.trans (hu.mono HB0.out.below.size)
    exact ⟨hb2, (h.past hb2).c0⟩
  obtain ⟨gt, hgt⟩ : ∃ g, g = decide (okS t) := ⟨_, rfl⟩
  obtain ⟨rb, hrb⟩ : ∃ r, r = rangeB P.T a b t n := ⟨_, rfl⟩
  obtain ⟨G, hG⟩ : ∃ G, G = (scanV P.S a b t n).take most.toNat := ⟨_, rfl⟩
  obtain ⟨NG, hNG⟩ : ∃ NG, NG = G.length := ⟨_, rfl⟩
  have HZ : Hid (Z = if gt = false then (1, []) else if (decide (now < t) || rb) = true then (8, []) else (0, G)) := by
    show _ = _
    rw [hZ, hgt, hrb, hG]
    rfl
  have CGT : Hid (∀ u, Calls Tryz.prog 47 #[.agg #[.int .i64 t, .int .u8 n]] u fun e w' => e = .returned (.bool gt) ∧ Below u.heap.size u w') := fun u => by rw [hgt]; exact sgood_any t n u
  have CB : Hid (∀ u, Below w.heap.size w u → Calls Tryz.prog 56 #[.pointer (some ⟨p, 0, none⟩), kv a, kv b, .agg #[.int .i64 t, .int .u8 n]] u fun e w' => e = .returned (.bool rb) ∧ Below u.heap.size u w') := fun u hu => by rw [hrb]; exact pblk_any a b ha hb t n u (h.past hu)
  have CSC : Hid (∀ u, Below w.heap.size w u → Calls Tryz.prog 57 #[.pointer (some ⟨s, 0, none⟩), kv a, kv b, .agg #[.int .i64 t, .int .u8 n], .int .i64 most] u fun e w' => (∃ a' c', e = .returned (.slice a' NG c') ∧ ItmsAt w' a' G ∧ NG ≤ c') ∧ Below u.heap.size u w') := fun u hu => by rw [hNG, hG]; exact sscan_any s P.S XS a b ha hb t n most hmo u (h.past hu).sto
  have HNG : Hid (G.length = NG) := hNG.symm
  have HZ2 := HZ.out
  clear h hZ hW0 hgt hG hNG ha hb hmo hrb
  cases gt with
  | false =>
    have HF : Hid (Z = (1, [])) := by rw [if_pos rfl] at HZ2; exact HZ2
    clear HZ2
    go_enter Tryz.func16, Tryz.ntmps16
    go_wp2_with (first | (go_at_call 47; refine (CGT.out _).mono ?_; rintro e w1 ⟨rfl, hb⟩; rw [HW0.out] at hb; have H1 : Hid (Below W0.heap.size W0 w1) := hb; clear hb))
    go_ret2
    exact ⟨⟨none, 0, by rw [HF.out]; rfl, by rw [HF.out]; exact ⟨.inl rfl, fun x hx => by simp at hx⟩, by rw [HF.out]; exact Nat.zero_le _⟩, (HQ.out _ H1.out).1⟩
  | true =>
  rw [if_neg (by decide)] at HZ2
  by_cases hlt : now < t
  · have HF : Hid (Z = (8, [])) := by rw [if_pos (by simp [hlt])] at HZ2; exact HZ2
    have bl : decide (now < t) = true := decide_eq_true hlt
    clear HZ2
    go_enter Tryz.func16, Tryz.ntmps16
    go_wp2_with (first | (go_at_call 47; refine (CGT.out _).mono ?_; rintro e w1 ⟨rfl, hb⟩; rw [HW0.out] at hb; have H1 : Hid (Below W0.heap.size W0 w1) := hb; have s0 := (FBX.out w1 hb).c0; have s1 := (FBX.out w1 hb).c1; clear hb))
    go_ret2
    exact ⟨⟨none, 0, by rw [HF.out]; rfl, by rw [HF.out]; exact ⟨.inl rfl, fun x hx => by simp at hx⟩, by rw [HF.out]; exact Nat.zero_le _⟩, (HQ.out _ H1.out).1⟩
  · have bl : decide (now < t) = false := decide_eq_false hlt
    cases rb with
    | true =>
      have HF : Hid (Z = (8, [])) := by rw [if_pos (by simp)] at HZ2; exact HZ2
      clear HZ2 hlt
      go_enter Tryz.func16, Tryz.ntmps16
      go_wp2_with (first | ((with_reducible show wpList _ _ _ (Oper.mk (some 23) _ _ _ _ _ :: _) _ _); refine wpList_load_keyD 23 (by rfl) (by rfl) _ (by rfl) w.heap.size 0 (by rfl) a KA.out (FBX.out _ H1.out).a ?_) | ((with_reducible show wpList _ _ _ (Oper.mk (some 24) _ _ _ _ _ :: _) _ _); refine wpList_load_keyD 24 (by rfl) (by rfl) _ (by rfl) (w.heap.size + 1) 0 (by rfl) b KB.out (FBX.out _ H1.out).b ?_) | (have hgo := H1.out; clear hgo; go_at_call 56; refine (CB.out _ (HQ.out _ H1.out).1).mono ?_; rintro e w2 ⟨rfl, hb⟩; have H2 : Hid (Below W0.heap.size W0 w2) := H1.out.trans (hb.mono H1.out.size); clear hb) | (go_at_call 47; refine (CGT.out _).mono ?_; rintro e w1 ⟨rfl, hb⟩; rw [HW0.out] at hb; have H1 : Hid (Below W0.heap.size W0 w1) := hb; have s0 := (FBX.out w1 hb).c0; have s1 := (FBX.out w1 hb).c1; clear hb))
      go_ret2
      exact ⟨⟨none, 0, by rw [HF.out]; rfl, by rw [HF.out]; exact ⟨.inl rfl, fun x hx => by simp at hx⟩, by rw [HF.out]; exact Nat.zero_le _⟩, (HQ.out _ H2.out).1⟩
    | false =>
      have HF : Hid (Z = (0, G)) := by rw [if_neg (by simp [hlt])] at HZ2; exact HZ2
      clear HZ2 hlt
      go_enter Tryz.func16, Tryz.ntmps16
      go_wp2_with (first | ((with_reducible show wpList _ _ _ (Oper.mk (some 23) _ _ _ _ _ :: _) _ _); refine wpList_load_keyD 23 (by rfl) (by rfl) _ (by rfl) w.heap.size 0 (by rfl) a KA.out (FBX.out _ H1.out).a ?_) | ((with_reducible show wpList _ _ _ (Oper.mk (some 24) _ _ _ _ _ :: _) _ _); refine wpList_load_keyD 24 (by rfl) (by rfl) _ (by rfl) (w.heap.size + 1) 0 (by rfl) b KB.out (FBX.out _ H1.out).b ?_) | (have hgo := H1.out; clear hgo; go_at_call 56; refine (CB.out _ (HQ.out _ H1.out).1).mono ?_; rintro e w2 ⟨rfl, hb⟩; have H2 : Hid (Below W0.heap.size W0 w2) := H1.out.trans (hb.mono H1.out.size); clear hb) | (go_at_call 47; refine (CGT.out _).mono ?_; rintro e w1 ⟨rfl, hb⟩; rw [HW0.out] at hb; have H1 : Hid (Below W0.heap.size W0 w1) := hb; have s0 := (FBX.out w1 hb).c0; have s1 := (FBX.out w1 hb).c1; clear hb))
      have FW : Hid (∀ u, Below w2.heap.size w2 u → Below W0.heap.size W0 u) := fun u hu => H2.out.trans (hu.mono H2.out.size)
      have FA : Hid (∀ u, Below w2.heap.size w2 u → KeyAt u w.heap.size 0 a) := fun u hb => (FBX.out u (FW.out u hb)).a
      have FB : Hid (∀ u, Below w2.heap.size w2 u → KeyAt u (w.heap.size + 1) 0 b) := fun u hb => (FBX.out u (FW.out u hb)).b
      clear s0 s1
      refine wp_region_noPanic ?_
      refine wp_region_held_drew (S := fun u => Below w2.heap.size w2 u) (by kernel_rfl) ?_ (fun hHeld => ?_)
      · exact (Below.refl _ _).drew
      refine wpAnyH_take (i := 0) (v := ?_) rfl (by kernel_rfl) (by kernel_rfl) (by kernel_rfl) (fun _ _ _ h => h) (Or.inl ⟨by rfl, ?_⟩) hHeld ?_
      rotate_left
      · intro u hSu
        (go_simp) <;> (with_reducible rfl)
      change wpAnyH _ _ _ _ _ _ _ (Act.put _ (some 28) _) _
      simp only [Act.put, List.setIfInBounds_toArray, List.set_cons_zero, List.set_cons_succ]
      refine wpAnyH_take (i := 1) (v := ?_) rfl (by kernel_rfl) (by kernel_rfl) (by kernel_rfl) (fun _ _ _ h => h) (Or.inl ⟨by rfl, ?_⟩) hHeld ?_
      rotate_left
      · intro u hSu
        (go_simp) <;> (with_reducible rfl)
      change wpAnyH _ _ _ _ _ _ _ (Act.put _ (some 29) _) _
      simp only [Act.put, List.setIfInBounds_toArray, List.set_cons_zero, List.set_cons_succ]
      refine wpAnyH_take (i := 2) (v := ?_) rfl (by kernel_rfl) (by kernel_rfl) (by kernel_rfl) (fun _ _ _ h => h) (Or.inl ⟨by rfl, ?_⟩) hHeld ?_
      rotate_left
      · intro u hSu
        (go_simp) <;> (with_reducible rfl)
      change wpAnyH _ _ _ _ _ _ _ (Act.put _ (some 30) _) _
      simp only [Act.put, List.setIfInBounds_toArray, List.set_cons_zero, List.set_cons_succ]
      refine wpAnyH_take (i := 3) (v := ?_) rfl (by kernel_rfl) (by kernel_rfl) (by kernel_rfl) (fun _ _ _ h => h) (Or.inl ⟨by rfl, ?_⟩) hHeld ?_
      rotate_left
      · intro u hSu
        obtain ⟨_, r0⟩ := HQ.out u (FW.out u hSu)
        (go_simp) <;> (with_reducible rfl)
      change wpAnyH _ _ _ _ _ _ _ (Act.put _ (some 31) _) _
      simp only [Act.put, List.setIfInBounds_toArray, List.set_cons_zero, List.set_cons_succ]
      refine wpAnyH_take (i := 4) (v := kv a) rfl (by kernel_rfl) (by kernel_rfl) (by kernel_rfl) (fun _ _ _ h => h) (yieldsIf_load_mid (by rfl) _ _ rfl _ _ rfl (a.map (Value.int .u8)) _ (fun u hu => (FA.out u hu).range KA.out) Tryz.underlying38 rfl (info_keyl a KA.out)) hHeld ?_
      change wpAnyH _ _ _ _ _ _ _ (Act.put _ (some 32) _) _
      simp only [Act.put, List.setIfInBounds_toArray, List.set_cons_zero, List.set_cons_succ]
      refine wpAnyH_take (i := 5) (v := kv b) rfl (by kernel_rfl) (by kernel_rfl) (by kernel_rfl) (fun _ _ _ h => h) (yieldsIf_load_mid (by rfl) _ _ rfl _ _ rfl (b.map (Value.int .u8)) _ (fun u hu => (FB.out u hu).range KB.out) Tryz.underlying38 rfl (info_keyl b KB.out)) hHeld ?_
      change wpAnyH _ _ _ _ _ _ _ (Act.put _ (some 33) _) _
      simp only [Act.put, List.setIfInBounds_toArray, List.set_cons_zero, List.set_cons_succ]
      refine wpAnyH_take (i := 6) (v := ?_) rfl (by kernel_rfl) (by kernel_rfl) (by kernel_rfl) (fun _ _ _ h => h) (Or.inl ⟨by rfl, ?_⟩) hHeld ?_
      rotate_left
      · intro u hSu
        obtain ⟨_, _, _, s0, s1⟩ := FBX.out u (FW.out u hSu)
        (go_simp) <;> (with_reducible rfl)
      change wpAnyH _ _ _ _ _ _ _ (Act.put _ (some 34) _) _
      simp only [Act.put, List.setIfInBounds_toArray, List.set_cons_zero, List.set_cons_succ]
      refine wpAnyH_take (i := 7) (v := ?_) rfl (by kernel_rfl) (by kernel_rfl) (by kernel_rfl) (fun _ _ _ h => h) (Or.inl ⟨by rfl, ?_⟩) hHeld ?_
      rotate_left
      · intro u hSu
        (go_simp) <;> (with_reducible rfl)
      change wpAnyH _ _ _ _ _ _ _ (Act.put _ (some 35) _) _
      simp only [Act.put, List.setIfInBounds_toArray, List.set_cons_zero, List.set_cons_succ]
      refine wpAnyH_ready (rs := [8]) (by kernel_rfl) (by simp) ?_
      refine AllReadyH.cons rfl (fun K hK => ?_) AllReadyH.nil
      go_simp
      go_at_call 57
      refine (CSC.out _ (HQ.out _ (FW.out _ hHeld)).1).mono ?_
      rintro e w4 ⟨⟨a4, c4, rfl, hi4, hc4⟩, hb⟩
      have B4 : Hid (Below w2.heap.size w2 w4) := hHeld.trans (hb.mono hHeld.size); have I4 : Hid (ItmsAt w4 a4 G ∧ NG ≤ c4) := ⟨hi4, hc4⟩; clear hb hi4 hc4
      refine hK.out _ _ ?_ (fun hHeld2 => ?_)
      · exact B4.out
      clear hK K hHeld
      have hHeld := hHeld2
      clear hHeld2
      refine wpAnyH_take (i := 9) (v := ?_) rfl (by kernel_rfl) (by kernel_rfl) (by kernel_rfl) (fun _ _ _ h => h) (Or.inl ⟨by rfl, ?_⟩) hHeld ?_
      rotate_left
      · intro u hSu
        (go_simp) <;> (with_reducible rfl)
      change wpAnyH _ _ _ _ _ _ _ (Act.put _ (some 12) _) _
      simp only [Act.put, List.setIfInBounds_toArray, List.set_cons_zero, List.set_cons_succ]
      refine wpAnyH_take (i := 10) (v := ?_) rfl (by kernel_rfl) (by kernel_rfl) (by kernel_rfl) (fun _ _ _ h => h) (Or.inl ⟨by rfl, ?_⟩) hHeld ?_
      rotate_left
      · intro u hSu
        (go_simp) <;> (with_reducible rfl)
      change wpAnyH _ _ _ _ _ _ _ (Act.put _ (some 13) _) _
      simp only [Act.put, List.setIfInBounds_toArray, List.set_cons_zero, List.set_cons_succ]
      refine wpAnyH_done (by kernel_rfl) ?_ _
      refine NoPanic.normal ?_
      go_wp2
      go_ret2
      exact ⟨⟨a4, c4, by rw [HF.out, ← HNG.out]; rfl, by rw [HF.out]; exact I4.out.1, by rw [HF.out]; show G.length ≤ c4; rw [HNG.out]; exact I4.out.2⟩, (HQ.out _ (FW.out _ B4.out)).1⟩
end Go.Proofs.YtileidbdmpeciaaGreat

namespace Go.Proofs.YtileidbdmpeciaaGreat
set_option linter.unusedVariables false
set_option linter.unusedSimpArgs false

/-! ### What is prepared can be committed -/
theorem clash_stamp {S : List Ver} (h : OrdK S) {V : Ver} (hc : clashV S V = true) : ∃ X ∈ S, X.k = V.k ∧ X.t = V.t ∧ X.n = V.n := by
  unfold clashV at hc
  cases e : (chainV S V.k)[putR S V]? with
  | none => rw [e] at hc; cases hc
  | some X =>
    rw [e] at hc
    have h1 : X.t = V.t ∧ X.n = V.n := of_decide_eq_true hc
    obtain ⟨h2, h3⟩ := (chain_mem h).1 (List.mem_of_getElem? e)
    exact ⟨X, h2, h3, h1.1, h1.2⟩
theorem PstK.ready {P : PSt} (h : PstK P) {e : Ent} (he : e ∈ P.T) {t n : Int} (ht : okS t) (hc : ¬ cmpS t n e.t e.n < 0) : applyV P.S t n e.l = (0, putsW t n e.l P.S) := by
  have ho := h.sto.sto.ord
  have hg := h.tab.good e he
  unfold goodE at hg
  simp only [Bool.and_eq_true, decide_eq_true_eq] at hg
  have h1 : ltS e.s e.m e.t e.n := cmp_pos.1 hg.1.2
  have h2 : ltS e.s e.m t n := by
    have : ¬ ltS t n e.t e.n := fun q => hc (cmp_neg.2 q)
    unfold ltS at *
    omega
  have hw : anyWr P.S t n e.l = false := by
    unfold anyWr
    rw [List.any_eq_false]
    intro W hW hcl
    obtain ⟨X, x1, x2, x3, x4⟩ := clash_stamp ho hcl
    have := h.old e he W hW X x1 x2
    rw [x3, x4] at this
    exact this h2
  have hf : anyFu P.S e.l = false := by
    unfold anyFu
    rw [List.any_eq_false]
    intro W hW hcl
    have := of_decide_eq_true hcl
    have := h.room e he W hW
    omega
  have hm : (decide (okS t) && mayW e.l 1) = true := by rw [decide_eq_true ht, hg.2]; rfl
  have hpw := (may_w (n := n) ht hg.2).2.1
  have hk : (keysV P.S).length + newW P.S e.l ≤ 200 := by
    obtain ⟨U, u1, u2, u3⟩ := h.keys
    have hl : (keysV P.S ++ (e.l.filter (fun W => !decide (W.k ∈ keysV P.S))).map (fun W => W.k)).length ≤ U.length := by
      refine len_le_of_sub (List.nodup_append.2 ⟨keys_nodup ho, ?_, fun a ha b hb => ?_⟩) (fun k hk => ?_)
      · unfold List.Nodup
        rw [List.pairwise_map]
        exact hpw.filter _
      · obtain ⟨W, hW, rfl⟩ := List.mem_map.1 hb
        have := (List.mem_filter.1 hW).2
        intro e2
        subst e2
        simp at this
        exact this ha
      · rcases List.mem_append.1 hk with q | q
        · exact u1 k q
        · obtain ⟨W, hW, rfl⟩ := List.mem_map.1 q
          exact u2 _ (List.mem_flatMap.2 ⟨e, he, List.mem_map.2 ⟨W, (List.mem_filter.1 hW).1, rfl⟩⟩)
    rw [List.length_append, List.length_map] at hl
    unfold newW
    omega
  rw [apply_is ho, hm, if_neg (by decide), hw, if_neg (by decide), hf, Bool.false_or, decide_eq_false (by omega), if_neg (by decide)]
theorem has_of {T : List Ent} (h : TabK T) {e : Ent} (he : e ∈ T) : hasT T e.id = some e := by
  unfold hasT
  cases hf : T.find? (fun x => decide (x.id = e.id)) with
  | none => exact absurd (by simp) (List.find?_eq_none.1 hf e he)
  | some x =>
    have hx := List.mem_of_find?_eq_some hf
    have hid : x.id = e.id := of_decide_eq_true (List.find?_some (p := fun x : Ent => decide (x.id = e.id)) hf)
    obtain ⟨i, hi, rfl⟩ := List.mem_iff_getElem.1 hx
    obtain ⟨j, hj, rfl⟩ := List.mem_iff_getElem.1 he
    rcases Nat.lt_trichotomy i j with hij | hij | hij
    · have := List.pairwise_iff_getElem.1 h.up i j hi hj hij; omega
    · subst hij; rfl
    · have := List.pairwise_iff_getElem.1 h.up j i hj hi hij; omega
theorem PstK.one {P : PSt} (h : PstK P) {e : Ent} (he : e ∈ P.T) : stateP P e.id = 1 := by
  unfold stateP
  rw [h.opn e he, has_of h.tab he]
  rfl
theorem PstK.commits {P : PSt} (h : PstK P) {e : Ent} (he : e ∈ P.T) {t n : Int} (ht : okS t) (hc : ¬ cmpS t n e.t e.n < 0) : commitP P e.id t n = (0, ⟨putsW t n e.l P.S, dropT P.T e.id, P.O ++ [(e.id, 2)]⟩) := by
  unfold commitP
  have h1 := h.one he
  rw [decide_eq_true ht, if_neg (by decide), h1, if_neg (by decide), if_neg (by decide), has_of h.tab he]
  simp only
  rw [if_neg hc, h.ready he ht hc]
  simp
/-- What was committed is read at its stamp. -/
theorem PstK.reads {P : PSt} (h : PstK P) {e : Ent} (he : e ∈ P.T) {t n : Int} (ht : okS t) (hc : ¬ cmpS t n e.t e.n < 0) {W : Wrt} (hW : W ∈ e.l) : readP (commitP P e.id t n).2 W.k t n t = (0, if W.g = true then none else some W.v) ∧ (W.g = true → W.v = []) ∧ stateP (commitP P e.id t n).2 e.id = 2 := by
  have hg := h.tab.good e he
  unfold goodE at hg
  simp only [Bool.and_eq_true] at hg
  have hgk := (may_w (n := n) ht hg.2).2.2.1 W hW
  have hap := h.ready he ht hc
  have h0 : (applyV P.S t n e.l).1 = 0 := by rw [hap]
  obtain ⟨e1, e2, e3, e4, e5, _⟩ := apply_ok h0
  obtain ⟨_, hp, _⟩ := may_w (n := n) e4 e5
  have hrun := run_here e.l P.S h.sto.sto.ord e2 e3 hp W hW
  rw [← e1, hap] at hrun
  rw [h.commits he ht hc]
  refine ⟨?_, ?_, ?_⟩
  · unfold readP
    rw [hgk, decide_eq_true ht, if_neg (by decide)]
    have hb : blocksT (dropT P.T e.id) W.k t n = none := by
      unfold blocksT
      cases hh : holdT (dropT P.T e.id) W.k with
      | none => rfl
      | some x =>
        have hx := mem_drop_.1 (List.mem_of_find?_eq_some hh)
        have hk : hasK x W.k = true := List.find?_some (p := fun y : Ent => hasK y W.k) hh
        have q1 := h.tab.holder hx.1 hk
        rw [h.tab.holder he (hasK_of hW)] at q1
        injection q1 with q1
        exact absurd (by rw [q1]) hx.2
    rw [hb, if_neg (by simp)]
    congr 1
    unfold getV
    rw [hrun]
    rfl
  · intro hgn
    unfold mayW at e5
    simp only [Bool.and_eq_true, List.all_eq_true] at e5
    have := (e5.1.2 W hW).2
    rw [hgn] at this
    simpa using this
  · unfold stateP
    rw [over_app, h.opn e he]
    simp
/-! ### What was read stays -/
/-- Whoever reads k at t.n waits for nobody. -/
def freeP (T : List Ent) (k : List Int) (t n : Int) : Prop := ∀ e ∈ T, hasK e k = true → 0 < cmpS e.t e.n t n
/-! ### What is over is over -/
theorem over_none {P : PSt} (h : PstK P) {id : Int} (h2 : stateP P id ≠ 2) (h3 : stateP P id ≠ 3) : overP P.O id = none := by
  cases e : overP P.O id with
  | none => rfl
  | some y =>
    unfold stateP at h2 h3
    rw [e] at h2 h3
    unfold overP at e
    cases e2 : P.O.find? (fun z => decide (z.1 = id)) with
    | none => rw [e2] at e; cases e
    | some z =>
      rw [e2] at e
      injection e with e
      have e3 : z.2 = y := e
      have := h.how z (List.mem_of_find?_eq_some e2)
      have h2' : y ≠ 2 := h2
      have h3' : y ≠ 3 := h3
      omega
end Go.Proofs.YtileidbdmpeciaaGreat

