/-
  Versions of the landed chains that are loaded, stored and answered whole; what New, Len, All, good and last answer.
  What last, At, Newest and Since of the landed chains answer.
  What Trim of the landed chains answers and leaves.
-/
import Derived.Test.YtileidbdmpeciaaGreatAu114
import Derived.Test.YtileidbdmpeciaaGreatChainIns
import Derived.Test.YtileidbdmpeciaaGreatAu93
import Derived.Deep.Onto
namespace Go.Proofs.YtileidbdmpeciaaGreat
open Go.RowKit
set_option linter.unusedVariables false

theorem info_cver : (Tryz.prog.info? 136).map (·.size) = some 4 := by kernel_rfl
/-- One version in a block of the call's own. -/
structure CMine (w : World) (b : Nat) (V : Ver) : Prop where
  at_ : CVerAt w b 0 V
  free : ∀ i, i < 4 → w.frozen? ⟨b, i, none⟩ = false
theorem CVerAt.range {w : World} {b o : Nat} {V : Ver} (h : CVerAt w b o V) : w.rangeAt b o (encC V) := fun j v hv => by
  match j, hv with
  | 0, hv => simp [encC] at hv; rw [← hv]; exact h.c0
  | 1, hv => simp [encC] at hv; rw [← hv]; exact h.c1
  | 2, hv => simp [encC] at hv; rw [← hv]; exact h.c2
  | 3, hv => simp [encC] at hv; rw [← hv]; exact h.c3
  | j + 4, hv => simp [encC] at hv
theorem cver_of_range {w : World} {b : Nat} {V : Ver} (h : w.rangeAt b 0 (encC V)) : CVerAt w b 0 V := by
  refine ⟨?_, ?_, ?_, ?_⟩
  · exact h 0 _ rfl
  · exact h 1 _ rfl
  · exact h 2 _ rfl
  · exact h 3 _ rfl
theorem CMine.made (w : World) (T : TypeId) (V : Ver) : CMine (w.alloc (.cells (encC V).toArray T)) w.heap.size V :=
  ⟨cver_of_range (lies_made w (encC V).toArray T).range, fun i hi => World.frozen?_alloc_new _ _ _ _⟩
theorem CMine.past {w w' : World} {b : Nat} {V : Ver} (h : CMine w b V) (hb : Below w.heap.size w w') : CMine w' b V :=
  ⟨h.at_.past hb, fun i hi => by rw [hb.frozen (p := ⟨b, i, none⟩) h.at_.lt]; exact h.free i hi⟩
theorem CMine.there {w : World} {b : Nat} {V : Ver} (h : CMine w b V) : w.there b 0 4 := fun j hj => by
  obtain ⟨u, hu⟩ : ∃ u, (encC V)[j]? = some u := ⟨_, List.getElem?_eq_getElem (by rw [encC_len]; exact hj)⟩
  exact ⟨by rw [h.at_.range j u hu]; rfl, by rw [Nat.zero_add]; exact h.free j hj⟩
theorem CMine.store {w : World} {b : Nat} {V : Ver} (V' : Ver) (h : CMine w b V) : CMine (w.setCells b 0 (encC V')) b V' :=
  ⟨cver_of_range (World.rangeAt_setCells_same w b 0 (encC V') h.there), fun i hi => by rw [World.frozen?_setCells]; exact h.free i hi⟩
theorem wpList_load_cver (d : Tmp) {ops : Array Oper} {rest : List Oper} {op : Oper} {a : Act} {w : World} {Q : Exit → Act → World → Prop} (hd : op.dst = some d) (hw : Region.wanted op (yielded ops a.tmps) = true) (x : Operand) (ho : op.op = .load 136 x)
    (b o : Nat) (hx : a.eval x = .pointer (some ⟨b, o, none⟩)) (V : Ver) (hat : CVerAt w b o V)
    (h : wpList Tryz.prog ops Q rest (a.put op.dst (cvv V)) w) : wpList Tryz.prog ops Q (op :: rest) a w :=
  wpList_step fun K hK => by
    rw [if_pos hw]
    exact wp_load_mid 136 x ho b o hx (encC V) _ hat.range Tryz.underlying136 rfl (by rw [info_cver, encC_len]) (hK _ _ h)
theorem wpList_store_cver (d : Operand) {ops : Array Oper} {rest : List Oper} {op : Oper} {a : Act} {w : World} {Q : Exit → Act → World → Prop} (hgd : op.guard = none) (y : Operand) (ho : op.op = .store 136 d y)
    (b : Nat) (V V' : Ver) (hx : a.eval d = .pointer (some ⟨b, 0, none⟩)) (hy : a.eval y = cvv V') (hat : CMine w b V)
    (h : ∀ u, u = w.setCells b 0 (encC V') → wpList Tryz.prog ops Q rest (a.put op.dst undef) u) : wpList Tryz.prog ops Q (op :: rest) a w := by
  refine wpList_store_mid hgd 136 d y ho b 0 (encC V').toArray hx hy hat.there (by rw [info_cver]; rfl) (all_oneCell_toArray (encC_one V')) ?_
  exact h _ rfl
theorem results_cver {fn : Func} {c t : Tmp} (h : fn.results = #[.cell c 136, .tmp t]) (tmps : Array Value) (w : World) (b : Nat) (V : Ver) (hp : tmps.getD c undef = .pointer (some ⟨b, 0, none⟩)) (hat : CVerAt w b 0 V) :
    (results fn tmps).run Tryz.prog w = .ok (.tuple #[cvv V, tmps.getD t undef]) w := by
  have hl := run_loadVar_mid (P := Tryz.prog) w b 0 136 (encC V) _ hat.range Tryz.underlying136 rfl (by rw [info_cver, encC_len])
  unfold results
  rw [h]
  simp only [List.mapM_toArray, List.mapM_cons, List.mapM_nil, hp]
  simp [asAddr, hl, encC]
theorem zeroC_cells : (encC zeroV).toArray = #[.int .i64 0, .int .u8 0, .string ⟨#[]⟩, .bool false] := rfl
theorem cnew_any (w : World) :
    Calls Tryz.prog 137 #[] w fun e w' => ∃ p X, e = .returned (.pointer (some ⟨p, 0, none⟩)) ∧ ChD w' p [] X ∧ Below w.heap.size w w' ∧ ∀ k, X k → w.heap.size ≤ k := by
  have H : Hid (ChD (w.alloc (.cells #[.slice none 0 0] 199)) w.heap.size [] (fun k => k = w.heap.size)) := by
    refine ⟨rfl, fun k hk => by rw [hk]; simp, Chn.nil, ⟨none, 0, ?_, World.ownsRow_nil _ _ _ _, fun k hk => by cases hk⟩, World.frozen?_alloc_new _ _ _ _, ⟨_, _, heap_alloc_new w _⟩⟩
    rw [World.cell?_alloc_new]
    rfl
  go_enter Tryz.func137, Tryz.ntmps137
  go_wp2
  go_ret
  exact ⟨_, _, rfl, H.out, (Below.refl _ _).alloc (Nat.le_refl _) _, fun k hk => by rw [hk]; exact Nat.le_refl _⟩
theorem clen_any (p : Nat) (L : List Ver) (X : Foot) (w : World) (h : ChD w p L X) :
    Calls Tryz.prog 118 #[.pointer (some ⟨p, 0, none⟩)] w fun e w' => e = .returned (.int .i64 (L.length : Nat)) ∧ Below w.heap.size w w' := by
  obtain ⟨a, c, hc1, hc2, hc3, hcell, _⟩ := h.open
  have q0 := (hcell w (Below.refl _ _)).1
  clear hcell h
  go_enter Tryz.func118, Tryz.ntmps118
  go_wp2
  go_ret
  exact ⟨rfl, Below.refl _ _⟩
theorem chn_in {L : List Ver} (h : Chn L) : ∀ V ∈ L, VerIn V := fun V hV => by
  have h1 := h.may V hV
  unfold mayV at h1
  simp only [Bool.and_eq_true, decide_eq_true_eq] at h1
  obtain ⟨⟨⟨h2, h3⟩, h4⟩, _⟩ := h1
  obtain ⟨h5, h6, h7⟩ := h.ins V hV
  exact ⟨h.one V hV, ⟨by omega, by omega⟩, ⟨h5, h6⟩, h7, by unfold maxLen; omega⟩
theorem call_any (p : Nat) (L : List Ver) (X : Foot) (w : World) (h : ChD w p L X) :
    Calls Tryz.prog 122 #[.pointer (some ⟨p, 0, none⟩)] w fun e w' => (∃ a c, e = .returned (.slice a L.length c) ∧ CVersOf w' a c L) ∧ Below w.heap.size w w' := by
  obtain ⟨a, c, hc1, hc2, hc3, hcell, _⟩ := h.open
  have q0 := (hcell w (Below.refl _ _)).1
  have CL : Hid (Calls Tryz.prog 154 #[.slice a L.length c] w fun e w' => (∃ a' c', e = .returned (.slice a' L.length c') ∧ CVersOf w' a' c' L) ∧ Below w.heap.size w w') := by
    refine (cclone_any a c L.length L w rfl (Nat.le_trans h.chn.few (by decide)) (hcell w (Below.refl _ _)).2).mono ?_
    rintro e w1 ⟨⟨a', c', rfl, ho⟩, hb⟩
    refine ⟨⟨a', c', rfl, ⟨?_, ?_, chn_in h.chn⟩⟩, hb⟩
    · rcases ho.2 with ⟨e1, e2⟩ | ⟨g, cap, cur, e1, _, _, e5, _⟩
      · omega
      · cases e1; exact e5
    · rcases ho.2 with ⟨e1, e2⟩ | ⟨g, cap, cur, e1, _, hh, _⟩
      · exact .inl (List.eq_nil_of_length_eq_zero e2)
      · cases e1
        refine .inr ⟨g, 0, rfl, fun i V hV => ?_⟩
        have ho2 : CRow w1 (.slice (some ⟨g, 0, none⟩) L.length c') L := World.ownsRow.mono ho (Nat.zero_le _)
        obtain ⟨g', e, _, hat⟩ := ho2.ver hV
        injection e with e
        injection e with e
        subst e
        rw [Nat.zero_add]
        exact hat
  clear hcell h
  go_enter Tryz.func122, Tryz.ntmps122
  go_wp2_with (go_at_call 154; refine CL.out.mono ?_; rintro e w1 ⟨⟨a', c', rfl, h1⟩, h2⟩; have H1 : Hid (CVersOf w1 a' c' L) := h1; have H2 : Hid (Below w.heap.size w w1) := h2; clear h1 h2)
  go_ret
  exact ⟨⟨a', c', rfl, H1.out⟩, H2.out⟩
set_option maxHeartbeats 2000000 in
theorem cgood_any (V : Ver) (hin : VerIn V) (w : World) :
    Calls Tryz.prog 157 #[cvv V] w fun e w' => e = .returned (.bool (mayV V)) ∧ Below w.heap.size w w' := by
  obtain ⟨k, t, n, v, g⟩ := V
  obtain ⟨X, hX⟩ : ∃ X, X = strOfNums v := ⟨_, rfl⟩
  obtain ⟨m, hm⟩ : ∃ m, m = v.length := ⟨_, rfl⟩
  have hsz : X.size = m := by rw [hX, hm]; exact strOfNums_size v
  have hfew : m ≤ 9223372036854775807 := by
    have := hin.few
    unfold maxLen at this
    rw [hm]
    exact Nat.le_trans this (by omega)
  have hemp : X.toList.isEmpty = decide (v = []) := by
    rw [hX, ByteArray.toList_eq, strOfNums_data]
    cases v with
    | nil => rfl
    | cons z r => simp
  have hmay : mayV ⟨k, t, n, v, g⟩ = (decide (okS t) && decide (m ≤ 200) && (!g || decide (v = []))) := by rw [hm]; rfl
  obtain ⟨R, hR⟩ : ∃ R, R = mayV ⟨k, t, n, v, g⟩ := ⟨_, rfl⟩
  show Calls Tryz.prog 157 #[.agg #[.int .i64 t, .int .u8 n, .string (strOfNums v), .bool g]] w fun e w' => e = .returned (.bool (mayV ⟨k, t, n, v, g⟩)) ∧ Below w.heap.size w w'
  rw [← hX, ← hR]
  rw [← hR] at hmay
  obtain ⟨U, hU⟩ : ∃ U, U = w.alloc (.cells #[.int .i64 t, .int .u8 n, .string X, .bool g] 136) := ⟨_, rfl⟩
  have HUB : Hid (Below w.heap.size w U) := by rw [hU]; exact (Below.refl _ _).alloc (Nat.le_refl _) _
  have HAT : Hid (∀ u, Below U.heap.size U u → Hid (Below w.heap.size w u) ∧ u.cell? ⟨w.heap.size, 0, none⟩ = some (.int .i64 t) ∧ u.cell? ⟨w.heap.size, 1, none⟩ = some (.int .u8 n) ∧ u.cell? ⟨w.heap.size, 2, none⟩ = some (.string X) ∧ u.cell? ⟨w.heap.size, 3, none⟩ = some (.bool g)) := fun u hb => by
    have hlt : w.heap.size < U.heap.size := by rw [hU]; simp
    refine ⟨HUB.out.trans (hb.mono HUB.out.size), (hb.cell (p := ⟨w.heap.size, 0, none⟩) hlt).trans ?_, (hb.cell (p := ⟨w.heap.size, 1, none⟩) hlt).trans ?_, (hb.cell (p := ⟨w.heap.size, 2, none⟩) hlt).trans ?_, (hb.cell (p := ⟨w.heap.size, 3, none⟩) hlt).trans ?_⟩ <;> (rw [hU, World.cell?_alloc_new]; rfl)
  have CG : Hid (∀ u, Calls Tryz.prog 47 #[.agg #[.int .i64 t, .int .u8 n]] u fun e w' => e = .returned (.bool (decide (okS t))) ∧ Below u.heap.size u w') := fun u => sgood_any t n u
  rw [hU] at HAT HUB
  clear hin hU hX hm hR
  cases g with
  | true =>
    by_cases h3 : v = []
    · rw [decide_eq_true h3] at hemp
      by_cases h1 : okS t
      · have d1 : decide (okS t) = true := decide_eq_true h1
        rw [d1] at CG hmay
        by_cases h2 : m ≤ 200
        · have d2 : decide ((m : Int) ≤ 200) = true := decide_eq_true (by omega)
          have d2n : decide (m ≤ 200) = true := decide_eq_true h2
          have hR : R = true := by rw [hmay, d2n]; first | rfl | (rw [decide_eq_true h3]; rfl)
          rw [hR]
          clear hmay hR h1 d1 d2n
          go_enter Tryz.func157, Tryz.ntmps157
          go_wp2_with (go_at_call 47; refine (CG.out _).mono ?_; rintro e w1 ⟨rfl, hb1⟩; obtain ⟨B1, r0, r1, r2, r3⟩ := HAT.out w1 hb1; clear hb1)
          go_ret
          exact ⟨rfl, B1.out⟩
        · have d2 : decide ((m : Int) ≤ 200) = false := decide_eq_false (by omega)
          have d2n : decide (m ≤ 200) = false := decide_eq_false h2
          have hR : R = false := by rw [hmay, d2n]; rfl
          rw [hR]
          clear hmay hR h1 d1 d2n
          go_enter Tryz.func157, Tryz.ntmps157
          go_wp2_with (go_at_call 47; refine (CG.out _).mono ?_; rintro e w1 ⟨rfl, hb1⟩; obtain ⟨B1, r0, r1, r2, r3⟩ := HAT.out w1 hb1; clear hb1)
          go_ret
          exact ⟨rfl, B1.out⟩
      · have d1 : decide (okS t) = false := decide_eq_false h1
        rw [d1] at CG hmay
        have hR : R = false := by rw [hmay]; rfl
        rw [hR]
        clear hmay hR h1 d1
        go_enter Tryz.func157, Tryz.ntmps157
        go_wp2_with (go_at_call 47; refine (CG.out _).mono ?_; rintro e w1 ⟨rfl, hb1⟩; obtain ⟨B1, r0, r1, r2, r3⟩ := HAT.out w1 hb1; clear hb1)
        go_ret
        exact ⟨rfl, B1.out⟩
    · rw [decide_eq_false h3] at hemp
      have hR : R = false := by rw [hmay, decide_eq_false h3]; simp
      rw [hR]
      clear hmay hR h3
      go_enter Tryz.func157, Tryz.ntmps157
      go_wp2
      go_ret
      exact ⟨rfl, HUB.out⟩
  | false =>
    by_cases h1 : okS t
    · have d1 : decide (okS t) = true := decide_eq_true h1
      rw [d1] at CG hmay
      by_cases h2 : m ≤ 200
      · have d2 : decide ((m : Int) ≤ 200) = true := decide_eq_true (by omega)
        have d2n : decide (m ≤ 200) = true := decide_eq_true h2
        have hR : R = true := by rw [hmay, d2n]; first | rfl | (rw [decide_eq_true h3]; rfl)
        rw [hR]
        clear hmay hR h1 d1 d2n
        go_enter Tryz.func157, Tryz.ntmps157
        go_wp2_with (go_at_call 47; refine (CG.out _).mono ?_; rintro e w1 ⟨rfl, hb1⟩; obtain ⟨B1, r0, r1, r2, r3⟩ := HAT.out w1 hb1; clear hb1)
        go_ret
        exact ⟨rfl, B1.out⟩
      · have d2 : decide ((m : Int) ≤ 200) = false := decide_eq_false (by omega)
        have d2n : decide (m ≤ 200) = false := decide_eq_false h2
        have hR : R = false := by rw [hmay, d2n]; rfl
        rw [hR]
        clear hmay hR h1 d1 d2n
        go_enter Tryz.func157, Tryz.ntmps157
        go_wp2_with (go_at_call 47; refine (CG.out _).mono ?_; rintro e w1 ⟨rfl, hb1⟩; obtain ⟨B1, r0, r1, r2, r3⟩ := HAT.out w1 hb1; clear hb1)
        go_ret
        exact ⟨rfl, B1.out⟩
    · have d1 : decide (okS t) = false := decide_eq_false h1
      rw [d1] at CG hmay
      have hR : R = false := by rw [hmay]; rfl
      rw [hR]
      clear hmay hR h1 d1
      go_enter Tryz.func157, Tryz.ntmps157
      go_wp2_with (go_at_call 47; refine (CG.out _).mono ?_; rintro e w1 ⟨rfl, hb1⟩; obtain ⟨B1, r0, r1, r2, r3⟩ := HAT.out w1 hb1; clear hb1)
      go_ret
      exact ⟨rfl, B1.out⟩
end Go.Proofs.YtileidbdmpeciaaGreat

namespace Go.Proofs.YtileidbdmpeciaaGreat
open Go.RowKit
set_option linter.unusedVariables false

set_option maxHeartbeats 2000000 in
theorem clast_any (p : Nat) (L : List Ver) (X : Foot) (k : Nat) (w : World) (h : ChD w p L X) (hk : k ≤ L.length) :
    Calls Tryz.prog 144 #[.pointer (some ⟨p, 0, none⟩), .int .i64 k] w fun e w' => e = .returned (.tuple #[cvv (orZero (lastN L k)), .bool (lastN L k).isSome]) ∧ Below w.heap.size w w' := by
  obtain ⟨a, c, hc1, hc2, hc3, hcell, hver⟩ := h.open
  have hfew := h.chn.few
  have HM0 : Hid (CMine (w.alloc (.cells (encC zeroV).toArray 136)) w.heap.size zeroV) := CMine.made w 136 zeroV
  have HB0 : Hid (Below w.heap.size w (w.alloc (.cells (encC zeroV).toArray 136))) := (Below.refl _ _).alloc (Nat.le_refl _) _
  have q0 := (hcell _ HB0.out).1
  rw [zeroC_cells] at HM0 HB0 q0
  obtain ⟨N, hN⟩ : ∃ N, N = L.length := ⟨_, rfl⟩
  rw [← hN] at hk hc1 q0 hfew
  by_cases h0 : k = 0
  · subst h0
    clear hcell hver h hc3
    go_enter Tryz.func144, Tryz.ntmps144
    go_wp2_with (refine wpList_store_cver (.tmp 4) (by rfl) _ (by rfl) w.heap.size zeroV zeroV (by rfl) (by rfl) HM0.out ?_; intro u hu; have HD : Hid (CMine u w.heap.size zeroV) := hu ▸ HM0.out.store zeroV; have HBU : Hid (Below w.heap.size w u) := hu ▸ below_cells (by omega) HB0.out; clear hu)
    (try simp only [Exit.inBlock, Exit.then])
    refine bodyPost_ret (results_cver rfl _ _ w.heap.size zeroV rfl HD.out.at_) rfl ?_
    exact ⟨rfl, HBU.out⟩
  · obtain ⟨j, rfl⟩ : ∃ j, k = j + 1 := ⟨k - 1, by omega⟩
    have hjN : j < N := by omega
    obtain ⟨V1, hV1⟩ : ∃ V, L[j]? = some V := ⟨_, List.getElem?_eq_getElem (by omega)⟩
    obtain ⟨g, hag, hg, hat⟩ : ∃ g, a = some ⟨g, 0, none⟩ ∧ g < w.heap.size ∧ ∀ v, Below w.heap.size w v → ∀ i V, L[i]? = some V → CVerAt v g (i * 4) V := by
      rcases hver with e | e
      · rw [e] at hV1; simp at hV1
      · exact e
    subst hag
    have HL : Hid (lastN L (j + 1) = some V1) := by show _ = _; unfold lastN; rw [if_neg (by omega), Nat.add_sub_cancel]; exact hV1
    have HVA : Hid (CVerAt (w.alloc (.cells #[.int .i64 0, .int .u8 0, .string ⟨#[]⟩, .bool false] 136)) g (j * 4) V1) := hat _ HB0.out j V1 hV1
    rw [HL.out]
    have hj1 : ((j + 1 : Nat) : Int) - 1 = (j : Int) := by omega
    have hj2 : ¬ (((j + 1 : Nat) : Int) = 0) := by omega
    clear hcell hver h hV1 hat hc3
    go_enter Tryz.func144, Tryz.ntmps144
    go_wp2_with (first | (refine wpList_load_cver 16 (by rfl) (by rfl) _ (by rfl) g (j * 4) (by rfl) V1 HVA.out ?_) | (refine wpList_store_cver (.tmp 4) (by rfl) _ (by rfl) w.heap.size zeroV V1 (by rfl) (by rfl) HM0.out ?_; intro u hu; have HD : Hid (CMine u w.heap.size V1) := hu ▸ HM0.out.store V1; have HBU : Hid (Below w.heap.size w u) := hu ▸ below_cells (by omega) HB0.out; clear hu))
    (try simp only [Exit.inBlock, Exit.then])
    refine bodyPost_ret (results_cver rfl _ _ w.heap.size V1 rfl HD.out.at_) rfl ?_
    exact ⟨rfl, HBU.out⟩
set_option maxHeartbeats 2000000 in
theorem cat_any (p : Nat) (L : List Ver) (X : Foot) (t n : Int) (w : World) (h : ChD w p L X) :
    Calls Tryz.prog 103 #[.pointer (some ⟨p, 0, none⟩), .agg #[.int .i64 t, .int .u8 n]] w fun e w' => e = .returned (.tuple #[cvv (orZero (atV L zeroK t n)), .bool (atV L zeroK t n).isSome]) ∧ Below w.heap.size w w' := by
  obtain ⟨W0, hW0⟩ : ∃ W0, W0 = w.alloc (.cells #[.int .i64 t, .int .u8 n] 28) := ⟨_, rfl⟩
  have e0 : W0.heap.size = w.heap.size + 1 := by rw [hW0]; simp
  have HB0 : Hid (Below w.heap.size w (W0.alloc (.cells (encC zeroV).toArray 136))) := by
    rw [hW0]; exact ((Below.refl _ _).alloc (Nat.le_refl _) _).alloc (by simp) _
  have HM0 : Hid (CMine (W0.alloc (.cells (encC zeroV).toArray 136)) (w.heap.size + 1) zeroV) := by
    have := CMine.made W0 136 zeroV
    rw [e0] at this
    exact this
  rw [at_last h.chn.one h.chn.ups]
  obtain ⟨k, hk⟩ : ∃ k, k = upN L t n := ⟨_, rfl⟩
  have hkl : k ≤ L.length := by rw [hk]; exact (up_facts h.chn.ups t n).1
  have CU : Hid (∀ u, Below w.heap.size w u → Calls Tryz.prog 145 #[.pointer (some ⟨p, 0, none⟩), .agg #[.int .i64 t, .int .u8 n]] u fun e w' => e = .returned (.int .i64 (k : Nat)) ∧ Below u.heap.size u w') := fun u hb => by rw [hk]; exact cupto_any p L X t n u (h.past hb)
  rw [← hk]
  obtain ⟨V1, hV1⟩ : ∃ V, V = orZero (lastN L k) := ⟨_, rfl⟩
  obtain ⟨ok, hok⟩ : ∃ b, b = (lastN L k).isSome := ⟨_, rfl⟩
  have CL : Hid (∀ u, Below w.heap.size w u → Calls Tryz.prog 144 #[.pointer (some ⟨p, 0, none⟩), .int .i64 k] u fun e w' => e = .returned (.tuple #[cvv V1, .bool ok]) ∧ Below u.heap.size u w') := fun u hb => by rw [hV1, hok]; exact clast_any p L X k u (h.past hb) hkl
  rw [← hV1, ← hok]
  rw [zeroC_cells, hW0] at HB0 HM0
  clear hk hkl hV1 hok h hW0 e0
  go_enter Tryz.func103, Tryz.ntmps103
  go_wp2_with (first | (go_at_call 145; refine (CU.out _ HB0.out).mono ?_; rintro e w1 ⟨rfl, hb1⟩; have HM1 : Hid (CMine w1 (w.heap.size + 1) zeroV) := HM0.out.past hb1; have HB1 : Hid (Below w.heap.size w w1) := HB0.out.trans (hb1.mono HB0.out.size); clear hb1) | (go_at_call 144; refine (CL.out _ HB1.out).mono ?_; rintro e w2 ⟨rfl, hb2⟩; have HM2 : Hid (CMine w2 (w.heap.size + 1) zeroV) := HM1.out.past hb2; have HB2 : Hid (Below w.heap.size w w2) := HB1.out.trans (hb2.mono HB1.out.size); clear hb2) | (have hgo := HM2.out; clear hgo; refine wpList_store_cver (.tmp 4) (by rfl) _ (by rfl) (w.heap.size + 1) zeroV V1 (by rfl) (by rfl) HM2.out ?_; intro u hu; have HD : Hid (CMine u (w.heap.size + 1) V1) := hu ▸ HM2.out.store V1; have HBU : Hid (Below w.heap.size w u) := hu ▸ below_cells (by omega) HB2.out; clear hu))
  (try simp only [Exit.inBlock, Exit.then])
  refine bodyPost_ret (results_cver rfl _ _ (w.heap.size + 1) V1 rfl HD.out.at_) rfl ?_
  exact ⟨rfl, HBU.out⟩
set_option maxHeartbeats 2000000 in
theorem cnewest_any (p : Nat) (L : List Ver) (X : Foot) (w : World) (h : ChD w p L X) :
    Calls Tryz.prog 125 #[.pointer (some ⟨p, 0, none⟩)] w fun e w' => e = .returned (.tuple #[cvv (orZero (newestV L zeroK)), .bool (newestV L zeroK).isSome]) ∧ Below w.heap.size w w' := by
  obtain ⟨a, c, hc1, hc2, hc3, hcell, _⟩ := h.open
  have HB0 : Hid (Below w.heap.size w (w.alloc (.cells (encC zeroV).toArray 136))) := (Below.refl _ _).alloc (Nat.le_refl _) _
  have HM0 : Hid (CMine (w.alloc (.cells (encC zeroV).toArray 136)) w.heap.size zeroV) := CMine.made w 136 zeroV
  have q0 := (hcell _ HB0.out).1
  rw [newest_last h.chn.one]
  obtain ⟨k, hk⟩ : ∃ k, k = L.length := ⟨_, rfl⟩
  obtain ⟨V1, hV1⟩ : ∃ V, V = orZero (lastN L k) := ⟨_, rfl⟩
  obtain ⟨ok, hok⟩ : ∃ b, b = (lastN L k).isSome := ⟨_, rfl⟩
  have CL : Hid (∀ u, Below w.heap.size w u → Calls Tryz.prog 144 #[.pointer (some ⟨p, 0, none⟩), .int .i64 k] u fun e w' => e = .returned (.tuple #[cvv V1, .bool ok]) ∧ Below u.heap.size u w') := fun u hb => by rw [hV1, hok]; exact clast_any p L X k u (h.past hb) (by omega)
  rw [← hk, ← hV1, ← hok]
  rw [← hk] at q0
  rw [zeroC_cells] at HB0 HM0 q0
  clear hk hV1 hok h hcell hc3 hc1 hc2
  go_enter Tryz.func125, Tryz.ntmps125
  go_wp2_with (first | (go_at_call 144; refine (CL.out _ HB0.out).mono ?_; rintro e w2 ⟨rfl, hb2⟩; have HM2 : Hid (CMine w2 w.heap.size zeroV) := HM0.out.past hb2; have HB2 : Hid (Below w.heap.size w w2) := HB0.out.trans (hb2.mono HB0.out.size); clear hb2) | (have hgo := HM2.out; clear hgo; refine wpList_store_cver (.tmp 2) (by rfl) _ (by rfl) w.heap.size zeroV V1 (by rfl) (by rfl) HM2.out ?_; intro u hu; have HD : Hid (CMine u w.heap.size V1) := hu ▸ HM2.out.store V1; have HBU : Hid (Below w.heap.size w u) := hu ▸ below_cells (by omega) HB2.out; clear hu))
  (try simp only [Exit.inBlock, Exit.then])
  refine bodyPost_ret (results_cver rfl _ _ w.heap.size V1 rfl HD.out.at_) rfl ?_
  exact ⟨rfl, HBU.out⟩
end Go.Proofs.YtileidbdmpeciaaGreat

namespace Go.Proofs.YtileidbdmpeciaaGreat
open Go.RowKit
set_option linter.unusedVariables false

theorem set_ty {w : World} {p o : Nat} {cs : Array Value} {T : TypeId} {fz : Nat × Nat} {v : Value} (h : w.heap[p]? = some (.cells cs T fz)) : (w.setCell ⟨p, o, none⟩ v).heap[p]? = some (.cells (cs.setIfInBounds o v) T fz) := by
  simp [World.setCell, Array.getElem?_modify, h]
/-- A chain whose list has turned. -/
theorem ChD.turn {u w4 : World} {p N' c' : Nat} {L M : List Ver} {X : Foot} {v : Value} {a' : Option Addr} (h : ChD u p L X) (hv : ∀ k, v.ownBlock = some k → X k ∧ k ≠ p) (hg : u.grownBy w4 v.ownBlock) (hM : Chn M) (hN : M.length = N')
    (hrow : w4.ownsRow 0 136 4 (.slice a' N' c') N' (M.flatMap encC)) (hblk : ∀ k, (Value.slice a' N' c').ownBlock = some k → v.ownBlock = some k ∨ u.heap.size ≤ k) :
    ∃ X', ChD (w4.setCell ⟨p, 0, none⟩ (.slice a' N' c')) p M X' ∧ Did u (w4.setCell ⟨p, 0, none⟩ (.slice a' N' c')) X X' := by
  subst hN
  have hp := h.lt p h.own
  have hpk : w4.heap[p]? = u.heap[p]? := hg.block p hp (fun e => (hv p e.symm).2 rfl)
  obtain ⟨a, c, h1, h2, h3⟩ := h.list
  refine ⟨fun k => (X k ∨ u.heap.size ≤ k) ∧ k < w4.heap.size, ⟨⟨.inl h.own, Nat.lt_of_lt_of_le hp hg.size⟩, fun k hk => by rw [World.size_setCell]; exact hk.2, hM, ⟨a', c', ?_, ?_, ?_⟩, ?_, ?_⟩, ?_⟩
  · exact World.cell?_setCell_same _ _ _ ((cell_kept hpk 0).trans h1)
  · refine crow_kept hrow (fun k e => Below.heap_setCell _ _ _ k (fun e2 => ?_))
    rcases hblk k e with e3 | e3
    · exact (hv k e3).2 e2
    · have : k = p := e2
      omega
  · intro k e
    have hlt := (hrow.lt k e).2
    rcases hblk k e with e3 | e3
    · exact ⟨⟨.inl (hv k e3).1, hlt⟩, (hv k e3).2⟩
    · exact ⟨⟨.inr e3, hlt⟩, by omega⟩
  · rw [World.frozen?_setCell]
    exact (frozen_kept hpk 0).trans h.free
  · obtain ⟨cs, fz, hcs⟩ := h.ty
    exact ⟨_, _, set_ty (hpk.trans hcs)⟩
  · refine ⟨(Chg.of_grown hg (X := X) (fun k e => (hv k e).1)).trans (Chg.set w4 ⟨p, 0, none⟩ _ h.own) (fun _ _ x => x), fun k hk => ⟨hk.1, by rw [World.size_setCell]; exact hk.2⟩⟩
set_option maxHeartbeats 4000000 in
theorem ctrim_any (p : Nat) (L : List Ver) (X : Foot) (t n : Int) (w : World) (h : ChD w p L X) :
    Calls Tryz.prog 117 #[.pointer (some ⟨p, 0, none⟩), .agg #[.int .i64 t, .int .u8 n]] w fun e w' => e = .returned (.int .i64 ((L.length : Int) - ((restV L t n).length : Int))) ∧ ∃ X', ChD w' p (restV L t n) X' ∧ Did w w' X X' := by
  obtain ⟨W0, hW0⟩ : ∃ W0, W0 = w.alloc (.cells #[.int .i64 t, .int .u8 n] 28) := ⟨_, rfl⟩
  have HB0 : Hid (Below w.heap.size w W0) := by rw [hW0]; exact (Below.refl _ _).alloc (Nat.le_refl _) _
  obtain ⟨k, hk⟩ : ∃ k, k = upN L t n := ⟨_, rfl⟩
  have hkl : k ≤ L.length := by rw [hk]; exact (up_facts h.chn.ups t n).1
  have hfew := h.chn.few
  have CU : Hid (∀ u, Below w.heap.size w u → Calls Tryz.prog 145 #[.pointer (some ⟨p, 0, none⟩), .agg #[.int .i64 t, .int .u8 n]] u fun e w' => e = .returned (.int .i64 (k : Nat)) ∧ Below u.heap.size u w') := fun u hb => by rw [hk]; exact cupto_any p L X t n u (h.past hb)
  obtain ⟨hr0, hr1⟩ := rest_up h.chn.one h.chn.ups t n
  rw [← hk] at hr0 hr1
  have HC : Hid (ChD w p L X) := h
  have HRC : Hid (Chn (restV L t n)) := h.chn.rest t n
  by_cases h0 : k = 0
  · have CL : Hid (∀ u, Below w.heap.size w u → Calls Tryz.prog 144 #[.pointer (some ⟨p, 0, none⟩), .int .i64 k] u fun e w' => e = .returned (.tuple #[.agg #[.int .i64 0, .int .u8 0, .string ⟨#[]⟩, .bool false], .bool false]) ∧ Below u.heap.size u w') := fun u hb => by
      have := clast_any p L X k u (h.past hb) hkl
      rw [h0] at this ⊢
      exact this
    rw [hr0 h0, Int.sub_self]
    have HE : Hid (∀ u, Below w.heap.size w u → ∃ X', ChD u p L X' ∧ Did w u X X') := fun u hb => ⟨X, HC.out.past hb, Did.stay hb HC.out.lt⟩
    rw [hW0] at HB0
    clear hk hr0 hr1 hW0 h h0 HC HRC hkl
    go_enter Tryz.func117, Tryz.ntmps117
    go_wp2_with (first | (go_at_call 145; refine (CU.out _ HB0.out).mono ?_; rintro e w1 ⟨rfl, hb1⟩; have HB1 : Hid (Below w.heap.size w w1) := HB0.out.trans (hb1.mono HB0.out.size); clear hb1) | (go_at_call 144; refine (CL.out _ HB1.out).mono ?_; rintro e w2 ⟨rfl, hb2⟩; have HM2 : Hid (CMine (w2.alloc (.cells (encC zeroV).toArray 136)) w2.heap.size zeroV) := CMine.made w2 136 zeroV; have HB2 : Hid (Below w.heap.size w w2) := HB1.out.trans (hb2.mono HB1.out.size); have HB3 : Hid (Below w.heap.size w (w2.alloc (.cells (encC zeroV).toArray 136))) := HB2.out.alloc HB2.out.size _; rw [zeroC_cells] at HM2 HB3; clear hb2) | (have hgo := HM2.out; clear hgo; refine wpList_store_cver (.tmp 6) (by rfl) _ (by rfl) w2.heap.size zeroV zeroV (by rfl) (by rfl) HM2.out ?_; intro u hu; have HBU : Hid (Below w.heap.size w u) := hu ▸ below_cells HB2.out.size HB3.out; clear hu))
    go_ret
    exact ⟨rfl, HE.out _ HBU.out⟩
  · obtain ⟨V1, hV1⟩ : ∃ V1, lastN L k = some V1 := by
      unfold lastN
      rw [if_neg h0]
      exact ⟨_, List.getElem?_eq_getElem (by omega)⟩
    obtain ⟨g1, hg1⟩ : ∃ g1, V1.g = g1 := ⟨_, rfl⟩
    obtain ⟨t1, n1, S1, e1, e2, e3⟩ : ∃ t1 n1 S1, t1 = V1.t ∧ n1 = V1.n ∧ S1 = strOfNums V1.v := ⟨_, _, _, rfl, rfl, rfl⟩
    have CL : Hid (∀ u, Below w.heap.size w u → Calls Tryz.prog 144 #[.pointer (some ⟨p, 0, none⟩), .int .i64 k] u fun e w' => e = .returned (.tuple #[.agg #[.int .i64 t1, .int .u8 n1, .string S1, .bool g1], .bool true]) ∧ Below u.heap.size u w') := fun u hb => by
      have := clast_any p L X k u (h.past hb) hkl
      rw [hV1] at this
      rw [e1, e2, e3, ← hg1]
      exact this
    obtain ⟨a, c, hc1, hcr, hc3⟩ := h.list
    have hc2 : w.ownsRow 0 136 4 (.slice a L.length c) L.length (L.flatMap encC) := hcr
    clear hcr
    obtain ⟨N, hN⟩ : ∃ N, N = L.length := ⟨_, rfl⟩
    rw [← hN] at hc1 hc2 hc3 hkl hfew
    have HCE : Hid (∀ u, Below w.heap.size w u → u.cell? ⟨p, 0, none⟩ = some (.slice a N c) ∧ u.frozen? ⟨p, 0, none⟩ = false) := fun u hb => ⟨(hb.cell (p := ⟨p, 0, none⟩) (h.lt p h.own)).trans hc1, (hb.frozen (p := ⟨p, 0, none⟩) (h.lt p h.own)).trans h.free⟩
    obtain ⟨m, hm⟩ : ∃ m, m = k - if g1 = true then 0 else 1 := ⟨_, rfl⟩
    have hmk : m ≤ k := by omega
    have HR : Hid (restV L t n = L.drop m) := by show _ = _; rw [hr1 V1 hV1, hg1, ← hm]
    have HRET : Hid ((N : Int) - ((restV L t n).length : Int) = (m : Int)) := by show _ = _; rw [HR.out, List.length_drop, ← hN]; omega
    have HFIN : Hid (∀ u w4, Below w.heap.size w u → Deld u w4 a N c m (L.drop m) → w4.cell? ⟨p, 0, none⟩ = some (.slice a N c) ∧ w4.frozen? ⟨p, 0, none⟩ = false ∧ Hid (∃ X', ChD (w4.setCell ⟨p, 0, none⟩ (.slice a (N - m) c)) p (restV L t n) X' ∧ Did w (w4.setCell ⟨p, 0, none⟩ (.slice a (N - m) c)) X X')) := fun u w4 hb hd => by
      have hcu := HC.out.past hb
      have hpk : w4.heap[p]? = u.heap[p]? := hd.grown.block p (hcu.lt p hcu.own) (fun e => (hc3 p e.symm).2 rfl)
      refine ⟨(cell_kept hpk 0).trans (HCE.out u hb).1, (frozen_kept hpk 0).trans (HCE.out u hb).2, ?_⟩
      obtain ⟨X', h1, h2⟩ := hcu.turn (v := .slice a N c) (M := restV L t n) (N' := N - m) hc3 hd.grown HRC.out (by rw [HR.out, List.length_drop, ← hN]) (by rw [HR.out]; exact hd.row) (fun j e => .inl (by cases a <;> exact e))
      exact ⟨X', h1, (Did.stay hb HC.out.lt).trans h2⟩
    have CD : Hid (∀ u, Below w.heap.size w u → Calls Tryz.prog 149 #[.slice a N c, .int .i64 0, .int .i64 (m : Nat)] u fun e w' => e = .returned (.slice a (N - m) c) ∧ Deld u w' a N c m (L.drop m)) := fun u hb => cdel_any a c N m L u hN.symm (by omega) (by omega) (own_below hc2 hb (Nat.le_refl _))
    rw [← hN]
    rw [hW0] at HB0
    cases g1 with
    | true =>
      have hm2 : m = k := by rw [hm]; rfl
      subst hm2
      clear hk hr0 hr1 hW0 h h0 hV1 hc1 hc2 hc3 hg1 hm hN hmk e1 e2 e3
      go_enter Tryz.func117, Tryz.ntmps117
      go_wp2_with (first | (go_at_call 145; refine (CU.out _ HB0.out).mono ?_; rintro e w1 ⟨rfl, hb1⟩; have HB1 : Hid (Below w.heap.size w w1) := HB0.out.trans (hb1.mono HB0.out.size); clear hb1) | (go_at_call 144; refine (CL.out _ HB1.out).mono ?_; rintro e w2 ⟨rfl, hb2⟩; have HB2 : Hid (Below w.heap.size w w2) := HB1.out.trans (hb2.mono HB1.out.size); have HB3 : Hid (Below w.heap.size w (w2.alloc (.cells #[.int .i64 t1, .int .u8 n1, .string S1, .bool true] 136))) := HB2.out.alloc HB2.out.size _; obtain ⟨q0, q1⟩ := HCE.out _ HB3.out; clear hb2) | (go_at_call 149; refine (CD.out _ HB3.out).mono ?_; rintro e w4 ⟨rfl, hd⟩; obtain ⟨q2, q3, HE⟩ := HFIN.out _ w4 HB3.out hd; clear hd))
      go_ret
      exact ⟨by rw [HRET.out]; rfl, HE.out⟩
    | false =>
      have hm2 : k = m + 1 := by
        have : m = k - 1 := hm
        omega
      subst hm2
      have hm3 : ((m + 1 : Nat) : Int) - 1 = (m : Int) := by omega
      clear hk hr0 hr1 hW0 h h0 hV1 hc1 hc2 hc3 hg1 hm hN hmk e1 e2 e3
      go_enter Tryz.func117, Tryz.ntmps117
      go_wp2_with (first | (go_at_call 145; refine (CU.out _ HB0.out).mono ?_; rintro e w1 ⟨rfl, hb1⟩; have HB1 : Hid (Below w.heap.size w w1) := HB0.out.trans (hb1.mono HB0.out.size); clear hb1) | (go_at_call 144; refine (CL.out _ HB1.out).mono ?_; rintro e w2 ⟨rfl, hb2⟩; have HB2 : Hid (Below w.heap.size w w2) := HB1.out.trans (hb2.mono HB1.out.size); have HB3 : Hid (Below w.heap.size w (w2.alloc (.cells #[.int .i64 t1, .int .u8 n1, .string S1, .bool false] 136))) := HB2.out.alloc HB2.out.size _; obtain ⟨q0, q1⟩ := HCE.out _ HB3.out; clear hb2) | (go_at_call 149; refine (CD.out _ HB3.out).mono ?_; rintro e w4 ⟨rfl, hd⟩; obtain ⟨q2, q3, HE⟩ := HFIN.out _ w4 HB3.out hd; clear hd))
      go_ret
      exact ⟨by rw [HRET.out]; rfl, HE.out⟩
end Go.Proofs.YtileidbdmpeciaaGreat

