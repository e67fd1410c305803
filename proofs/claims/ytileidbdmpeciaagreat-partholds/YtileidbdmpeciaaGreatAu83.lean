/-
  What layer 16's own helpers answer: at, k, long, ent.
  A landed part of the call's own, as layer 16's statements use it; what their own helpers of and awake answer.
-/
import Derived.Test.YtileidbdmpeciaaGreatAu85
import Derived.Test.YtileidbdmpeciaaGreatAu81
import Derived.Test.YtileidbdmpeciaaGreatPaC2
import Derived.Test.YtileidbdmpeciaaGreatAu60
import Derived.Test.YtileidbdmpeciaaGreatPaC4
import Derived.Test.YtileidbdmpeciaaGreatPaC7
import Derived.Test.YtileidbdmpeciaaGreatAu75
namespace Go.Proofs.YtileidbdmpeciaaGreat
open Go.RowKit
set_option linter.unusedVariables false

theorem laid_keyQ (w : World) (T : TypeId) {k : List Int} (hk : Ky k) : KeyMine ((w.alloc (.cells (kcs zeroK) T)).setCells w.heap.size 0 (k.map (Value.int .u8))) w.heap.size 0 k ∧ Below w.heap.size w ((w.alloc (.cells (kcs zeroK) T)).setCells w.heap.size 0 (k.map (Value.int .u8))) ∧ ((w.alloc (.cells (kcs zeroK) T)).setCells w.heap.size 0 (k.map (Value.int .u8))).heap.size = w.heap.size + 1 :=
  ⟨(KeyMine.made w T zeroK zeroK_ky).store hk, below_cells (Nat.le_refl _) ((Below.refl _ _).alloc (Nat.le_refl _) _), by rw [size_cells]; simp⟩
/-- A result that lies in memory is answered whole. -/
theorem results_rowQ {fn : Func} {c : Tmp} {T : TypeId} (h : fn.results = #[.cell c T]) (tmps : Array Value) (w : World) (b o : Nat) (cs : List Value) (d : TypeDesc) (hp : tmps.getD c undef = .pointer (some ⟨b, o, none⟩)) (hr : w.rangeAt b o cs) (hu : Tryz.prog.underlying T = some d) (hd : d.isRow = true) (hi : (Tryz.prog.info? T).map (·.size) = some cs.length) :
    (results fn tmps).run Tryz.prog w = .ok (.agg cs.toArray) w := by
  have hl := run_loadVar_mid (P := Tryz.prog) w b o T cs d hr hu hd hi
  unfold results
  rw [h]
  simp only [List.mapM_toArray, List.mapM_cons, List.mapM_nil, hp]
  simp [asAddr, hl]
theorem range_madeQ (w : World) (cs : List Value) (T : TypeId) : (w.alloc (.cells cs.toArray T)).rangeAt w.heap.size 0 cs := by
  intro j v hv
  rw [Nat.zero_add, World.cell?_alloc_new]
  simpa using hv
theorem qatt_any (t : Int) (w : World) :
    Calls Tryz.prog 13 #[.int .i64 t] w fun e w' => e = .returned (.agg #[.int .i64 t, .int .u8 0]) ∧ Below w.heap.size w w' := by
  go_enter Tryz.func13, Tryz.ntmps13
  go_wp2
  refine bodyPost_ret (results_rowQ rfl _ _ w.heap.size 0 [.int .i64 t, .int .u8 0] _ rfl (range_madeQ w _ _) Tryz.underlying28 rfl (by kernel_rfl)) rfl ?_
  exact ⟨rfl, (Below.refl _ _).alloc (Nat.le_refl _) _⟩
set_option maxHeartbeats 1000000 in
theorem qk_any (s : List Int) (hs : ∀ z ∈ s, 0 ≤ z ∧ z ≤ 255) (hm : s.length ≤ 140737488351232) (S : ByteArray) (hS : S = strOfNums s) (K : List Int) (hK : K = ofK s) (w : World) :
    Calls Tryz.prog 15 #[.string S] w fun e w' => e = .returned (kv K) ∧ Below w.heap.size w w' := by
  have KY : Hid (Ky K) := by rw [hK]; exact ofK_ky hs
  obtain ⟨mk, hmk⟩ : ∃ x, x = mayK s := ⟨_, rfl⟩
  have CO : Hid (∀ u, Calls Tryz.prog 55 #[.string S] u fun e w' => e = .returned (.tuple #[kv K, .bool mk]) ∧ Below u.heap.size u w') := fun u => by rw [hS, hK, hmk]; exact rof_any s hs hm u
  have HM0 : Hid (KeyMine (w.alloc (.cells (kcs zeroK) 38)) w.heap.size 0 zeroK) := KeyMine.made w 38 zeroK zeroK_ky
  have HB0 : Hid (Below w.heap.size w (w.alloc (.cells (kcs zeroK) 38))) := (Below.refl _ _).alloc (Nat.le_refl _) _
  rw [zero_cells] at HM0 HB0
  clear hS hK hmk hs
  go_enter Tryz.func15, Tryz.ntmps15
  go_wp2_with (first | (go_at_call 55; refine (CO.out _).mono ?_; rintro e w1 ⟨rfl, hb1⟩; have HM1 : Hid (KeyMine w1 w.heap.size 0 zeroK) := HM0.out.below hb1 HM0.out.lies.lt; have HB1 : Hid (Below w.heap.size w w1) := HB0.out.trans (hb1.mono HB0.out.size); have hmine := KeyMine.made w1 38 zeroK zeroK_ky; obtain ⟨hk1, hb2, hz1⟩ := laid_keyQ w1 38 KY.out; rw [zero_cells] at hmine hk1 hb2 hz1; have HMI : Hid _ := hmine; have HK1 : Hid _ := hk1; have HB2 : Hid _ := hb2; clear hb1 hmine hk1 hb2 hz1) | (have hgo := HMI.out; clear hgo; refine wpList_store_keyU (by rfl) _ _ (by rfl) w1.heap.size 0 zeroK K (by rfl) (by rfl) KY.out HMI.out ?_; intro u2 hu; rw [← hu] at HK1 HB2; have HM2 : Hid (KeyMine u2 w.heap.size 0 zeroK) := HM1.out.below HB2.out HM1.out.lies.lt; clear hu HMI) | (have hgo := HM2.out; clear hgo; refine wpList_load_keyD 10 (by rfl) (by rfl) _ (by rfl) w1.heap.size 0 (by rfl) K KY.out HK1.out.lies ?_) | (have hgo := HM2.out; clear hgo; refine wpList_store_keyU (by rfl) _ _ (by rfl) w.heap.size 0 zeroK K (by rfl) (by rfl) KY.out HM2.out ?_; intro u3 hu3; have HM3 : Hid (KeyMine u3 w.heap.size 0 K) := hu3 ▸ HM2.out.store KY.out; have HB3 : Hid (Below w.heap.size w u3) := hu3 ▸ below_cells (Nat.le_refl _) (HB1.out.trans (HB2.out.mono HB1.out.size)); clear hu3))
  refine bodyPost_ret (results_rowQ rfl _ _ w.heap.size 0 (K.map (Value.int .u8)) _ rfl (HM3.out.lies.range KY.out) Tryz.underlying38 rfl (info_keyl K KY.out)) rfl ?_
  exact ⟨rfl, HB3.out⟩
/-- Are writes more than is asked of? -/
def longQ (l : List Wrt) : Bool := decide (20 < l.length) || l.any (fun W => decide (250 < W.v.length))
theorem WrtAt.strQ {w : World} {b o : Nat} {W : Wrt} (h : WrtAt w b o W) (hk : Ky W.k) : w.cell? ⟨b, o + 16, none⟩ = some (.string (strOfNums W.v)) := (h.cells hk).1
set_option maxHeartbeats 1000000 in
theorem qlong_any (a : Option Addr) (N cap : Nat) (l : List Wrt) (w : World) (hl : l.length = N) (hc : N ≤ cap) (hN : N ≤ 9223372036854775807) (hat : WrtsAt w a l) :
    Calls Tryz.prog 22 #[.slice a N cap] w fun e w' => e = .returned (.bool (longQ l)) ∧ w' = w := by
  obtain ⟨R, hR⟩ : ∃ R, R = longQ l := ⟨_, rfl⟩
  have hR2 : R = (decide (20 < N) || l.any (fun W => decide (250 < W.v.length))) := by rw [hR, ← hl]; rfl
  rw [← hR]
  clear hR
  by_cases h20 : 20 < N
  · have HR : Hid (R = true) := by show R = true; rw [hR2, decide_eq_true h20]; rfl
    have d1 : (20 : Int) < (N : Int) := by omega
    clear hR2 hat hl
    go_enter Tryz.func22, Tryz.ntmps22
    go_wp2
    go_ret
    exact ⟨by rw [HR.out]; rfl, rfl⟩
  have d1 : ¬ (20 : Int) < (N : Int) := by omega
  have HR : Hid (R = l.any (fun W => decide (250 < W.v.length))) := by show R = _; rw [hR2, decide_eq_false h20]; rfl
  have HL : Hid (l.length = N) := hl
  have HA : Hid (WrtsAt w a l) := hat
  clear hR2 hat hl
  go_enter Tryz.func22, Tryz.ntmps22
  go_wp2
  go_loop [3] (fun i => ∃ n : Nat, n ≤ N ∧ i = .int .i64 n ∧ Hid (∀ W ∈ l.take n, W.v.length ≤ 250)) (fun i => N - (intOf i).toNat)
  case atStart => exact ⟨0, Nat.zero_le _, rfl, fun W hW => by simp at hW⟩
  case round =>
    obtain ⟨n, hn, rfl, HS⟩ := hrel
    have hn0 : (0 : Int) ≤ (n : Int) := by omega
    by_cases hlt : n < N
    · have h1 : (n : Int) < (N : Int) := by omega
      obtain ⟨W, hW⟩ : ∃ W, l[n]? = some W := ⟨_, List.getElem?_eq_getElem (by rw [HL.out]; exact hlt)⟩
      obtain ⟨b, o, rfl, hwa, hwo⟩ := HA.out.wrt hW
      have y0 := hwa.strQ hwo.key
      have HT : Hid (l.take (n + 1) = l.take n ++ [W]) := by show _ = _; rw [List.take_add_one, hW]; rfl
      have HWM : Hid (W ∈ l) := List.mem_of_getElem? hW
      obtain ⟨S, hS⟩ : ∃ S, S = strOfNums W.v := ⟨_, rfl⟩
      obtain ⟨m, hm⟩ : ∃ m, m = W.v.length := ⟨_, rfl⟩
      have HMW : Hid (m = W.v.length) := hm
      have hsz : S.size = m := by rw [hS, hm]; exact strOfNums_size _
      have hfew : m ≤ 9223372036854775807 := by
        have := hwo.few
        unfold maxLen at this
        rw [hm]
        exact Nat.le_trans this (by omega)
      rw [← hS] at y0
      clear hS hm hwa hwo hW
      by_cases hlong : 250 < m
      · have d2 : (250 : Int) < (m : Int) := by omega
        have HRT : Hid (R = true) := by
          show R = true
          rw [HR.out]
          exact List.any_eq_true.2 ⟨W, HWM.out, decide_eq_true (by rw [← HMW.out]; exact hlong)⟩
        go_wp2
        go_ret
        exact ⟨by rw [HRT.out]; rfl, rfl⟩
      · have d2 : ¬ (250 : Int) < (m : Int) := by omega
        have HS2 : Hid (∀ W ∈ l.take (n + 1), W.v.length ≤ 250) := fun V hV => by
          rw [HT.out] at hV
          rcases List.mem_append.1 hV with e | e
          · exact HS.out V e
          · simp at e; rw [e, ← HMW.out]; omega
        go_wp2
        go_round
        case rel => exact ⟨n + 1, by omega, by go_num, HS2⟩
        case measure => simp [intOf]; omega
    · obtain rfl : n = N := by omega
      have HRF : Hid (R = false) := by
        show R = false
        rw [HR.out]
        refine List.any_eq_false.2 (fun W hW => ?_)
        have := HS.out W (by rw [List.take_of_length_le (by rw [HL.out]; exact Nat.le_refl _)]; exact hW)
        simp; omega
      go_wp2
      go_ret
      exact ⟨by rw [HRF.out]; rfl, rfl⟩
end Go.Proofs.YtileidbdmpeciaaGreat

namespace Go.Proofs.YtileidbdmpeciaaGreat
open Go.RowKit
set_option linter.unusedVariables false
set_option linter.unusedSimpArgs false

/-- A part that has come since w; c calls at most have ended something. -/
def PaX (w u : World) (p : Nat) (P : PSt) (c : Nat) : Prop := ∃ s t m M XS XT, ParI u p s t m P M XS XT ∧ PstK P ∧ P.O.length ≤ c ∧ Below w.heap.size w u ∧ ∀ k, ParX p m XS XT k → w.heap.size ≤ k
theorem PaX.below {w u : World} {p c : Nat} {P : PSt} (h : PaX w u p P c) : Below w.heap.size w u := by obtain ⟨_, _, _, _, _, _, _, _, _, h, _⟩ := h; exact h
theorem PaX.k {w u : World} {p c : Nat} {P : PSt} (h : PaX w u p P c) : PstK P := by obtain ⟨_, _, _, _, _, _, _, h, _⟩ := h; exact h
theorem PaX.past {w u u' : World} {p c : Nat} {P : PSt} (h : PaX w u p P c) (hb : Below u.heap.size u u') : PaX w u' p P c := by
  obtain ⟨s, t, m, M, XS, XT, h1, h2, h3, h4, h5⟩ := h
  exact ⟨s, t, m, M, XS, XT, h1.past hb, h2, h3, h4.trans (hb.mono h4.size), h5⟩
theorem PaX.turn {w u u' : World} {p s t m c' : Nat} {P' : PSt} {M : List EntM} {XS XT : Foot} (h4 : Below w.heap.size w u) (h5 : ∀ k, ParX p m XS XT k → w.heap.size ≤ k) (hl : ParL u u' p s t m M XS XT P') (hk : PstK P') (hc : P'.O.length ≤ c') : PaX w u' p P' c' := by
  obtain ⟨M', XS', XT', x1, x2, _⟩ := hl
  exact ⟨s, t, m, M', XS', XT', x1, hk, hc, h4.trans (x2.chg.below h4.size h5), fun k hk => (x2.new k hk).1.elim (h5 k) (fun e => Nat.le_trans h4.size e)⟩
theorem xanew (w : World) : Calls Tryz.prog 9 #[] w fun e w' => ∃ p, e = .returned (.pointer (some ⟨p, 0, none⟩)) ∧ PaX w w' p ⟨[], [], []⟩ 0 := by
  refine (parnew_any w).mono ?_
  rintro e w' ⟨p, s, t, m, XS, XT, rfl, h1, h2, h3⟩
  exact ⟨p, rfl, s, t, m, [], XS, XT, h1, PstK.nil, Nat.le_refl _, h2, h3⟩
theorem olen_prep (P : PSt) (e : Ent) : (prepP P e).2.O = P.O := by
  unfold prepP
  repeat' split
  all_goals rfl
theorem olen_commit (P : PSt) (id t n : Int) : (commitP P id t n).2.O.length ≤ P.O.length + 1 := by
  unfold commitP
  repeat' split
  all_goals first | exact Nat.le_succ _ | (simp only [List.length_append, List.length_cons, List.length_nil]; omega)
theorem olen_abort (P : PSt) (id : Int) : (abortP P id).2.O.length ≤ P.O.length + 1 := by
  unfold abortP
  repeat' split
  all_goals first | exact Nat.le_succ _ | (simp only [List.length_append, List.length_cons, List.length_nil]; omega)
theorem wrts_ok {w : World} {a : Option Addr} {l : List Wrt} (h : WrtsAt w a l) : ∀ W ∈ l, Ky W.k ∧ ∀ z ∈ W.v, 0 ≤ z ∧ z ≤ 255 := fun W hW => ⟨(h.oks W hW).key, (h.oks W hW).val⟩
theorem xaprep {w u : World} {p c : Nat} {P : PSt} (h : PaX w u p P c) (Y : EntM) (he : EntW u Y) :
    Calls Tryz.prog 10 #[.pointer (some ⟨p, 0, none⟩), ev Y] u fun e w' => e = .returned (.int .i64 (prepP P Y.e).1) ∧ PaX w w' p (prepP P Y.e).2 c := by
  obtain ⟨s, t, m, M, XS, XT, h1, h2, h3, h4, h5⟩ := h
  refine (pprep_any Y.e.id Y.e.s Y.e.m Y.e.t Y.e.n Y.a Y.e.l.length Y.c Y.e.l u h1 h2 rfl he).mono ?_
  rintro e w' ⟨rfl, hl⟩
  exact ⟨rfl, PaX.turn h4 h5 hl (h2.prep _ (wrts_ok he.wr)) (by rw [olen_prep]; exact h3)⟩
theorem xacommit {w u : World} {p c : Nat} {P : PSt} (h : PaX w u p P c) (id t n : Int) (hid : I64 id) (hn : 0 ≤ n ∧ n ≤ 255) (hc : c ≤ 1000000) :
    Calls Tryz.prog 12 #[.pointer (some ⟨p, 0, none⟩), .int .i64 id, .agg #[.int .i64 t, .int .u8 n]] u fun e w' => e = .returned (.int .i64 (commitP P id t n).1) ∧ PaX w w' p (commitP P id t n).2 (c + 1) := by
  obtain ⟨s, tb, m, M, XS, XT, h1, h2, h3, h4, h5⟩ := h
  refine (pcommit_any id t n hid hn u h1 h2 (by omega)).mono ?_
  rintro e w' ⟨rfl, hl⟩
  exact ⟨rfl, PaX.turn h4 h5 hl (h2.commit _ _ _ hn) (by have := olen_commit P id t n; omega)⟩
theorem xaabort {w u : World} {p c : Nat} {P : PSt} (h : PaX w u p P c) (id : Int) (hid : I64 id) (hc : c ≤ 1000000) :
    Calls Tryz.prog 17 #[.pointer (some ⟨p, 0, none⟩), .int .i64 id] u fun e w' => e = .returned (.int .i64 (abortP P id).1) ∧ PaX w w' p (abortP P id).2 (c + 1) := by
  obtain ⟨s, tb, m, M, XS, XT, h1, h2, h3, h4, h5⟩ := h
  refine (pabort_any id hid u h1 h2 (by omega)).mono ?_
  rintro e w' ⟨rfl, hl⟩
  exact ⟨rfl, PaX.turn h4 h5 hl (h2.abort _) (by have := olen_abort P id; omega)⟩
theorem xastate {w u : World} {p c : Nat} {P : PSt} (h : PaX w u p P c) (id : Int) (hid : I64 id) :
    Calls Tryz.prog 19 #[.pointer (some ⟨p, 0, none⟩), .int .i64 id] u fun e w' => e = .returned (.int .i64 (stateP P id)) ∧ Below u.heap.size u w' := by
  obtain ⟨s, tb, m, M, XS, XT, h1, h2, h3, h4, h5⟩ := h
  exact pstate_any id hid u h1 h2.opn
theorem xaread {w u : World} {p c : Nat} {P : PSt} (h : PaX w u p P c) (k : List Int) (hk : Ky k) (t n now : Int) :
    Calls Tryz.prog 14 #[.pointer (some ⟨p, 0, none⟩), kv k, .agg #[.int .i64 t, .int .u8 n], .int .i64 now] u fun e w' => e = .returned (.tuple #[.string (strOfNums ((readP P k t n now).2.getD [])), .bool (readP P k t n now).2.isSome, .int .i64 (readP P k t n now).1]) ∧ Below u.heap.size u w' := by
  obtain ⟨s, tb, m, M, XS, XT, h1, h2, h3, h4, h5⟩ := h
  exact pread_any k hk t n now u h1
set_option maxHeartbeats 4000000 in
set_option maxRecDepth 4000 in
theorem qof_any (id s t : Int) (hid : -9223372036854775808 ≤ id ∧ id ≤ 9223372036854775807) (hss : -9223372036854775808 ≤ s ∧ s ≤ 9223372036854775807) (htt : -9223372036854775808 ≤ t ∧ t ≤ 9223372036854775807) (s1 : List Int) (hs : ∀ z ∈ s1, 0 ≤ z ∧ z ≤ 255) (hm : s1.length ≤ 140737488351232) (S : ByteArray) (hS : S = strOfNums s1) (K : List Int) (hK : K = ofK s1) (w : World) :
    Calls Tryz.prog 11 #[.int .i64 id, .string S, .int .i64 s, .int .i64 t] w fun e w' => (∃ Y, e = .returned (ev Y) ∧ Y.e = ⟨id, s, 0, t, 0, [⟨K, [118], false⟩]⟩ ∧ EntW w' Y) ∧ Below w.heap.size w w' := by
  have KY : Hid (Ky K) := by rw [hK]; exact ofK_ky hs
  have CA : Hid (∀ u z, Calls Tryz.prog 13 #[.int .i64 z] u fun e w' => e = .returned (.agg #[.int .i64 z, .int .u8 0]) ∧ Below u.heap.size u w') := fun u z => qatt_any z u
  have CK : Hid (∀ u, Calls Tryz.prog 15 #[.string S] u fun e w' => e = .returned (kv K) ∧ Below u.heap.size u w') := fun u => qk_any s1 hs hm S hS K hK u
  have hbw : Below w.heap.size w (w.alloc (.cells (encE zeroE).toArray 31)) := (Below.refl _ _).alloc (Nat.le_refl _) _
  have hmi := EntMine.made w 31 zeroE
  rw [zeroE_cells] at hmi hbw
  have HM0 : Hid _ := hmi
  have HBW : Hid _ := hbw
  have HS : Hid ((Value.string ⟨#[118]⟩) = .string (strOfNums [118])) := rfl
  have HEO : Hid (EntOk ⟨id, s, 0, t, 0, [⟨K, [118], false⟩]⟩) := ⟨hid, hss, (by show (0 : Int) ≤ 0 ∧ (0 : Int) ≤ 255; omega), htt, (by show (0 : Int) ≤ 0 ∧ (0 : Int) ≤ 255; omega)⟩
  have HWO : Hid (WrtOk ⟨K, [118], false⟩) := ⟨KY.out, (by intro z hz; simp at hz; omega), (by show 1 ≤ maxLen; unfold maxLen; omega)⟩
  clear hmi hbw hS hK hs hm
  go_enter Tryz.func11, Tryz.ntmps11
  go_wp2_with (first
    | (have hgo := HM0.out; clear hgo; go_at_call 13; refine (CA.out _ _).mono ?_; rintro e w1 ⟨rfl, hb1⟩; have HM1 : Hid (EntMine w1 w.heap.size zeroE) := HM0.out.past hb1; have B1 : Hid (Below w.heap.size w w1) := HBW.out.trans (hb1.mono HBW.out.size); clear hb1 HM0)
    | (have hgo := HM1.out; clear hgo; go_at_call 13; refine (CA.out _ _).mono ?_; rintro e w2 ⟨rfl, hb1⟩; have HM2 : Hid (EntMine w2 w.heap.size zeroE) := HM1.out.past hb1; have B2 : Hid (Below w.heap.size w w2) := B1.out.trans (hb1.mono B1.out.size); clear hb1 HM1)
    | (have hgo := HM2.out; clear hgo; go_at_call 15; refine (CK.out _).mono ?_; rintro e w3 ⟨rfl, hb2⟩; have HM3 : Hid (EntMine w3 w.heap.size zeroE) := HM2.out.past hb2; have B3 : Hid (Below w.heap.size w w3) := B2.out.trans (hb2.mono B2.out.size); clear hb2 HM2)
    | ((with_reducible show wpList _ _ _ (Oper.mk (some 16) _ _ _ _ _ :: _) _ _); refine wpList_build_w2 16 (by rfl) (by rfl) (.tmp 15) (.const (.string ⟨#[118]⟩)) (by rfl) K [118] KY.out (by rfl) HS.out ?_)
    | ((with_reducible show wpList _ _ _ (Oper.mk (some 17) _ _ _ _ _ :: _) _ _); refine wpList_build_ws1 17 (by rfl) (by rfl) (.tmp 16) (by rfl) ⟨K, [118], false⟩ KY.out (by rfl) ?_)
    | (have hgo := HM3.out; clear hgo; (with_reducible show wpList _ _ _ (Oper.mk none _ _ _ _ _ :: _) _ _); refine wpList_store_pent (.tmp 8) (by rfl) _ (by rfl) w.heap.size zeroE ⟨⟨id, s, 0, t, 0, [⟨K, [118], false⟩]⟩, some ⟨w3.heap.size, 0, none⟩, 1⟩ (by rfl) (by rfl) (HM3.out.past ((Below.refl _ _).alloc (Nat.le_refl _) _)) ?_; intro u3 hu; have HM4 : Hid (EntMine u3 w.heap.size ⟨⟨id, s, 0, t, 0, [⟨K, [118], false⟩]⟩, some ⟨w3.heap.size, 0, none⟩, 1⟩) := hu ▸ (HM3.out.past ((Below.refl _ _).alloc (Nat.le_refl _) _)).store; have HU3 : Hid (u3 = (w3.alloc (.cells (encW ⟨K, [118], false⟩).toArray 80)).setCells w.heap.size 0 (encE ⟨⟨id, s, 0, t, 0, [⟨K, [118], false⟩]⟩, some ⟨w3.heap.size, 0, none⟩, 1⟩)) := hu; clear hu))
  refine bodyPost_ret (results_pent1 rfl _ _ w.heap.size ⟨⟨id, s, 0, t, 0, [⟨K, [118], false⟩]⟩, some ⟨w3.heap.size, 0, none⟩, 1⟩ rfl HM4.out.at_) rfl ?_
  have hlt : w.heap.size < w3.heap.size := HM3.out.at_.lt
  refine ⟨⟨_, rfl, rfl, ⟨?_, Nat.le_refl _, by show 1 ≤ 1000000; omega, HEO.out⟩⟩, by rw [HU3.out]; exact below_cells (Nat.le_refl _) (B3.out.alloc B3.out.size _)⟩
  have hat : WrtsAt (w3.alloc (.cells (encW ⟨K, [118], false⟩).toArray 80)) (some ⟨w3.heap.size, 0, none⟩) [⟨K, [118], false⟩] := by
    have := wrts_made w3 [⟨K, [118], false⟩] (fun V hV => by simp at hV; rw [hV]; exact HWO.out)
    simpa using this
  refine hat.keptP (fun _ b o e => ?_)
  injection e with e
  injection e with e
  rw [HU3.out, ← e]
  exact cells_else (w := w) (by omega) _ _ _
/-- What awake asks, reckoned. -/
def keyQA : List Int := ofK [97]
theorem keyQA_ky : Ky keyQA := ofK_ky (by decide)
def entQA : Ent := ⟨1, 0, 0, 5, 0, [⟨keyQA, [118], false⟩]⟩
def stQ0 : PSt := ⟨[], [], []⟩
def stQ1 : PSt := (prepP stQ0 entQA).2
def stQ2 : PSt := (commitP stQ1 1 7 0).2
theorem awq_1 : (prepP stQ0 entQA).1 = 0 := by kernel_rfl
theorem awq_2 : readP stQ1 keyQA 5 0 9 = (8, none) := by kernel_rfl
theorem awq_3 : (commitP stQ1 1 7 0).1 = 0 := by kernel_rfl
theorem awq_4 : readP stQ2 keyQA 6 9 9 = (0, none) := by kernel_rfl
theorem awq_5 : readP stQ2 keyQA 7 0 9 = (0, some [118]) := by kernel_rfl
theorem awq_6 : stateP stQ2 1 = 2 := by kernel_rfl
set_option maxHeartbeats 8000000 in
set_option maxRecDepth 4000 in
theorem qawake_any (w : World) :
    Calls Tryz.prog 8 #[] w fun e w' => e = .returned (.bool true) ∧ Below w.heap.size w w' := by
  have CN : Hid (Calls Tryz.prog 9 #[] w fun e w' => ∃ p, e = .returned (.pointer (some ⟨p, 0, none⟩)) ∧ PaX w w' p stQ0 0) := xanew w
  have CA : Hid (∀ u t, Calls Tryz.prog 13 #[.int .i64 t] u fun e w' => e = .returned (.agg #[.int .i64 t, .int .u8 0]) ∧ Below u.heap.size u w') := fun u t => qatt_any t u
  obtain ⟨K, hK⟩ : ∃ K, K = keyQA := ⟨_, rfl⟩
  have KY : Hid (Ky K) := by rw [hK]; exact keyQA_ky
  obtain ⟨S1, hS1⟩ : ∃ S, S = stQ1 := ⟨_, rfl⟩
  obtain ⟨S2, hS2⟩ : ∃ S, S = stQ2 := ⟨_, rfl⟩
  have CK : Hid (∀ u, Calls Tryz.prog 15 #[.string ⟨#[97]⟩] u fun e w' => e = .returned (kv K) ∧ Below u.heap.size u w') := fun u => qk_any [97] (by decide) (by decide) _ rfl K (by rw [hK]; rfl) u
  have CO : Hid (∀ u p, PaX w u p stQ0 0 → Calls Tryz.prog 11 #[.int .i64 1, .string ⟨#[97]⟩, .int .i64 0, .int .i64 5] u fun e w' => ∃ Y, e = .returned (ev Y) ∧ Hid (Calls Tryz.prog 10 #[.pointer (some ⟨p, 0, none⟩), ev Y] w' fun e w'' => e = .returned (.int .i64 0) ∧ Hid (PaX w w'' p S1 0))) := fun u p h => by
    refine (qof_any 1 0 5 (by omega) (by omega) (by omega) [97] (by decide) (by decide) _ rfl keyQA rfl u).mono ?_
    rintro e w' ⟨⟨Y, rfl, hY, hE⟩, hb⟩
    refine ⟨Y, rfl, ?_⟩
    have := xaprep (h.past hb) Y hE
    rw [show Y.e = entQA from hY, awq_1] at this
    rw [hS1]
    exact this
  have CR1 : Hid (∀ u p, PaX w u p S1 0 → Calls Tryz.prog 14 #[.pointer (some ⟨p, 0, none⟩), kv K, .agg #[.int .i64 5, .int .u8 0], .int .i64 9] u fun e w' => e = .returned (.tuple #[.string ⟨#[]⟩, .bool false, .int .i64 8]) ∧ Below u.heap.size u w') := fun u p h => by
    have := xaread h K KY.out 5 0 9
    rw [hS1, hK, awq_2] at this
    rw [hK]
    exact this
  have CC : Hid (∀ u p, PaX w u p S1 0 → Calls Tryz.prog 12 #[.pointer (some ⟨p, 0, none⟩), .int .i64 1, .agg #[.int .i64 7, .int .u8 0]] u fun e w' => e = .returned (.int .i64 0) ∧ PaX w w' p S2 1) := fun u p h => by
    have := xacommit h 1 7 0 ⟨by omega, by omega⟩ (by omega) (by omega)
    rw [hS1, awq_3] at this
    rw [hS2]
    exact this
  have CR2 : Hid (∀ u p, PaX w u p S2 1 → Calls Tryz.prog 14 #[.pointer (some ⟨p, 0, none⟩), kv K, .agg #[.int .i64 6, .int .u8 9], .int .i64 9] u fun e w' => e = .returned (.tuple #[.string ⟨#[]⟩, .bool false, .int .i64 0]) ∧ Below u.heap.size u w') := fun u p h => by
    have := xaread h K KY.out 6 9 9
    rw [hS2, hK, awq_4] at this
    rw [hK]
    exact this
  have CR3 : Hid (∀ u p, PaX w u p S2 1 → Calls Tryz.prog 14 #[.pointer (some ⟨p, 0, none⟩), kv K, .agg #[.int .i64 7, .int .u8 0], .int .i64 9] u fun e w' => e = .returned (.tuple #[.string ⟨#[118]⟩, .bool true, .int .i64 0]) ∧ Below u.heap.size u w') := fun u p h => by
    have := xaread h K KY.out 7 0 9
    rw [hS2, hK, awq_5] at this
    rw [hK]
    exact this
  have CST : Hid (∀ u p, PaX w u p S2 1 → Calls Tryz.prog 19 #[.pointer (some ⟨p, 0, none⟩), .int .i64 1] u fun e w' => e = .returned (.int .i64 2) ∧ Below u.heap.size u w') := fun u p h => by
    have := xastate h 1 ⟨by omega, by omega⟩
    rw [hS2, awq_6] at this
    exact this
  clear hK hS1 hS2
  go_enter Tryz.func8, Tryz.ntmps8
  go_wp2_with (first
    | (go_at_call 9; refine CN.out.mono ?_; rintro e w1 ⟨p, rfl, h1⟩; have H1 : Hid (PaX w w1 p stQ0 0) := h1; clear h1 CN)
    | (have hgo := H1.out; clear hgo; go_at_call 11; refine (CO.out _ _ H1.out).mono ?_; rintro e w2 ⟨Y, rfl, H2⟩; clear H1)
    | (have hgo := H2.out; clear hgo; go_at_call 10; refine H2.out.mono ?_; rintro e w3 ⟨rfl, H3⟩; clear H2)
    | (have hgo := H3.out; clear hgo; go_at_call 15; refine (CK.out _).mono ?_; rintro e w4 ⟨rfl, hb⟩; have H4 : Hid (PaX w w4 p S1 0) := H3.out.past hb; clear hb H3)
    | (have hgo := H4.out; clear hgo; go_at_call 13; refine (CA.out _ _).mono ?_; rintro e w5 ⟨rfl, hb⟩; have H5 : Hid (PaX w w5 p S1 0) := H4.out.past hb; clear hb H4)
    | (have hgo := H5.out; clear hgo; go_at_call 14; refine (CR1.out _ _ H5.out).mono ?_; rintro e w6 ⟨rfl, hb⟩; have H6 : Hid (PaX w w6 p S1 0) := H5.out.past hb; clear hb H5)
    | (have hgo := H6.out; clear hgo; go_at_call 13; refine (CA.out _ _).mono ?_; rintro e w7 ⟨rfl, hb⟩; have H7 : Hid (PaX w w7 p S1 0) := H6.out.past hb; clear hb H6)
    | (have hgo := H7.out; clear hgo; go_at_call 12; refine (CC.out _ _ H7.out).mono ?_; rintro e w8 ⟨rfl, h8⟩; have H8 : Hid (PaX w w8 p S2 1) := h8; clear h8 H7)
    | (have hgo := H8.out; clear hgo; go_at_call 15; refine (CK.out _).mono ?_; rintro e w9 ⟨rfl, hb⟩; have H9 : Hid (PaX w w9 p S2 1) := H8.out.past hb; clear hb H8)
    | (have hgo := H9.out; clear hgo; go_at_call 14; refine (CR2.out _ _ H9.out).mono ?_; rintro e w10 ⟨rfl, hb⟩; have H10 : Hid (PaX w w10 p S2 1) := H9.out.past hb; clear hb H9)
    | (have hgo := H10.out; clear hgo; go_at_call 15; refine (CK.out _).mono ?_; rintro e w11 ⟨rfl, hb⟩; have H11 : Hid (PaX w w11 p S2 1) := H10.out.past hb; clear hb H10)
    | (have hgo := H11.out; clear hgo; go_at_call 13; refine (CA.out _ _).mono ?_; rintro e w12 ⟨rfl, hb⟩; have H12 : Hid (PaX w w12 p S2 1) := H11.out.past hb; clear hb H11)
    | (have hgo := H12.out; clear hgo; go_at_call 14; refine (CR3.out _ _ H12.out).mono ?_; rintro e w13 ⟨rfl, hb⟩; have H13 : Hid (PaX w w13 p S2 1) := H12.out.past hb; clear hb H12)
    | (have hgo := H13.out; clear hgo; go_at_call 19; refine (CST.out _ _ H13.out).mono ?_; rintro e w14 ⟨rfl, hb⟩; have H14 : Hid (PaX w w14 p S2 1) := H13.out.past hb; clear hb H13))
  go_ret
  exact ⟨rfl, H14.out.below⟩
end Go.Proofs.YtileidbdmpeciaaGreat

