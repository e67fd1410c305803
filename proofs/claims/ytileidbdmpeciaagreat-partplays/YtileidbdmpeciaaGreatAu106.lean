/-
  What layer 16's own helpers answer: at, k, long, ent.
  A landed part of the call's own, as layer 16's statements use it; what their own helpers of and awake answer.
  Numbers in groups of seven bits: the steps of a walk that reads one.
  What the document's own numbers are: Get, Put, Zig, Zag.
  The document's own reader of bytes: what each of its calls reads, and what it leaves.
  The document's own reader: Num, Byte, Bytes, End, for every reader.
  What the document reads next: a flag, a stamp, a text, a count, a key.
  What the document's own stamps (hourglassref6: Good, Cmp, Pack, Unpack, Max, Digits, Text) answer.
  What the document reads next: a stamp.
  What the document reads next: a key.
  What package bits answers, for every input: Zig, Zag, goodEnd, Len, Get, Put.
  Records in bytes, read piece by piece with a bound for each: the same as chapter 14's own reading. No program is named here.
  The landed reader of bytes (package wire): what each of its calls takes, and what it leaves.
-/
import Derived.Test.YtileidbdmpeciaaGreatAu100
import Derived.Test.YtileidbdmpeciaaGreatAu84
import Derived.Test.YtileidbdmpeciaaGreatAu112
import Derived.Test.YtileidbdmpeciaaGreatAu108
import Derived.Test.YtileidbdmpeciaaGreatPaC4
import Derived.Test.YtileidbdmpeciaaGreatAu95
import Derived.Test.YtileidbdmpeciaaGreatAu113
import Derived.Test.YtileidbdmpeciaaGreatAu105
import Derived.Test.YtileidbdmpeciaaGreatAu103
import Derived.Test.YtileidbdmpeciaaGreatAu92
import Derived.Deep.QuietTactic
import Derived.BigQuiet
import Derived.Deep.RegionHeld3
import Derived.Lib.LazyBuf
namespace Go.Proofs.YtileidbdmpeciaaGreat
open Go.RowKit
set_option linter.unusedVariables false

theorem laid_keyQ (w : World) (T : TypeId) {k : List Int} (hk : Ky k) : KeyMine ((w.alloc (.cells (kcs zeroK) T)).setCells w.heap.size 0 (k.map (Value.int .u8))) w.heap.size 0 k ∧ Below w.heap.size w ((w.alloc (.cells (kcs zeroK) T)).setCells w.heap.size 0 (k.map (Value.int .u8))) ∧ ((w.alloc (.cells (kcs zeroK) T)).setCells w.heap.size 0 (k.map (Value.int .u8))).heap.size = w.heap.size + 1 :=
  ⟨(KeyMine.made w T zeroK zeroK_ky).store hk, below_cells (Nat.le_refl _) ((Below.refl _ _).alloc (Nat.le_refl _) _), by rw [size_cells]; simp⟩
/-- A result that lies in memory is answered whole. -/
theorem results_rowQ {fn : Func} {c : Tmp} {T : TypeId} (h : fn.results = #[.cell c T]) (tmps : Array Value) (w : World) (b o : Nat) (cs : List Value) (d : TypeDesc) (hp : tmps.getD c undef = .pointer (some ⟨b, o, none⟩)) (hr : w.rangeAt b o cs) (hu : Tryz.prog.underlying T = some d) (hd : d.isRow = true) (hi : (Tryz.prog.info? T).map (·.size) = some cs.length) :
    (results fn tmps).run Tryz.prog w = .ok (.agg cs.toArray) w := by
  have hl := run_loadVar_mid (P := Tryz.prog) w b o T cs d hr hu hd hi
  unfold results
  rw [h]
  simp only [List.mapM_toArray, List.mapM_cons, List.mapM_nil, hp]
  simp [asAddr, hl]
theorem range_madeQ (w : World) (cs : List Value) (T : TypeId) : (w.alloc (.cells cs.toArray T)).rangeAt w.heap.size 0 cs := by
  intro j v hv
  rw [Nat.zero_add, World.cell?_alloc_new]
  simpa using hv
theorem qatt_any (t : Int) (w : World) :
    Calls Tryz.prog 13 #[.int .i64 t] w fun e w' => e = .returned (.agg #[.int .i64 t, .int .u8 0]) ∧ Below w.heap.size w w' := by
  go_enter Tryz.func13, Tryz.ntmps13
  go_wp2
  refine bodyPost_ret (results_rowQ rfl _ _ w.heap.size 0 [.int .i64 t, .int .u8 0] _ rfl (range_madeQ w _ _) Tryz.underlying28 rfl (by kernel_rfl)) rfl ?_
  exact ⟨rfl, (Below.refl _ _).alloc (Nat.le_refl _) _⟩
set_option maxHeartbeats 1000000 in
theorem qk_any (s : List Int) (hs : ∀ z ∈ s, 0 ≤ z ∧ z ≤ 255) (hm : s.length ≤ 140737488351232) (S : ByteArray) (hS : S = strOfNums s) (K : List Int) (hK : K = ofK s) (w : World) :
    Calls Tryz.prog 15 #[.string S] w fun e w' => e = .returned (kv K) ∧ Below w.heap.size w w' := by
  have KY : Hid (Ky K) := by rw [hK]; exact ofK_ky hs
  obtain ⟨mk, hmk⟩ : ∃ x, x = mayK s := ⟨_, rfl⟩
  have CO : Hid (∀ u, Calls Tryz.prog 55 #[.string S] u fun e w' => e = .returned (.tuple #[kv K, .bool mk]) ∧ Below u.heap.size u w') := fun u => by rw [hS, hK, hmk]; exact rof_any s hs hm u
  have HM0 : Hid (KeyMine (w.alloc (.cells (kcs zeroK) 38)) w.heap.size 0 zeroK) := KeyMine.made w 38 zeroK zeroK_ky
  have HB0 : Hid (Below w.heap.size w (w.alloc (.cells (kcs zeroK) 38))) := (Below.refl _ _).alloc (Nat.le_refl _) _
  rw [zero_cells] at HM0 HB0
  clear hS hK hmk hs
  go_enter Tryz.func15, Tryz.ntmps15
  go_wp2_with (first | (go_at_call 55; refine (CO.out _).mono ?_; rintro e w1 ⟨rfl, hb1⟩; have HM1 : Hid (KeyMine w1 w.heap.size 0 zeroK) := HM0.out.below hb1 HM0.out.lies.lt; have HB1 : Hid (Below w.heap.size w w1) := HB0.out.trans (hb1.mono HB0.out.size); have hmine := KeyMine.made w1 38 zeroK zeroK_ky; obtain ⟨hk1, hb2, hz1⟩ := laid_keyQ w1 38 KY.out; rw [zero_cells] at hmine hk1 hb2 hz1; have HMI : Hid _ := hmine; have HK1 : Hid _ := hk1; have HB2 : Hid _ := hb2; clear hb1 hmine hk1 hb2 hz1) | (have hgo := HMI.out; clear hgo; refine wpList_store_keyU (by rfl) _ _ (by rfl) w1.heap.size 0 zeroK K (by rfl) (by rfl) KY.out HMI.out ?_; intro u2 hu; rw [← hu] at HK1 HB2; have HM2 : Hid (KeyMine u2 w.heap.size 0 zeroK) := HM1.out.below HB2.out HM1.out.lies.lt; clear hu HMI) | (have hgo := HM2.out; clear hgo; refine wpList_load_keyD 10 (by rfl) (by rfl) _ (by rfl) w1.heap.size 0 (by rfl) K KY.out HK1.out.lies ?_) | (have hgo := HM2.out; clear hgo; refine wpList_store_keyU (by rfl) _ _ (by rfl) w.heap.size 0 zeroK K (by rfl) (by rfl) KY.out HM2.out ?_; intro u3 hu3; have HM3 : Hid (KeyMine u3 w.heap.size 0 K) := hu3 ▸ HM2.out.store KY.out; have HB3 : Hid (Below w.heap.size w u3) := hu3 ▸ below_cells (Nat.le_refl _) (HB1.out.trans (HB2.out.mono HB1.out.size)); clear hu3))
  refine bodyPost_ret (results_rowQ rfl _ _ w.heap.size 0 (K.map (Value.int .u8)) _ rfl (HM3.out.lies.range KY.out) Tryz.underlying38 rfl (info_keyl K KY.out)) rfl ?_
  exact ⟨rfl, HB3.out⟩
/-- Are writes more than is asked of? -/
def longQ (l : List Wrt) : Bool := decide (20 < l.length) || l.any (fun W => decide (250 < W.v.length))
theorem WrtAt.strQ {w : World} {b o : Nat} {W : Wrt} (h : WrtAt w b o W) (hk : Ky W.k) : w.cell? ⟨b, o + 16, none⟩ = some (.string (strOfNums W.v)) := (h.cells hk).1
set_option maxHeartbeats 1000000 in
theorem qlong_any (a : Option Addr) (N cap : Nat) (l : List Wrt) (w : World) (hl : l.length = N) (hc : N ≤ cap) (hN : N ≤ 9223372036854775807) (hat : WrtsAt w a l) :
    Calls Tryz.prog 22 #[.slice a N cap] w fun e w' => e = .returned (.bool (longQ l)) ∧ w' = w := by
  obtain ⟨R, hR⟩ : ∃ R, R = longQ l := ⟨_, rfl⟩
  have hR2 : R = (decide (20 < N) || l.any (fun W => decide (250 < W.v.length))) := by rw [hR, ← hl]; rfl
  rw [← hR]
  clear hR
  by_cases h20 : 20 < N
  · have HR : Hid (R = true) := by show R = true; rw [hR2, decide_eq_true h20]; rfl
    have d1 : (20 : Int) < (N : Int) := by omega
    clear hR2 hat hl
    go_enter Tryz.func22, Tryz.ntmps22
    go_wp2
    go_ret
    exact ⟨by rw [HR.out]; rfl, rfl⟩
  have d1 : ¬ (20 : Int) < (N : Int) := by omega
  have HR : Hid (R = l.any (fun W => decide (250 < W.v.length))) := by show R = _; rw [hR2, decide_eq_false h20]; rfl
  have HL : Hid (l.length = N) := hl
  have HA : Hid (WrtsAt w a l) := hat
  clear hR2 hat hl
  go_enter Tryz.func22, Tryz.ntmps22
  go_wp2
  go_loop [3] (fun i => ∃ n : Nat, n ≤ N ∧ i = .int .i64 n ∧ Hid (∀ W ∈ l.take n, W.v.length ≤ 250)) (fun i => N - (intOf i).toNat)
  case atStart => exact ⟨0, Nat.zero_le _, rfl, fun W hW => by simp at hW⟩
  case round =>
    obtain ⟨n, hn, rfl, HS⟩ := hrel
    have hn0 : (0 : Int) ≤ (n : Int) := by omega
    by_cases hlt : n < N
    · have h1 : (n : Int) < (N : Int) := by omega
      obtain ⟨W, hW⟩ : ∃ W, l[n]? = some W := ⟨_, List.getElem?_eq_getElem (by rw [HL.out]; exact hlt)⟩
      obtain ⟨b, o, rfl, hwa, hwo⟩ := HA.out.wrt hW
      have y0 := hwa.strQ hwo.key
      have HT : Hid (l.take (n + 1) = l.take n ++ [W]) := by show _ = _; rw [List.take_add_one, hW]; rfl
      have HWM : Hid (W ∈ l) := List.mem_of_getElem? hW
      obtain ⟨S, hS⟩ : ∃ S, S = strOfNums W.v := ⟨_, rfl⟩
      obtain ⟨m, hm⟩ : ∃ m, m = W.v.length := ⟨_, rfl⟩
      have HMW : Hid (m = W.v.length) := hm
      have hsz : S.size = m := by rw [hS, hm]; exact strOfNums_size _
      have hfew : m ≤ 9223372036854775807 := by
        have := hwo.few
        unfold maxLen at this
        rw [hm]
        exact Nat.le_trans this (by omega)
      rw [← hS] at y0
      clear hS hm hwa hwo hW
      by_cases hlong : 250 < m
      · have d2 : (250 : Int) < (m : Int) := by omega
        have HRT : Hid (R = true) := by
          show R = true
          rw [HR.out]
          exact List.any_eq_true.2 ⟨W, HWM.out, decide_eq_true (by rw [← HMW.out]; exact hlong)⟩
        go_wp2
        go_ret
        exact ⟨by rw [HRT.out]; rfl, rfl⟩
      · have d2 : ¬ (250 : Int) < (m : Int) := by omega
        have HS2 : Hid (∀ W ∈ l.take (n + 1), W.v.length ≤ 250) := fun V hV => by
          rw [HT.out] at hV
          rcases List.mem_append.1 hV with e | e
          · exact HS.out V e
          · simp at e; rw [e, ← HMW.out]; omega
        go_wp2
        go_round
        case rel => exact ⟨n + 1, by omega, by go_num, HS2⟩
        case measure => simp [intOf]; omega
    · obtain rfl : n = N := by omega
      have HRF : Hid (R = false) := by
        show R = false
        rw [HR.out]
        refine List.any_eq_false.2 (fun W hW => ?_)
        have := HS.out W (by rw [List.take_of_length_le (by rw [HL.out]; exact Nat.le_refl _)]; exact hW)
        simp; omega
      go_wp2
      go_ret
      exact ⟨by rw [HRF.out]; rfl, rfl⟩
set_option maxHeartbeats 2000000 in
theorem qent_any (id s m t n : Int) (a : Option Addr) (N c : Nat) (w : World) :
    Calls Tryz.prog 24 #[.agg #[.int .i64 id, .int .i64 s, .int .u8 m, .int .i64 t, .int .u8 n, .slice a N c]] w fun e w' => e = .returned (.agg #[.int .i64 id, .int .i64 s, .int .u8 m, .int .i64 t, .int .u8 n, .slice a N c]) ∧ Below w.heap.size w w' := by
  go_enter Tryz.func24, Tryz.ntmps24
  go_wp2
  refine bodyPost_ret (results_rowQ rfl _ _ (w.heap.size + 1) 0 [.int .i64 id, .int .i64 s, .int .u8 m, .int .i64 t, .int .u8 n, .slice a N c] _ rfl (by have h9 := range_madeQ (w.alloc (.cells #[.int .i64 id, .int .i64 s, .int .u8 m, .int .i64 t, .int .u8 n, .slice a N c] 31)) [.int .i64 id, .int .i64 s, .int .u8 m, .int .i64 t, .int .u8 n, .slice a N c] 58; rw [World.size_alloc] at h9; exact h9) Tryz.underlying58 rfl (by kernel_rfl)) rfl ?_
  exact ⟨rfl, ((Below.refl _ _).alloc (Nat.le_refl _) _).alloc (by simp) _⟩
end Go.Proofs.YtileidbdmpeciaaGreat

namespace Go.Proofs.YtileidbdmpeciaaGreat
open Go.RowKit
set_option linter.unusedVariables false
set_option linter.unusedSimpArgs false

/-- A part that has come since w; c calls at most have ended something. -/
def PaX (w u : World) (p : Nat) (P : PSt) (c : Nat) : Prop := ∃ s t m M XS XT, ParI u p s t m P M XS XT ∧ PstK P ∧ P.O.length ≤ c ∧ Below w.heap.size w u ∧ ∀ k, ParX p m XS XT k → w.heap.size ≤ k
theorem PaX.below {w u : World} {p c : Nat} {P : PSt} (h : PaX w u p P c) : Below w.heap.size w u := by obtain ⟨_, _, _, _, _, _, _, _, _, h, _⟩ := h; exact h
theorem PaX.k {w u : World} {p c : Nat} {P : PSt} (h : PaX w u p P c) : PstK P := by obtain ⟨_, _, _, _, _, _, _, h, _⟩ := h; exact h
theorem PaX.past {w u u' : World} {p c : Nat} {P : PSt} (h : PaX w u p P c) (hb : Below u.heap.size u u') : PaX w u' p P c := by
  obtain ⟨s, t, m, M, XS, XT, h1, h2, h3, h4, h5⟩ := h
  exact ⟨s, t, m, M, XS, XT, h1.past hb, h2, h3, h4.trans (hb.mono h4.size), h5⟩
theorem PaX.turn {w u u' : World} {p s t m c' : Nat} {P' : PSt} {M : List EntM} {XS XT : Foot} (h4 : Below w.heap.size w u) (h5 : ∀ k, ParX p m XS XT k → w.heap.size ≤ k) (hl : ParL u u' p s t m M XS XT P') (hk : PstK P') (hc : P'.O.length ≤ c') : PaX w u' p P' c' := by
  obtain ⟨M', XS', XT', x1, x2, _⟩ := hl
  exact ⟨s, t, m, M', XS', XT', x1, hk, hc, h4.trans (x2.chg.below h4.size h5), fun k hk => (x2.new k hk).1.elim (h5 k) (fun e => Nat.le_trans h4.size e)⟩
theorem xanew (w : World) : Calls Tryz.prog 9 #[] w fun e w' => ∃ p, e = .returned (.pointer (some ⟨p, 0, none⟩)) ∧ PaX w w' p ⟨[], [], []⟩ 0 := by
  refine (parnew_any w).mono ?_
  rintro e w' ⟨p, s, t, m, XS, XT, rfl, h1, h2, h3⟩
  exact ⟨p, rfl, s, t, m, [], XS, XT, h1, PstK.nil, Nat.le_refl _, h2, h3⟩
theorem olen_prep (P : PSt) (e : Ent) : (prepP P e).2.O = P.O := by
  unfold prepP
  repeat' split
  all_goals rfl
theorem olen_commit (P : PSt) (id t n : Int) : (commitP P id t n).2.O.length ≤ P.O.length + 1 := by
  unfold commitP
  repeat' split
  all_goals first | exact Nat.le_succ _ | (simp only [List.length_append, List.length_cons, List.length_nil]; omega)
theorem olen_abort (P : PSt) (id : Int) : (abortP P id).2.O.length ≤ P.O.length + 1 := by
  unfold abortP
  repeat' split
  all_goals first | exact Nat.le_succ _ | (simp only [List.length_append, List.length_cons, List.length_nil]; omega)
theorem olen_play (P : PSt) (r : Rcd) : (playP P r).2.O.length ≤ P.O.length + 1 := by
  unfold playP
  repeat' split
  · exact Nat.le_succ _
  · rw [olen_prep]; exact Nat.le_succ _
  · exact olen_commit _ _ _ _
  · exact olen_abort _ _
  · exact Nat.le_succ _
theorem wrts_ok {w : World} {a : Option Addr} {l : List Wrt} (h : WrtsAt w a l) : ∀ W ∈ l, Ky W.k ∧ ∀ z ∈ W.v, 0 ≤ z ∧ z ≤ 255 := fun W hW => ⟨(h.oks W hW).key, (h.oks W hW).val⟩
theorem xaprep {w u : World} {p c : Nat} {P : PSt} (h : PaX w u p P c) (Y : EntM) (he : EntW u Y) :
    Calls Tryz.prog 10 #[.pointer (some ⟨p, 0, none⟩), ev Y] u fun e w' => e = .returned (.int .i64 (prepP P Y.e).1) ∧ PaX w w' p (prepP P Y.e).2 c := by
  obtain ⟨s, t, m, M, XS, XT, h1, h2, h3, h4, h5⟩ := h
  refine (pprep_any Y.e.id Y.e.s Y.e.m Y.e.t Y.e.n Y.a Y.e.l.length Y.c Y.e.l u h1 h2 rfl he).mono ?_
  rintro e w' ⟨rfl, hl⟩
  exact ⟨rfl, PaX.turn h4 h5 hl (h2.prep _ (wrts_ok he.wr)) (by rw [olen_prep]; exact h3)⟩
theorem xacommit {w u : World} {p c : Nat} {P : PSt} (h : PaX w u p P c) (id t n : Int) (hid : I64 id) (hn : 0 ≤ n ∧ n ≤ 255) (hc : c ≤ 1000000) :
    Calls Tryz.prog 12 #[.pointer (some ⟨p, 0, none⟩), .int .i64 id, .agg #[.int .i64 t, .int .u8 n]] u fun e w' => e = .returned (.int .i64 (commitP P id t n).1) ∧ PaX w w' p (commitP P id t n).2 (c + 1) := by
  obtain ⟨s, tb, m, M, XS, XT, h1, h2, h3, h4, h5⟩ := h
  refine (pcommit_any id t n hid hn u h1 h2 (by omega)).mono ?_
  rintro e w' ⟨rfl, hl⟩
  exact ⟨rfl, PaX.turn h4 h5 hl (h2.commit _ _ _ hn) (by have := olen_commit P id t n; omega)⟩
theorem xastate {w u : World} {p c : Nat} {P : PSt} (h : PaX w u p P c) (id : Int) (hid : I64 id) :
    Calls Tryz.prog 19 #[.pointer (some ⟨p, 0, none⟩), .int .i64 id] u fun e w' => e = .returned (.int .i64 (stateP P id)) ∧ Below u.heap.size u w' := by
  obtain ⟨s, tb, m, M, XS, XT, h1, h2, h3, h4, h5⟩ := h
  exact pstate_any id hid u h1 h2.opn
theorem xaread {w u : World} {p c : Nat} {P : PSt} (h : PaX w u p P c) (k : List Int) (hk : Ky k) (t n now : Int) :
    Calls Tryz.prog 14 #[.pointer (some ⟨p, 0, none⟩), kv k, .agg #[.int .i64 t, .int .u8 n], .int .i64 now] u fun e w' => e = .returned (.tuple #[.string (strOfNums ((readP P k t n now).2.getD [])), .bool (readP P k t n now).2.isSome, .int .i64 (readP P k t n now).1]) ∧ Below u.heap.size u w' := by
  obtain ⟨s, tb, m, M, XS, XT, h1, h2, h3, h4, h5⟩ := h
  exact pread_any k hk t n now u h1
set_option maxHeartbeats 4000000 in
set_option maxRecDepth 4000 in
theorem qof_any (id s t : Int) (hid : -9223372036854775808 ≤ id ∧ id ≤ 9223372036854775807) (hss : -9223372036854775808 ≤ s ∧ s ≤ 9223372036854775807) (htt : -9223372036854775808 ≤ t ∧ t ≤ 9223372036854775807) (s1 : List Int) (hs : ∀ z ∈ s1, 0 ≤ z ∧ z ≤ 255) (hm : s1.length ≤ 140737488351232) (S : ByteArray) (hS : S = strOfNums s1) (K : List Int) (hK : K = ofK s1) (w : World) :
    Calls Tryz.prog 11 #[.int .i64 id, .string S, .int .i64 s, .int .i64 t] w fun e w' => (∃ Y, e = .returned (ev Y) ∧ Y.e = ⟨id, s, 0, t, 0, [⟨K, [118], false⟩]⟩ ∧ EntW w' Y) ∧ Below w.heap.size w w' := by
  have KY : Hid (Ky K) := by rw [hK]; exact ofK_ky hs
  have CA : Hid (∀ u z, Calls Tryz.prog 13 #[.int .i64 z] u fun e w' => e = .returned (.agg #[.int .i64 z, .int .u8 0]) ∧ Below u.heap.size u w') := fun u z => qatt_any z u
  have CK : Hid (∀ u, Calls Tryz.prog 15 #[.string S] u fun e w' => e = .returned (kv K) ∧ Below u.heap.size u w') := fun u => qk_any s1 hs hm S hS K hK u
  have hbw : Below w.heap.size w (w.alloc (.cells (encE zeroE).toArray 31)) := (Below.refl _ _).alloc (Nat.le_refl _) _
  have hmi := EntMine.made w 31 zeroE
  rw [zeroE_cells] at hmi hbw
  have HM0 : Hid _ := hmi
  have HBW : Hid _ := hbw
  have HS : Hid ((Value.string ⟨#[118]⟩) = .string (strOfNums [118])) := rfl
  have HEO : Hid (EntOk ⟨id, s, 0, t, 0, [⟨K, [118], false⟩]⟩) := ⟨hid, hss, (by show (0 : Int) ≤ 0 ∧ (0 : Int) ≤ 255; omega), htt, (by show (0 : Int) ≤ 0 ∧ (0 : Int) ≤ 255; omega)⟩
  have HWO : Hid (WrtOk ⟨K, [118], false⟩) := ⟨KY.out, (by intro z hz; simp at hz; omega), (by show 1 ≤ maxLen; unfold maxLen; omega)⟩
  clear hmi hbw hS hK hs hm
  go_enter Tryz.func11, Tryz.ntmps11
  go_wp2_with (first
    | (have hgo := HM0.out; clear hgo; go_at_call 13; refine (CA.out _ _).mono ?_; rintro e w1 ⟨rfl, hb1⟩; have HM1 : Hid (EntMine w1 w.heap.size zeroE) := HM0.out.past hb1; have B1 : Hid (Below w.heap.size w w1) := HBW.out.trans (hb1.mono HBW.out.size); clear hb1 HM0)
    | (have hgo := HM1.out; clear hgo; go_at_call 13; refine (CA.out _ _).mono ?_; rintro e w2 ⟨rfl, hb1⟩; have HM2 : Hid (EntMine w2 w.heap.size zeroE) := HM1.out.past hb1; have B2 : Hid (Below w.heap.size w w2) := B1.out.trans (hb1.mono B1.out.size); clear hb1 HM1)
    | (have hgo := HM2.out; clear hgo; go_at_call 15; refine (CK.out _).mono ?_; rintro e w3 ⟨rfl, hb2⟩; have HM3 : Hid (EntMine w3 w.heap.size zeroE) := HM2.out.past hb2; have B3 : Hid (Below w.heap.size w w3) := B2.out.trans (hb2.mono B2.out.size); clear hb2 HM2)
    | ((with_reducible show wpList _ _ _ (Oper.mk (some 16) _ _ _ _ _ :: _) _ _); refine wpList_build_w2 16 (by rfl) (by rfl) (.tmp 15) (.const (.string ⟨#[118]⟩)) (by rfl) K [118] KY.out (by rfl) HS.out ?_)
    | ((with_reducible show wpList _ _ _ (Oper.mk (some 17) _ _ _ _ _ :: _) _ _); refine wpList_build_ws1 17 (by rfl) (by rfl) (.tmp 16) (by rfl) ⟨K, [118], false⟩ KY.out (by rfl) ?_)
    | (have hgo := HM3.out; clear hgo; (with_reducible show wpList _ _ _ (Oper.mk none _ _ _ _ _ :: _) _ _); refine wpList_store_pent (.tmp 8) (by rfl) _ (by rfl) w.heap.size zeroE ⟨⟨id, s, 0, t, 0, [⟨K, [118], false⟩]⟩, some ⟨w3.heap.size, 0, none⟩, 1⟩ (by rfl) (by rfl) (HM3.out.past ((Below.refl _ _).alloc (Nat.le_refl _) _)) ?_; intro u3 hu; have HM4 : Hid (EntMine u3 w.heap.size ⟨⟨id, s, 0, t, 0, [⟨K, [118], false⟩]⟩, some ⟨w3.heap.size, 0, none⟩, 1⟩) := hu ▸ (HM3.out.past ((Below.refl _ _).alloc (Nat.le_refl _) _)).store; have HU3 : Hid (u3 = (w3.alloc (.cells (encW ⟨K, [118], false⟩).toArray 80)).setCells w.heap.size 0 (encE ⟨⟨id, s, 0, t, 0, [⟨K, [118], false⟩]⟩, some ⟨w3.heap.size, 0, none⟩, 1⟩)) := hu; clear hu))
  refine bodyPost_ret (results_pent1 rfl _ _ w.heap.size ⟨⟨id, s, 0, t, 0, [⟨K, [118], false⟩]⟩, some ⟨w3.heap.size, 0, none⟩, 1⟩ rfl HM4.out.at_) rfl ?_
  have hlt : w.heap.size < w3.heap.size := HM3.out.at_.lt
  refine ⟨⟨_, rfl, rfl, ⟨?_, Nat.le_refl _, by show 1 ≤ 1000000; omega, HEO.out⟩⟩, by rw [HU3.out]; exact below_cells (Nat.le_refl _) (B3.out.alloc B3.out.size _)⟩
  have hat : WrtsAt (w3.alloc (.cells (encW ⟨K, [118], false⟩).toArray 80)) (some ⟨w3.heap.size, 0, none⟩) [⟨K, [118], false⟩] := by
    have := wrts_made w3 [⟨K, [118], false⟩] (fun V hV => by simp at hV; rw [hV]; exact HWO.out)
    simpa using this
  refine hat.keptP (fun _ b o e => ?_)
  injection e with e
  injection e with e
  rw [HU3.out, ← e]
  exact cells_else (w := w) (by omega) _ _ _
/-- What awake asks, reckoned. -/
def keyQA : List Int := ofK [97]
theorem keyQA_ky : Ky keyQA := ofK_ky (by decide)
def entQA : Ent := ⟨1, 0, 0, 5, 0, [⟨keyQA, [118], false⟩]⟩
def stQ0 : PSt := ⟨[], [], []⟩
def stQ1 : PSt := (prepP stQ0 entQA).2
def stQ2 : PSt := (commitP stQ1 1 7 0).2
theorem awq_1 : (prepP stQ0 entQA).1 = 0 := by kernel_rfl
theorem awq_2 : readP stQ1 keyQA 5 0 9 = (8, none) := by kernel_rfl
theorem awq_3 : (commitP stQ1 1 7 0).1 = 0 := by kernel_rfl
theorem awq_4 : readP stQ2 keyQA 6 9 9 = (0, none) := by kernel_rfl
theorem awq_5 : readP stQ2 keyQA 7 0 9 = (0, some [118]) := by kernel_rfl
theorem awq_6 : stateP stQ2 1 = 2 := by kernel_rfl
set_option maxHeartbeats 8000000 in
set_option maxRecDepth 4000 in
theorem qawake_any (w : World) :
    Calls Tryz.prog 8 #[] w fun e w' => e = .returned (.bool true) ∧ Below w.heap.size w w' := by
  have CN : Hid (Calls Tryz.prog 9 #[] w fun e w' => ∃ p, e = .returned (.pointer (some ⟨p, 0, none⟩)) ∧ PaX w w' p stQ0 0) := xanew w
  have CA : Hid (∀ u t, Calls Tryz.prog 13 #[.int .i64 t] u fun e w' => e = .returned (.agg #[.int .i64 t, .int .u8 0]) ∧ Below u.heap.size u w') := fun u t => qatt_any t u
  obtain ⟨K, hK⟩ : ∃ K, K = keyQA := ⟨_, rfl⟩
  have KY : Hid (Ky K) := by rw [hK]; exact keyQA_ky
  obtain ⟨S1, hS1⟩ : ∃ S, S = stQ1 := ⟨_, rfl⟩
  obtain ⟨S2, hS2⟩ : ∃ S, S = stQ2 := ⟨_, rfl⟩
  have CK : Hid (∀ u, Calls Tryz.prog 15 #[.string ⟨#[97]⟩] u fun e w' => e = .returned (kv K) ∧ Below u.heap.size u w') := fun u => qk_any [97] (by decide) (by decide) _ rfl K (by rw [hK]; rfl) u
  have CO : Hid (∀ u p, PaX w u p stQ0 0 → Calls Tryz.prog 11 #[.int .i64 1, .string ⟨#[97]⟩, .int .i64 0, .int .i64 5] u fun e w' => ∃ Y, e = .returned (ev Y) ∧ Hid (Calls Tryz.prog 10 #[.pointer (some ⟨p, 0, none⟩), ev Y] w' fun e w'' => e = .returned (.int .i64 0) ∧ Hid (PaX w w'' p S1 0))) := fun u p h => by
    refine (qof_any 1 0 5 (by omega) (by omega) (by omega) [97] (by decide) (by decide) _ rfl keyQA rfl u).mono ?_
    rintro e w' ⟨⟨Y, rfl, hY, hE⟩, hb⟩
    refine ⟨Y, rfl, ?_⟩
    have := xaprep (h.past hb) Y hE
    rw [show Y.e = entQA from hY, awq_1] at this
    rw [hS1]
    exact this
  have CR1 : Hid (∀ u p, PaX w u p S1 0 → Calls Tryz.prog 14 #[.pointer (some ⟨p, 0, none⟩), kv K, .agg #[.int .i64 5, .int .u8 0], .int .i64 9] u fun e w' => e = .returned (.tuple #[.string ⟨#[]⟩, .bool false, .int .i64 8]) ∧ Below u.heap.size u w') := fun u p h => by
    have := xaread h K KY.out 5 0 9
    rw [hS1, hK, awq_2] at this
    rw [hK]
    exact this
  have CC : Hid (∀ u p, PaX w u p S1 0 → Calls Tryz.prog 12 #[.pointer (some ⟨p, 0, none⟩), .int .i64 1, .agg #[.int .i64 7, .int .u8 0]] u fun e w' => e = .returned (.int .i64 0) ∧ PaX w w' p S2 1) := fun u p h => by
    have := xacommit h 1 7 0 ⟨by omega, by omega⟩ (by omega) (by omega)
    rw [hS1, awq_3] at this
    rw [hS2]
    exact this
  have CR2 : Hid (∀ u p, PaX w u p S2 1 → Calls Tryz.prog 14 #[.pointer (some ⟨p, 0, none⟩), kv K, .agg #[.int .i64 6, .int .u8 9], .int .i64 9] u fun e w' => e = .returned (.tuple #[.string ⟨#[]⟩, .bool false, .int .i64 0]) ∧ Below u.heap.size u w') := fun u p h => by
    have := xaread h K KY.out 6 9 9
    rw [hS2, hK, awq_4] at this
    rw [hK]
    exact this
  have CR3 : Hid (∀ u p, PaX w u p S2 1 → Calls Tryz.prog 14 #[.pointer (some ⟨p, 0, none⟩), kv K, .agg #[.int .i64 7, .int .u8 0], .int .i64 9] u fun e w' => e = .returned (.tuple #[.string ⟨#[118]⟩, .bool true, .int .i64 0]) ∧ Below u.heap.size u w') := fun u p h => by
    have := xaread h K KY.out 7 0 9
    rw [hS2, hK, awq_5] at this
    rw [hK]
    exact this
  have CST : Hid (∀ u p, PaX w u p S2 1 → Calls Tryz.prog 19 #[.pointer (some ⟨p, 0, none⟩), .int .i64 1] u fun e w' => e = .returned (.int .i64 2) ∧ Below u.heap.size u w') := fun u p h => by
    have := xastate h 1 ⟨by omega, by omega⟩
    rw [hS2, awq_6] at this
    exact this
  clear hK hS1 hS2
  go_enter Tryz.func8, Tryz.ntmps8
  go_wp2_with (first
    | (go_at_call 9; refine CN.out.mono ?_; rintro e w1 ⟨p, rfl, h1⟩; have H1 : Hid (PaX w w1 p stQ0 0) := h1; clear h1 CN)
    | (have hgo := H1.out; clear hgo; go_at_call 11; refine (CO.out _ _ H1.out).mono ?_; rintro e w2 ⟨Y, rfl, H2⟩; clear H1)
    | (have hgo := H2.out; clear hgo; go_at_call 10; refine H2.out.mono ?_; rintro e w3 ⟨rfl, H3⟩; clear H2)
    | (have hgo := H3.out; clear hgo; go_at_call 15; refine (CK.out _).mono ?_; rintro e w4 ⟨rfl, hb⟩; have H4 : Hid (PaX w w4 p S1 0) := H3.out.past hb; clear hb H3)
    | (have hgo := H4.out; clear hgo; go_at_call 13; refine (CA.out _ _).mono ?_; rintro e w5 ⟨rfl, hb⟩; have H5 : Hid (PaX w w5 p S1 0) := H4.out.past hb; clear hb H4)
    | (have hgo := H5.out; clear hgo; go_at_call 14; refine (CR1.out _ _ H5.out).mono ?_; rintro e w6 ⟨rfl, hb⟩; have H6 : Hid (PaX w w6 p S1 0) := H5.out.past hb; clear hb H5)
    | (have hgo := H6.out; clear hgo; go_at_call 13; refine (CA.out _ _).mono ?_; rintro e w7 ⟨rfl, hb⟩; have H7 : Hid (PaX w w7 p S1 0) := H6.out.past hb; clear hb H6)
    | (have hgo := H7.out; clear hgo; go_at_call 12; refine (CC.out _ _ H7.out).mono ?_; rintro e w8 ⟨rfl, h8⟩; have H8 : Hid (PaX w w8 p S2 1) := h8; clear h8 H7)
    | (have hgo := H8.out; clear hgo; go_at_call 15; refine (CK.out _).mono ?_; rintro e w9 ⟨rfl, hb⟩; have H9 : Hid (PaX w w9 p S2 1) := H8.out.past hb; clear hb H8)
    | (have hgo := H9.out; clear hgo; go_at_call 14; refine (CR2.out _ _ H9.out).mono ?_; rintro e w10 ⟨rfl, hb⟩; have H10 : Hid (PaX w w10 p S2 1) := H9.out.past hb; clear hb H9)
    | (have hgo := H10.out; clear hgo; go_at_call 15; refine (CK.out _).mono ?_; rintro e w11 ⟨rfl, hb⟩; have H11 : Hid (PaX w w11 p S2 1) := H10.out.past hb; clear hb H10)
    | (have hgo := H11.out; clear hgo; go_at_call 13; refine (CA.out _ _).mono ?_; rintro e w12 ⟨rfl, hb⟩; have H12 : Hid (PaX w w12 p S2 1) := H11.out.past hb; clear hb H11)
    | (have hgo := H12.out; clear hgo; go_at_call 14; refine (CR3.out _ _ H12.out).mono ?_; rintro e w13 ⟨rfl, hb⟩; have H13 : Hid (PaX w w13 p S2 1) := H12.out.past hb; clear hb H12)
    | (have hgo := H13.out; clear hgo; go_at_call 19; refine (CST.out _ _ H13.out).mono ?_; rintro e w14 ⟨rfl, hb⟩; have H14 : Hid (PaX w w14 p S2 1) := H13.out.past hb; clear hb H13))
  go_ret
  exact ⟨rfl, H14.out.below⟩
end Go.Proofs.YtileidbdmpeciaaGreat

namespace Go.Proofs.YtileidbdmpeciaaGreat
open Go.RowKit
set_option linter.unusedVariables false

end Go.Proofs.YtileidbdmpeciaaGreat

namespace Go.Proofs.YtileidbdmpeciaaGreat
open Go.RowKit
set_option linter.unusedVariables false

end Go.Proofs.YtileidbdmpeciaaGreat

namespace Go.Proofs.YtileidbdmpeciaaGreat
open Go.RowKit
set_option linter.unusedVariables false

/-! ### Pieces of a list of bytes -/
/-- Where a[k:] lies. -/
def cutA (a : Option Addr) (cap k : Nat) : Option Addr := if cap = k then a else a.map (·.add (k * 1))
theorem Row.cut {w : World} {a : Option Addr} {zs : List Int} (h : Row w a zs) (cap k : Nat) (hc : zs.length ≤ cap) : Row w (cutA a cap k) (zs.drop k) := by
  refine ⟨fun z hz => h.bytes z (List.mem_of_mem_drop hz), ?_⟩
  unfold cutA
  by_cases hk : cap = k
  · left; exact List.drop_eq_nil_of_le (by omega)
  · rw [if_neg hk]
    rcases h.cells with rfl | ⟨b, off, rfl, hx⟩
    · left; simp
    · right
      refine ⟨b, off + k, by simp [add_plain], fun j hj => ?_⟩
      simp at hj
      rw [Nat.add_assoc, hx (k + j) (by omega)]
      simp [List.getD]
theorem Row.upto {w : World} {a : Option Addr} {zs : List Int} (h : Row w a zs) (n : Nat) : Row w a (zs.take n) := by
  refine ⟨fun z hz => h.bytes z (List.mem_of_mem_take hz), ?_⟩
  rcases h.cells with rfl | ⟨b, off, rfl, hx⟩
  · left; simp
  · right
    refine ⟨b, off, rfl, fun j hj => ?_⟩
    rw [List.length_take] at hj
    rw [hx j (by omega)]
    simp [List.getD, show j < n by omega]
theorem Row.chg {w w' : World} {a : Option Addr} {zs : List Int} {X : Foot} (h : Row w a zs) (hc : Chg w w' X) (hX : zs ≠ [] → ∀ b o s, a = some ⟨b, o, s⟩ → ¬ X b) : Row w' a zs := by
  refine ⟨h.bytes, ?_⟩
  by_cases hz : zs = []
  · exact .inl hz
  rcases h.cells with rfl | ⟨b, off, rfl, hx⟩
  · exact .inl rfl
  · refine .inr ⟨b, off, rfl, fun j hj => ?_⟩
    have h1 := hx j hj
    have hb := hc.block b (lt_of_cell h1) (hX hz b off none rfl)
    rw [← h1]
    show World.cell? w' _ = World.cell? w _
    unfold World.cell?
    rw [hb]
/-! ### The reader -/
structure Rd (w : World) (g : Nat) (a : Option Addr) (cap : Nat) (zs : List Int) (k : Nat) (b : Bool) : Prop where
  c0 : w.cell? ⟨g, 0, none⟩ = some (.slice a zs.length cap)
  c1 : w.cell? ⟨g, 1, none⟩ = some (.int .i64 k)
  c2 : w.cell? ⟨g, 2, none⟩ = some (.bool b)
  free : ∀ i, w.frozen? ⟨g, i, none⟩ = false
  row : Row w a zs
  far : zs ≠ [] → ∀ b o s, a = some ⟨b, o, s⟩ → b ≠ g
  len : k ≤ zs.length
  few : zs.length ≤ cap
  most : zs.length ≤ 1099511627776
/-- What is left to read; none: it is bad. -/
def stR (zs : List Int) (k : Nat) (b : Bool) : Option (List Int) := if b then none else some (zs.drop k)
theorem Rd.made (w : World) (T : TypeId) {a : Option Addr} {cap : Nat} {zs : List Int} (h : Row w a zs) (hc : zs.length ≤ cap) (hm : zs.length ≤ 1099511627776) : Rd (w.alloc (.cells #[.slice a zs.length cap, .int .i64 0, .bool false] T)) w.heap.size a cap zs 0 false := by
  refine ⟨by rw [World.cell?_alloc_new]; rfl, by rw [World.cell?_alloc_new]; rfl, by rw [World.cell?_alloc_new]; rfl, fun i => World.frozen?_alloc_new _ _ _ _, h.below ((Below.refl _ _).alloc (Nat.le_refl _) _) (Nat.le_refl _), fun hz b o s e => ?_, Nat.zero_le _, hc, hm⟩
  rcases h.cells with e0 | ⟨b', off, e1, hx⟩
  · exact absurd e0 hz
  · rw [e] at e1
    injection e1 with e1
    injection e1 with e1 e2 e3
    subst e1
    have hl : 0 < zs.length := by cases zs with | nil => exact absurd rfl hz | cons x r => simp
    have := lt_of_cell (hx 0 hl)
    simp at this
    omega
theorem Rd.drew {w : World} {g : Nat} {a : Option Addr} {cap : Nat} {zs : List Int} {k : Nat} {b : Bool} (h : Rd w g a cap zs k b) : Rd w.drew g a cap zs k b := ⟨h.c0, h.c1, h.c2, h.free, ⟨h.row.bytes, h.row.cells⟩, h.far, h.len, h.few, h.most⟩
theorem Rd.past {w w' : World} {g : Nat} {a : Option Addr} {cap : Nat} {zs : List Int} {k : Nat} {b : Bool} (h : Rd w g a cap zs k b) (hb : Below w.heap.size w w') : Rd w' g a cap zs k b :=
  have hl := lt_of_cell h.c0
  ⟨(hb.cell (p := ⟨g, 0, none⟩) hl).trans h.c0, (hb.cell (p := ⟨g, 1, none⟩) hl).trans h.c1, (hb.cell (p := ⟨g, 2, none⟩) hl).trans h.c2, fun i => (hb.frozen (p := ⟨g, i, none⟩) hl).trans (h.free i), h.row.below hb (Nat.le_refl _), h.far, h.len, h.few, h.most⟩
theorem Rd.drewN {w : World} {g : Nat} {a : Option Addr} {cap : Nat} {zs : List Int} {k : Nat} {b : Bool} (h : Rd w g a cap zs k b) (n : Nat) : Rd (w.drewN n) g a cap zs k b := h.past (below_dN (Below.refl _ _) n)
theorem set_off (u : World) (b i j : Nat) (v : Value) (h : j ≠ i) : (u.setCell ⟨b, i, none⟩ v).cell? ⟨b, j, none⟩ = u.cell? ⟨b, j, none⟩ := World.cell?_setCell_other _ _ _ _ (by intro e; injection e with _ e2; omega)
theorem Rd.bad {w : World} {g : Nat} {a : Option Addr} {cap : Nat} {zs : List Int} {k : Nat} {b : Bool} (h : Rd w g a cap zs k b) : Rd (w.setCell ⟨g, 2, none⟩ (.bool true)) g a cap zs k true ∧ Chg w (w.setCell ⟨g, 2, none⟩ (.bool true)) (fun j => j = g) :=
  have hc : Chg w (w.setCell ⟨g, 2, none⟩ (.bool true)) (fun j => j = g) := Chg.set w ⟨g, 2, none⟩ _ rfl
  ⟨⟨(set_off _ _ _ _ _ (by omega)).trans h.c0, (set_off _ _ _ _ _ (by omega)).trans h.c1, World.cell?_setCell_same _ _ _ h.c2, fun i => by rw [World.frozen?_setCell]; exact h.free i, h.row.chg hc h.far, h.far, h.len, h.few, h.most⟩, hc⟩
theorem Rd.on {w : World} {g : Nat} {a : Option Addr} {cap : Nat} {zs : List Int} {k : Nat} {b : Bool} (h : Rd w g a cap zs k b) (k' : Nat) (hk : k' ≤ zs.length) : Rd (w.setCell ⟨g, 1, none⟩ (.int .i64 k')) g a cap zs k' b ∧ Chg w (w.setCell ⟨g, 1, none⟩ (.int .i64 k')) (fun j => j = g) :=
  have hc : Chg w (w.setCell ⟨g, 1, none⟩ (.int .i64 k')) (fun j => j = g) := Chg.set w ⟨g, 1, none⟩ _ rfl
  ⟨⟨(set_off _ _ _ _ _ (by omega)).trans h.c0, World.cell?_setCell_same _ _ _ h.c1, (set_off _ _ _ _ _ (by omega)).trans h.c2, fun i => by rw [World.frozen?_setCell]; exact h.free i, h.row.chg hc h.far, h.far, hk, h.few, h.most⟩, hc⟩
/-- What a call that reads by p leaves. -/
def Rds {α : Type} (p : Pr α) (o o' : Option (List Int)) (v : α) : Prop := match o.bind p with
  | none => o' = none
  | some x => v = x.1 ∧ o' = some x.2
theorem Rds.cases {α : Type} {p : Pr α} {zs : List Int} {o' : Option (List Int)} {v : α} (h : Rds p (some zs) o' v) : (p zs = none ∧ o' = none) ∨ ∃ r, p zs = some (v, r) ∧ o' = some r := by
  unfold Rds at h
  rw [Option.bind_some] at h
  cases e : p zs with
  | none => rw [e] at h; exact .inl ⟨rfl, h⟩
  | some x => rw [e] at h; obtain ⟨h1, h2⟩ := h; exact .inr ⟨x.2, by rw [h1], h2⟩
theorem Rds.no {α : Type} {p : Pr α} {zs : List Int} (v : α) (h : p zs = none) : Rds p (some zs) none v := by show match p zs with | none => _ | some x => _; rw [h]
theorem Rds.yes {α : Type} {p : Pr α} {zs r : List Int} {v : α} (h : p zs = some (v, r)) : Rds p (some zs) (some r) v := by show match p zs with | none => _ | some x => _; rw [h]; exact ⟨rfl, rfl⟩
theorem Rds.seq {α β : Type} {p : Pr α} {f : α → Pr β} {o o1 o2 : Option (List Int)} {a : α} {b : β} (h1 : Rds p o o1 a) (h2 : Rds (f a) o1 o2 b) : Rds (seqP p f) o o2 b := by
  cases o with
  | none => cases (show o1 = none from h1); exact h2
  | some zs =>
    cases e : p zs with
    | none =>
      have h1' : match p zs with | none => o1 = none | some x => a = x.1 ∧ o1 = some x.2 := h1
      rw [e] at h1'
      cases (show o1 = none from h1')
      cases (show o2 = none from h2)
      exact .no b (seq_none e)
    | some x =>
      obtain ⟨y, r⟩ := x
      have h1' : match p zs with | none => o1 = none | some x => a = x.1 ∧ o1 = some x.2 := h1
      rw [e] at h1'
      obtain ⟨rfl, rfl⟩ := h1'
      show match seqP p f zs with | none => _ | some x => _
      rw [seq_some e]
      exact h2
theorem Rds.ret {α : Type} (a : α) (o : Option (List Int)) : Rds (retP a) o o a := by cases o with
  | none => rfl
  | some zs => exact .yes rfl
theorem Rds.non {α : Type} (o : Option (List Int)) (v : α) : Rds (noneP (α := α)) o none v := by cases o with
  | none => rfl
  | some zs => exact .no v rfl
end Go.Proofs.YtileidbdmpeciaaGreat

namespace Go.Proofs.YtileidbdmpeciaaGreat
open Go.RowKit
set_option linter.unusedVariables false

end Go.Proofs.YtileidbdmpeciaaGreat

namespace Go.Proofs.YtileidbdmpeciaaGreat
open Go.RowKit
set_option linter.unusedVariables false

theorem Rds.bool {o o1 o2 : Option (List Int)} {c : Int} (h : Rds byteP o o1 c) (h2 : (1 < c ∧ o2 = none) ∨ (¬ 1 < c ∧ o2 = o1)) : Rds boolP o o2 (decide (c = 1)) := by
  refine h.seq ?_
  rcases h2 with ⟨hc, rfl⟩ | ⟨hc, rfl⟩
  · rw [if_pos hc]; exact .non _ _
  · rw [if_neg hc]; exact .ret _ _
theorem Rds.count {o o1 o2 : Option (List Int)} {c v n : Int} (h : Rds numP o o1 c) (h2 : (n < c ∧ o2 = none) ∨ (¬ n < c ∧ o2 = o1 ∧ v = c)) : Rds (countP n) o o2 v := by
  refine h.seq ?_
  rcases h2 with ⟨hc, rfl⟩ | ⟨hc, rfl, rfl⟩
  · rw [if_pos hc]; exact .non _ _
  · rw [if_neg hc]; exact .ret _ _
end Go.Proofs.YtileidbdmpeciaaGreat

namespace Go.Proofs.YtileidbdmpeciaaGreat
open Go.RowKit
set_option linter.unusedVariables false

/-- Two stamps that came in and a third that is to go out, each in a block of its own. -/
structure Three (w u : World) (t n t' n' : Int) : Prop where
  a0 : u.cell? ⟨w.heap.size, 0, none⟩ = some (.int .i64 t)
  a1 : u.cell? ⟨w.heap.size, 1, none⟩ = some (.int .u8 n)
  b0 : u.cell? ⟨w.heap.size + 1, 0, none⟩ = some (.int .i64 t')
  b1 : u.cell? ⟨w.heap.size + 1, 1, none⟩ = some (.int .u8 n')
  c0 : u.cell? ⟨w.heap.size + 2, 0, none⟩ = some (.int .i64 0)
  c1 : u.cell? ⟨w.heap.size + 2, 1, none⟩ = some (.int .u8 0)
  free : ∀ j, u.frozen? ⟨w.heap.size + 2, j, none⟩ = false
  below : Below w.heap.size w u
  lt : w.heap.size + 2 < u.heap.size
theorem Three.made (w : World) (T : TypeId) (t n t' n' : Int) : Three w (((w.alloc (.cells #[.int .i64 t, .int .u8 n] T)).alloc (.cells #[.int .i64 t', .int .u8 n'] T)).alloc (.cells #[.int .i64 0, .int .u8 0] T)) t n t' n' := by
  obtain ⟨u1, h1⟩ : ∃ u, u = w.alloc (.cells #[.int .i64 t, .int .u8 n] T) := ⟨_, rfl⟩
  obtain ⟨u2, h2⟩ : ∃ u, u = u1.alloc (.cells #[.int .i64 t', .int .u8 n'] T) := ⟨_, rfl⟩
  have s1 : u1.heap.size = w.heap.size + 1 := by rw [h1]; simp
  have s2 : u2.heap.size = w.heap.size + 2 := by rw [h2]; simp [s1]
  have a0 : u1.cell? ⟨w.heap.size, 0, none⟩ = some (.int .i64 t) := by rw [h1, World.cell?_alloc_new]; rfl
  have a1 : u1.cell? ⟨w.heap.size, 1, none⟩ = some (.int .u8 n) := by rw [h1, World.cell?_alloc_new]; rfl
  have b0 : u2.cell? ⟨w.heap.size + 1, 0, none⟩ = some (.int .i64 t') := by rw [h2, ← s1, World.cell?_alloc_new]; rfl
  have b1 : u2.cell? ⟨w.heap.size + 1, 1, none⟩ = some (.int .u8 n') := by rw [h2, ← s1, World.cell?_alloc_new]; rfl
  rw [← h1, ← h2]
  refine ⟨?_, ?_, ?_, ?_, ?_, ?_, fun j => ?_, ?_, by simp [s2]⟩
  · rw [World.cell?_alloc_lt _ _ _ (by show w.heap.size < _; omega), h2, World.cell?_alloc_lt _ _ _ (by show w.heap.size < _; omega)]; exact a0
  · rw [World.cell?_alloc_lt _ _ _ (by show w.heap.size < _; omega), h2, World.cell?_alloc_lt _ _ _ (by show w.heap.size < _; omega)]; exact a1
  · rw [World.cell?_alloc_lt _ _ _ (by show w.heap.size + 1 < _; omega)]; exact b0
  · rw [World.cell?_alloc_lt _ _ _ (by show w.heap.size + 1 < _; omega)]; exact b1
  · rw [← s2, World.cell?_alloc_new]; rfl
  · rw [← s2, World.cell?_alloc_new]; rfl
  · rw [← s2]; exact World.frozen?_alloc_new _ _ _ _
  · rw [h2, h1]; exact (((Below.refl _ _).alloc (Nat.le_refl _) _).alloc (by simp) _).alloc (by simp; omega) _
theorem Three.step {w u u' : World} {t n t' n' : Int} (h : Three w u t n t' n') (hb : Below u.heap.size u u') : Three w u' t n t' n' := by
  have l := h.lt
  refine ⟨?_, ?_, ?_, ?_, ?_, ?_, fun j => (hb.frozen (p := ⟨w.heap.size + 2, j, none⟩) (by show w.heap.size + 2 < _; omega)).trans (h.free j), h.below.trans (hb.mono h.below.size), Nat.lt_of_lt_of_le h.lt hb.size⟩
  · rw [hb.cell (p := ⟨w.heap.size, 0, none⟩) (by show w.heap.size < _; omega)]; exact h.a0
  · rw [hb.cell (p := ⟨w.heap.size, 1, none⟩) (by show w.heap.size < _; omega)]; exact h.a1
  · rw [hb.cell (p := ⟨w.heap.size + 1, 0, none⟩) (by show w.heap.size + 1 < _; omega)]; exact h.b0
  · rw [hb.cell (p := ⟨w.heap.size + 1, 1, none⟩) (by show w.heap.size + 1 < _; omega)]; exact h.b1
  · rw [hb.cell (p := ⟨w.heap.size + 2, 0, none⟩) (by show w.heap.size + 2 < _; omega)]; exact h.c0
  · rw [hb.cell (p := ⟨w.heap.size + 2, 1, none⟩) (by show w.heap.size + 2 < _; omega)]; exact h.c1
end Go.Proofs.YtileidbdmpeciaaGreat

namespace Go.Proofs.YtileidbdmpeciaaGreat
open Go.RowKit
set_option linter.unusedVariables false

theorem cell_of_block {w w' : World} {q : Nat} (h : w'.heap[q]? = w.heap[q]?) (i : Nat) : w'.cell? ⟨q, i, none⟩ = w.cell? ⟨q, i, none⟩ ∧ w'.frozen? ⟨q, i, none⟩ = w.frozen? ⟨q, i, none⟩ := by
  refine ⟨?_, ?_⟩
  · unfold World.cell?; rw [h]
  · unfold World.frozen?; rw [h]
/-- A world in which, but for the reader and what is new, nothing has turned, and the reader is as in another world. -/
theorem Rd.as {w u u' : World} {g : Nat} {a : Option Addr} {cap : Nat} {zs : List Int} {k k' : Nat} {b b' : Bool} (h : Rd w g a cap zs k b) (hc : Chg w u' (fun j => j = g)) (h1 : Rd u g a cap zs k' b') (hb : u'.heap[g]? = u.heap[g]?) : Rd u' g a cap zs k' b' :=
  ⟨(cell_of_block hb 0).1.trans h1.c0, (cell_of_block hb 1).1.trans h1.c1, (cell_of_block hb 2).1.trans h1.c2, fun i => (cell_of_block hb i).2.trans (h1.free i), h.row.chg hc h.far, h.far, h1.len, h.few, h.most⟩
theorem Rds.stamp {o o1 o2 : Option (List Int)} {v t n : Int} (h : Rds numP o o1 v) (h2 : (¬ v < 9223372036854775808 ∧ o2 = none) ∨ (v < 9223372036854775808 ∧ o2 = o1 ∧ t = v / 256 ∧ n = v % 256)) : Rds stampP o o2 (t, n) := by
  refine h.seq ?_
  rcases h2 with ⟨hc, rfl⟩ | ⟨hc, rfl, rfl, rfl⟩
  · rw [if_neg hc]; exact .non _ _
  · rw [if_pos hc]; exact .ret _ _
end Go.Proofs.YtileidbdmpeciaaGreat

namespace Go.Proofs.YtileidbdmpeciaaGreat
open Go.RowKit
set_option linter.unusedVariables false

theorem chg_cells (q : Nat) : ∀ (vs : List Value) (o : Nat) (u : World), Chg u (u.setCells q o vs) (fun j => j = q)
  | [], _, u => Chg.refl _ _
  | v :: r, o, u => (Chg.set (X := fun j => j = q) u ⟨q, o, none⟩ v rfl).trans (chg_cells q r (o + 1) _) (fun _ _ x => x)
theorem KeyMine.chg {w w' : World} {b o : Nat} {k : List Int} {X : Foot} (h : KeyMine w b o k) (hc : Chg w w' X) (hX : ¬ X b) : KeyMine w' b o k := by
  have hl : b < w.heap.size := by
    have := h.lies.cell 0 (by omega)
    exact lt_of_cell this
  have hb := hc.block b hl hX
  exact ⟨⟨fun j hj => (cell_of_block hb _).1.trans (h.lies.cell j hj)⟩, fun i hi => (cell_of_block hb _).2.trans (h.free i hi), h.ky⟩
end Go.Proofs.YtileidbdmpeciaaGreat

namespace Go.Proofs.YtileidbdmpeciaaGreat
open Go.RowKit
set_option linter.unusedVariables false

end Go.Proofs.YtileidbdmpeciaaGreat

namespace Go.Proofs.YtileidbdmpeciaaGreat
set_option linter.unusedVariables false

def flagP : Pr Bool := seqP (countP 1) fun v => retP (decide (v = 1))
def txtP : Pr (List Int) := seqP (countP 200) fun n => bytesP n
def wrP : Pr Wrt := seqP (bytesP 16) fun k => seqP flagP fun g => seqP txtP fun v => retP ⟨k, v, g⟩
abbrev Bys (zs : List Int) : Prop := ∀ z ∈ zs, 0 ≤ z ∧ z ≤ 255
theorem Bys.drop {zs : List Int} (h : Bys zs) (n : Nat) : Bys (zs.drop n) := fun z hz => h z (List.mem_of_mem_drop hz)
/-- What is left of bytes is bytes. -/
def Keeps {α : Type} (p : Pr α) : Prop := ∀ zs a r, Bys zs → p zs = some (a, r) → Bys r
theorem Keeps.seq {α β : Type} {p : Pr α} {f : α → Pr β} (hp : Keeps p) (hf : ∀ a, Keeps (f a)) : Keeps (seqP p f) := by
  intro zs b r hz h
  cases e : p zs with
  | none => rw [seq_none e] at h; simp at h
  | some x =>
    obtain ⟨a, s⟩ := x
    rw [seq_some e] at h
    exact hf a _ _ _ (hp _ _ _ hz e) h
theorem Keeps.ret {α : Type} (a : α) : Keeps (retP a) := by
  intro zs b r hz h
  simp [retP] at h
  obtain ⟨_, rfl⟩ := h
  exact hz
theorem Keeps.no {α : Type} : Keeps (noneP (α := α)) := by intro zs b r hz h; simp [noneP] at h
end Go.Proofs.YtileidbdmpeciaaGreat

namespace Go.Proofs.YtileidbdmpeciaaGreat
open Go.RowKit
set_option linter.unusedVariables false

/-- A reader in block g: the bytes that it has not yet taken; a bad one has none. -/
structure LRd (w : World) (g : Nat) (a : Option Addr) (cap : Nat) (zs : List Int) (b : Bool) : Prop where
  c0 : w.cell? ⟨g, 0, none⟩ = some (.slice a zs.length cap)
  c1 : w.cell? ⟨g, 1, none⟩ = some (.bool b)
  free : ∀ i, w.frozen? ⟨g, i, none⟩ = false
  row : Row w a zs
  far : zs ≠ [] → ∀ b o s, a = some ⟨b, o, s⟩ → b < g
  few : zs.length ≤ cap
  most : zs.length ≤ 1099511627776
  gone : b = true → zs = []
/-- What is left to read; none: it is bad. -/
def stL (zs : List Int) (b : Bool) : Option (List Int) := if b then none else some zs
def LR (w : World) (g : Nat) (zs : List Int) (b : Bool) : Prop := ∃ a cap, LRd w g a cap zs b
theorem LRd.made (w : World) (T : TypeId) {a : Option Addr} {cap : Nat} {zs : List Int} (h : Row w a zs) (hc : zs.length ≤ cap) (hm : zs.length ≤ 1099511627776) : LRd (w.alloc (.cells #[.slice a zs.length cap, .bool false] T)) w.heap.size a cap zs false := by
  refine ⟨by rw [World.cell?_alloc_new]; rfl, by rw [World.cell?_alloc_new]; rfl, fun i => World.frozen?_alloc_new _ _ _ _, h.below ((Below.refl _ _).alloc (Nat.le_refl _) _) (Nat.le_refl _), fun hz b o s e => ?_, hc, hm, fun h => by simp at h⟩
  rcases h.cells with e0 | ⟨b', off, e1, hx⟩
  · exact absurd e0 hz
  · rw [e] at e1
    injection e1 with e1
    injection e1 with e1 e2 e3
    subst e1
    have hl : 0 < zs.length := by cases zs with | nil => exact absurd rfl hz | cons x r => simp
    have := lt_of_cell (hx 0 hl)
    simp at this
    omega
theorem LRd.past {w w' : World} {g : Nat} {a : Option Addr} {cap : Nat} {zs : List Int} {b : Bool} (h : LRd w g a cap zs b) (hb : Below w.heap.size w w') : LRd w' g a cap zs b :=
  have hl := lt_of_cell h.c0
  ⟨(hb.cell (p := ⟨g, 0, none⟩) hl).trans h.c0, (hb.cell (p := ⟨g, 1, none⟩) hl).trans h.c1, fun i => (hb.frozen (p := ⟨g, i, none⟩) hl).trans (h.free i), h.row.below hb (Nat.le_refl _), h.far, h.few, h.most, h.gone⟩
theorem LR.past {w w' : World} {g : Nat} {zs : List Int} {b : Bool} (h : LR w g zs b) (hb : Below w.heap.size w w') : LR w' g zs b := by
  obtain ⟨a, cap, h⟩ := h
  exact ⟨a, cap, h.past hb⟩
theorem LR.lt {w : World} {g : Nat} {zs : List Int} {b : Bool} (h : LR w g zs b) : g < w.heap.size := by
  obtain ⟨a, cap, h⟩ := h
  exact lt_of_cell h.c0
/-- The reader stays where only blocks turn that came behind it. -/
theorem LR.above {u u' : World} {g : Nat} {zs : List Int} {b : Bool} {X : Foot} (h : LR u g zs b) (hc : Chg u u' X) (hX : ∀ j, X j → g < j) : LR u' g zs b := by
  obtain ⟨a, cap, h⟩ := h
  have hb := hc.block g (lt_of_cell h.c0) (fun e => by have := hX g e; omega)
  exact ⟨a, cap, (cell_of_block hb 0).1.trans h.c0, (cell_of_block hb 1).1.trans h.c1, fun i => (cell_of_block hb i).2.trans (h.free i), h.row.chg hc (fun hz b o s e e0 => by have := h.far hz b o s e; have := hX b e0; omega), h.far, h.few, h.most, h.gone⟩
theorem LRd.bytes {w : World} {g : Nat} {a : Option Addr} {cap : Nat} {zs : List Int} {b : Bool} (h : LRd w g a cap zs b) : Bys zs := h.row.bytes
/-- A bad one. -/
theorem LRd.bad {w : World} {g : Nat} {a : Option Addr} {cap : Nat} {zs : List Int} {b : Bool} (h : LRd w g a cap zs b) : LRd ((w.setCell ⟨g, 0, none⟩ (.slice none 0 0)).setCell ⟨g, 1, none⟩ (.bool true)) g none 0 [] true ∧ Chg w ((w.setCell ⟨g, 0, none⟩ (.slice none 0 0)).setCell ⟨g, 1, none⟩ (.bool true)) (fun j => j = g) := by
  refine ⟨⟨?_, ?_, fun i => by rw [World.frozen?_setCell, World.frozen?_setCell]; exact h.free i, Row.nil _ _, fun e => absurd rfl e, by simp, by simp, fun _ => rfl⟩, ?_⟩
  · rw [set_off _ _ _ _ _ (by omega)]; exact World.cell?_setCell_same _ _ _ h.c0
  · exact World.cell?_setCell_same _ _ _ ((set_off _ _ _ _ _ (by omega)).trans h.c1)
  · exact (Chg.set (X := fun j => j = g) w ⟨g, 0, none⟩ _ rfl).trans (Chg.set (X := fun j => j = g) _ ⟨g, 1, none⟩ _ rfl) (fun _ _ x => x)
/-- Some bytes are taken. -/
theorem LRd.on {w : World} {g : Nat} {a : Option Addr} {cap : Nat} {zs : List Int} {b : Bool} (h : LRd w g a cap zs b) (k : Nat) (hk : k ≤ zs.length) : LRd (w.setCell ⟨g, 0, none⟩ (.slice (cutA a cap k) (zs.length - k) (cap - k))) g (cutA a cap k) (cap - k) (zs.drop k) b ∧ Chg w (w.setCell ⟨g, 0, none⟩ (.slice (cutA a cap k) (zs.length - k) (cap - k))) (fun j => j = g) := by
  have hc : Chg w (w.setCell ⟨g, 0, none⟩ (.slice (cutA a cap k) (zs.length - k) (cap - k))) (fun j => j = g) := Chg.set w ⟨g, 0, none⟩ _ rfl
  have hf : zs.drop k ≠ [] → ∀ b o s, cutA a cap k = some ⟨b, o, s⟩ → b < g := by
    intro hz b0 o s e
    have hzs : zs ≠ [] := fun e0 => hz (by rw [e0]; simp)
    unfold cutA at e
    by_cases h1 : cap = k
    · exfalso; apply hz; exact List.drop_eq_nil_of_le (by have := h.few; omega)
    · rw [if_neg h1] at e
      cases a with
      | none => simp at e
      | some x =>
        obtain ⟨b1, o1, s1⟩ := x
        have hb : b1 = b0 := by
          simp only [Option.map_some, Option.some.injEq] at e
          unfold Addr.add at e
          split at e <;> (injection e)
        rw [← hb]
        exact h.far hzs b1 o1 s1 rfl
  refine ⟨⟨?_, (set_off _ _ _ _ _ (by omega)).trans h.c1, fun i => by rw [World.frozen?_setCell]; exact h.free i, (h.row.cut cap k h.few).chg hc (fun hz b o s e e0 => by have := hf hz b o s e; omega), hf, ?_, ?_, fun e => by rw [h.gone e]; simp⟩, hc⟩
  · rw [List.length_drop]; exact World.cell?_setCell_same _ _ _ h.c0
  · rw [List.length_drop]; have := h.few; omega
  · rw [List.length_drop]; have := h.most; omega
end Go.Proofs.YtileidbdmpeciaaGreat

