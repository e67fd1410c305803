/-
  What the landed reading of tables (leap: fits, Parse) answers, where the library's table of powers of ten and its two errors hold what their text lays.
-/
import Derived.Test.YthkafbeojeedbaaDoorLeapRd
import Derived.Test.YthkafbeojeedbaaDoorLeapTB
import Derived.BigRegion
import Derived.Deep.RegionLaw
import Derived.Deep.DeepCutAuto
namespace Go.Proofs.YthkafbeojeedbaaDoor
open Go.RowKit
set_option linter.unusedVariables false

set_option maxRecDepth 4000 in
set_option maxHeartbeats 1000000 in
theorem fits_any (B b : Nat) (v : Value) (acc : Tb) (D n : Int) (w : World) (hT : LTab w B b v acc) (hs : Sofar acc) (hl : acc.length ≤ 1000) (hn : -9999 ≤ n ∧ n ≤ 9999) :
    Calls Tryd.prog 23 #[.pointer (some ⟨b, 0, none⟩), .agg #[.int .i64 D, .int .i64 n]] w fun e w' => e = .returned (.bool (decide (Fits acc.getLast? (D, n)))) ∧ Below w.heap.size w w' := by
  have T1 : Hid (LTab (w.alloc (.cells #[.int .i64 D, .int .i64 n] 53)) B b v acc) := hT.past _
  have t0 := T1.out.c0
  by_cases h0 : acc = []
  · subst h0
    obtain ⟨a, c, rfl⟩ : ∃ a c, v = .slice a 0 c := by
      rcases hT.own.2 with ⟨h5, _⟩ | ⟨g, cap, cur, h5, _⟩
      · exact ⟨_, _, h5⟩
      · exact ⟨_, _, h5⟩
    have hd : decide (Fits ([] : Tb).getLast? (D, n)) = true := decide_eq_true (fits_none _)
    rw [hd]
    clear hT hs hl hd
    go_enter Tryd.func23, Tryd.ntmps23
    go_wp2
    go_ret
    exact ⟨rfl, (Below.refl _ _).alloc (Nat.le_refl _) _⟩
  · obtain ⟨g, cap, hv, hcap, hg, hcells⟩ := T1.out.shape h0
    obtain ⟨k, hk⟩ : ∃ k, acc.length = k + 1 := ⟨acc.length - 1, by have := List.length_pos_iff.2 h0; omega⟩
    obtain ⟨q, hq⟩ : ∃ q, acc[k]? = some q := ⟨acc[k]'(by omega), by simp [show k < acc.length by omega]⟩
    have hlast : acc.getLast? = some q := by rw [List.getLast?_eq_getElem?, hk]; exact hq
    have hqr := hs.offs q (List.mem_of_getElem? hq)
    have cq := hcells k q hq
    obtain ⟨qd, qo⟩ := q
    obtain ⟨c0, c1⟩ := cq
    simp only at hqr c0 c1
    rw [hk] at hv hcap hl
    subst hv
    rw [hlast]
    obtain ⟨r, hr⟩ : ∃ r, r = decide (Fits (some (qd, qo)) (D, n)) := ⟨_, rfl⟩
    have HR : Hid (r = decide (Fits (some (qd, qo)) (D, n))) := hr
    rw [← hr]
    clear hr
    have e1 : ((k + 1 : Nat) : Int) - 1 = (k : Int) := by omega
    have hlt : (k : Int) < ((k + 1 : Nat) : Int) := by omega
    have hge : (0 : Int) ≤ (k : Int) := by omega
    have hwr : IntKind.i64.wrap (k : Int) = k := by rw [IntKind.wrap_i64]; omega
    have hkk : (k : Int) < (k : Int) + 1 := by omega
    have htn : (k : Int).toNat = k := by omega
    have t0p := cellp t0
    have c0p := cellp c0
    have c1p := cellp c1
    clear hlast hq hk h0 hs hT hcells
    go_enter Tryd.func23, Tryd.ntmps23
    go_wp2
    go_region
    have hwn : IntKind.i64.wrap (n - qo) = n - qo := by rw [IntKind.wrap_i64]; omega
    have hfin : Below w.heap.size w ((w.alloc (Obj.cells #[Value.int IntKind.i64 D, Value.int IntKind.i64 n] 53)).alloc (Obj.cells #[Value.int IntKind.i64 qd, Value.int IntKind.i64 qo] 53)).drew := (((Below.refl _ _).alloc (Nat.le_refl _) _).alloc (by simp) _).drew
    have HF : Hid _ := hfin
    clear hfin t0p c0p c1p t0 c0 c1 T1 hcap hg
    by_cases d1 : qd < D
    · by_cases d2 : n - qo = 1
      · have hd : decide (Fits (some (qd, qo)) (D, n)) = true := decide_eq_true ⟨d1, .inl (by show n = qo + 1; omega)⟩
        have HD : Hid (r = true) := HR.out.trans hd
        clear hd HR
        have b2 : (n - qo == 1) = true := by simpa using d2
        go_wp2
        go_ret
        exact ⟨by rw [HD.out]; rfl, HF.out⟩
      · have b2 : (n - qo == 1) = false := by simpa using d2
        by_cases d3 : n - qo = -1
        · have hd : decide (Fits (some (qd, qo)) (D, n)) = true := decide_eq_true ⟨d1, .inr (by show n = qo - 1; omega)⟩
          have HD : Hid (r = true) := HR.out.trans hd
          clear hd HR
          have b3 : (n - qo == -1) = true := by simpa using d3
          go_wp2
          go_ret
          exact ⟨by rw [HD.out]; rfl, HF.out⟩
        · have hd : decide (Fits (some (qd, qo)) (D, n)) = false := decide_eq_false (fun h => by have h1 : n = qo + 1 ∨ n = qo - 1 := h.2; omega)
          have HD : Hid (r = false) := HR.out.trans hd
          clear hd HR
          have b3 : (n - qo == -1) = false := by simpa using d3
          go_wp2
          go_ret
          exact ⟨by rw [HD.out]; rfl, HF.out⟩
    · have hd : decide (Fits (some (qd, qo)) (D, n)) = false := decide_eq_false (fun h => by have h1 : qd < D := h.1; omega)
      have HD : Hid (r = false) := HR.out.trans hd
      clear hd HR
      have b1 : decide (qd < D) = false := decide_eq_false d1
      go_wp2
      go_ret
      exact ⟨by rw [HD.out]; rfl, HF.out⟩
/-- A text's bytes. -/
def strLen : Value → Nat
  | .string s => s.size
  | _ => 0
/-- What comes back of a text. -/
structure LRes (xs : List Int) (e : Ending) (w' : World) : Prop where
  many : 60 < (linesOf xs).1.length → e = .returned (.tuple #[.pointer none, .int .i64 2])
  form : (linesOf xs).1.length ≤ 60 → parseTb xs = none → e = .returned (.tuple #[.pointer none, .int .i64 3])
  good : ∀ tb, parseTb xs = some tb → ∃ p, e = .returned (.tuple #[.pointer (some p), .int .i64 0]) ∧ TB w' p tb xs
theorem LRes.no {xs : List Int} {w' : World} (h1 : (linesOf xs).1.length ≤ 60) (h2 : parseTb xs = none) : LRes xs (.returned (.tuple #[.pointer none, .int .i64 3])) w' :=
  ⟨fun h => by omega, fun _ _ => rfl, fun tb h => by rw [h2] at h; cases h⟩
/-- What the loop over the lines keeps. -/
structure LV (xs : List Int) (w wr : World) (v : Value) (acc : Tb) (ys : List Int) : Prop where
  tab : LTab wr w.heap.size w.heap.size v acc
  below : Below w.heap.size w wr
  bytes : ∀ z ∈ ys, 0 ≤ z ∧ z ≤ 255
  short : ys.length ≤ 2000
  sofar : Sofar acc
  count : acc.length + (linesOf ys).1.length = (linesOf xs).1.length
  go : goN [] (linesOf xs).1 = goN acc (linesOf ys).1
  tail : (linesOf xs).2 = (linesOf ys).2
theorem LV.step {xs : List Int} {w wr w' : World} {v : Value} {acc : Tb} {ys : List Int} (h : LV xs w wr v acc ys) (hb : Below wr.heap.size wr w') : LV xs w w' v acc ys :=
  ⟨h.tab.step hb (Nat.le_refl _), h.below.trans (hb.mono h.below.size), h.bytes, h.short, h.sofar, h.count, h.go, h.tail⟩
theorem LV.past {xs : List Int} {w wr : World} {v : Value} {acc : Tb} {ys : List Int} (h : LV xs w wr v acc ys) (o : Obj) : LV xs w (wr.alloc o) v acc ys := h.step ((Below.refl _ _).alloc (Nat.le_refl _) o)
theorem pl_none {xs ys : List Int} {acc : Tb} {w wr : World} {v : Value} (h : LV xs w wr v acc ys) (hn : (linesOf xs).1.length ≤ 60) (he : (cut1 10 ys).2.2 = true) (hp : ∀ p, plN (cut1 10 ys).1 = some p → ¬ Fits acc.getLast? p) : parseTb xs = none := by
  unfold parseTb
  split
  · have hg := h.go
    rw [lines_hit he] at hg
    rw [hg]
    unfold goN
    split
    · rfl
    · rename_i p hp'
      rw [if_neg (hp p hp')]
  · rfl
theorem tail_none {xs ys : List Int} {acc : Tb} {w wr : World} {v : Value} (h : LV xs w wr v acc ys) (hy : ys ≠ []) (he : (cut1 10 ys).2.2 = false) : parseTb xs = none := by
  unfold parseTb
  rw [if_neg]
  intro hc
  have := hc.2.1
  rw [h.tail, lines_miss he] at this
  exact hy this
theorem LV.next {xs ys : List Int} {acc : Tb} {w wr w6 : World} {v v' : Value} {p : Int × Int} (h : LV xs w wr v acc ys) (he : (cut1 10 ys).2.2 = true) (hp : plN (cut1 10 ys).1 = some p) (hf : Fits acc.getLast? p) (hg : wr.grownBy w6 v.ownBlock) (ho : w6.ownsRow w.heap.size 53 2 v' (acc.length + 1) (prs acc ++ [.int .i64 p.1, .int .i64 p.2])) (hb : Below w.heap.size w w6) : LV xs w (w6.setCell ⟨w.heap.size, 0, none⟩ v') v' (acc ++ [p]) (cut1 10 ys).2.1 := by
  have hl := lines_hit he
  have hc := h.count
  have hgo := h.go
  have ht := h.tail
  rw [hl] at hc hgo ht
  refine ⟨h.tab.more hg ho, hb.setCell (Nat.le_refl _) _, (cut1_by 10 ys h.bytes).2, Nat.le_trans (cut1_len 10 ys).2.1 h.short, h.sofar.snoc hp hf, ?_, ?_, ht⟩
  · simp at hc ⊢; omega
  · rw [hgo]
    show (match plN (cut1 10 ys).1 with | none => none | some p => if Fits acc.getLast? p then goN (acc ++ [p]) _ else none) = _
    rw [hp]
    simp only [if_pos hf]
theorem LV.done {xs : List Int} {acc : Tb} {w wr : World} {v : Value} (h : LV xs w wr v acc []) (hn : (linesOf xs).1.length ≤ 60) : parseTb xs = if acc = [] then none else some acc := by
  have hc := h.count
  have hgo := h.go
  have ht := h.tail
  have e : linesOf [] = ([], []) := rfl
  rw [e] at hc hgo ht
  simp at hc
  have h1 : goN acc [] = some acc := rfl
  unfold parseTb cnt
  rw [ht, hgo, h1]
  by_cases ha : acc = []
  · rw [if_pos ha]
    have : (linesOf xs).1 = [] := List.eq_nil_of_length_eq_zero (by rw [← hc, ha]; rfl)
    rw [if_neg (fun h => h.2.2 this)]
  · rw [if_neg ha, if_pos ⟨by simp; omega, rfl, fun h => ha (List.eq_nil_of_length_eq_zero (by rw [hc, h]; rfl))⟩]
set_option maxRecDepth 8000 in
set_option maxHeartbeats 4000000 in
theorem lparse_any (xs : List Int) (w : World) (hR : Ready w) (hE : LE w) (hb : ∀ z ∈ xs, 0 ≤ z ∧ z ≤ 255) (hl : xs.length ≤ 2000) :
    Calls Tryd.prog 10 #[.string (strOfNums xs)] w fun e w' => LRes xs e w' ∧ Below w.heap.size w w' := by
  have CN : Hid (∀ u, Calls Tryd.prog 20 #[.string (strOfNums xs), .string ⟨#[10]⟩] u fun e w' => e = .returned (.int .i64 ((linesOf xs).1.length : Nat)) ∧ w' = u) := fun u => by
    have h := Tryd.strings_Count_one (strOfNums xs) 10 u
    have hd : (strOfNums xs).data.toList = bts xs := by simp [strOfNums, bts]
    rw [hd, spl_count xs [] hb] at h
    exact h
  have hN2 : (linesOf xs).1.length ≤ 2000 := Nat.le_trans (spl_len xs []) hl
  obtain ⟨N, hN⟩ : ∃ N, N = (linesOf xs).1.length := ⟨_, rfl⟩
  have HN : Hid (N = (linesOf xs).1.length) := hN
  obtain ⟨S0, hS0⟩ : ∃ S, S = strOfNums xs := ⟨_, rfl⟩
  have HS0 : Hid (S0 = strOfNums xs) := hS0
  rw [← hN, ← hS0] at CN
  rw [← hN] at hN2
  rw [← hS0]
  clear hN hS0
  have RR : Hid (Ready w) := hR
  have EE : Hid (LE w) := hE
  by_cases c1 : 60 < N
  · have c1' : (60 : Int) < (N : Int) := by omega
    have HG : Hid (∀ tb, ¬ parseTb xs = some tb) := fun tb h => by
      unfold parseTb at h
      split at h
      · rename_i hc
        have h1 := hc.1
        unfold cnt at h1
        have := HN.out
        omega
      · cases h
    clear hb hl hR hE
    go_enter Tryd.func10, Tryd.ntmps10
    go_wp2_with (go_at_call 20; refine (CN.out _).mono ?_; rintro e w1 ⟨rfl, hw⟩; obtain rfl := hw.symm; clear hw)
    go_ret2
    exact ⟨⟨fun _ => rfl, fun h => by have := HN.out; omega, fun tb h => absurd h (HG.out tb)⟩, Below.refl _ _⟩
  · have c1' : ¬ (60 : Int) < (N : Int) := by omega
    have HN6 : Hid ((linesOf xs).1.length ≤ 60) := by show _ ≤ _; have := HN.out; omega
    have L0 : Hid (LV xs w (w.alloc (.cells #[.slice none 0 0] 49)) (.slice none 0 0) [] xs) := ⟨LTab.made w _ (Nat.le_refl _), (Below.refl _ _).alloc (Nat.le_refl _) _, hb, hl, Sofar.nil, by simp, rfl, rfl⟩
    clear hb hl hR hE
    go_enter Tryd.func10, Tryd.ntmps10
    go_wp2_with (go_at_call 20; refine (CN.out _).mono ?_; rintro e w1 ⟨rfl, hw⟩; obtain rfl := hw.symm; clear hw)
    go_loopw [0] (fun tv wr => ∃ (ys : List Int) (acc : Tb) (v : Value), tv = .string (strOfNums ys) ∧ Hid (LV xs w wr v acc ys)) (fun tv _ => strLen tv)
    case atStart => exact ⟨xs, [], _, by rw [HS0.out], L0⟩
    case round =>
      obtain ⟨ys, acc, v, rfl, HV⟩ := hrel
      have t0 := HV.out.tab.c0
      by_cases hy : ys = []
      · subst hy
        have HD : Hid (parseTb xs = if acc = [] then none else some acc) := HV.out.done HN6.out
        have hS : strOfNums [] = ⟨#[]⟩ := rfl
        rw [hS]
        by_cases ha : acc = []
        · obtain ⟨a, c, hv⟩ : ∃ a c, v = .slice a 0 c := by
            rcases HV.out.tab.own.2 with ⟨h5, _⟩ | ⟨g, cap, cur, h5, _⟩
            · exact ⟨_, _, h5⟩
            · exact ⟨_, _, by rw [h5, ha]; rfl⟩
          have HNO : Hid (parseTb xs = none) := by show _ = _; rw [HD.out, if_pos ha]
          subst hv
          clear ha HD hS
          go_wp2
          go_ret2
          exact ⟨LRes.no HN6.out HNO.out, HV.out.below⟩
        · obtain ⟨g, cap, hv, hcap, _, _⟩ := HV.out.tab.shape ha
          have HSO : Hid (parseTb xs = some acc) := by show _ = _; rw [HD.out, if_neg ha]
          obtain ⟨k, hk⟩ : ∃ k, acc.length = k + 1 := ⟨acc.length - 1, by have := List.length_pos_iff.2 ha; omega⟩
          rw [hk] at hv hcap
          subst hv
          have hkk : ((k : Int) + 1 == 0) = false := by simp; omega
          clear ha HD hS hk
          go_wp2
          go_ret2
          refine ⟨⟨fun h => by have := HN6.out; omega, fun _ h => (by rw [HSO.out] at h; cases h), fun tb h => ?_⟩, HV.out.below⟩
          have ht := parse_text HSO.out
          rw [HSO.out] at h
          cases h
          exact ⟨_, rfl, ⟨_, _, _, rfl, HV.out.tab⟩, ht⟩
      · obtain ⟨S, hS⟩ : ∃ S, S = strOfNums ys := ⟨_, rfl⟩
        have HS : Hid (S = strOfNums ys) := hS
        have hne : S.toList.isEmpty = false := by
          rw [hS]
          cases h : (strOfNums ys).toList with
          | nil => exact absurd (str_inj HV.out.bytes (fun z hz => by simp at hz) (h.trans (by rw [ByteArray.toList_eq]; rfl : ([] : List UInt8) = (strOfNums []).toList))) hy
          | cons z r => rfl
        rw [← hS]
        have HYN : Hid (ys ≠ []) := hy
        obtain ⟨bA, bB⟩ := cut1_by 10 ys HV.out.bytes
        obtain ⟨lA, lB, lC⟩ := cut1_len 10 ys
        have hsh := HV.out.short
        obtain ⟨SA, hSA⟩ : ∃ S, S = strOfNums (cut1 10 ys).1 := ⟨_, rfl⟩
        obtain ⟨SB, hSB⟩ : ∃ S, S = strOfNums (cut1 10 ys).2.1 := ⟨_, rfl⟩
        have HSB : Hid (SB = strOfNums (cut1 10 ys).2.1) := hSB
        have CC : Hid (∀ u, Calls Tryd.prog 21 #[.string S, .string ⟨#[10]⟩] u fun e w' => e = .returned (.tuple #[.string SA, .string SB, .bool (cut1 10 ys).2.2]) ∧ Below u.heap.size u w') := fun u => by rw [hS, hSA, hSB]; exact cut_any ys 10 (by decide) HV.out.bytes (by omega) u
        have CR0 : Hid (∀ u, Ready u → LE u → Calls Tryd.prog 22 #[.string SA] u fun e w' => PRes (cut1 10 ys).1 e ∧ Below u.heap.size u w') := fun u r x => by rw [hSA]; exact rline_any _ u r x bA (by omega)
        cases he : (cut1 10 ys).2.2 with
        | false =>
          rw [he] at CC
          have HNO : Hid (parseTb xs = none) := tail_none HV.out hy he
          have CR : Hid (∀ u, Ready u → LE u → Calls Tryd.prog 22 #[.string SA] u fun e w' => (∃ (a b : Int) (c : Bool), e = .returned (.tuple #[.agg #[.int .i64 a, .int .i64 b], .bool c])) ∧ Below u.heap.size u w') := fun u r x => (CR0.out u r x).mono (by
            rintro e w' ⟨h, hb⟩
            refine ⟨?_, hb⟩
            cases hp : plN (cut1 10 ys).1 with
            | none => obtain ⟨a, b, rfl⟩ := h.no hp; exact ⟨a, b, false, rfl⟩
            | some p => exact ⟨_, _, true, h.good p hp⟩)
          clear hS hSA hSB bA bB lA lB lC hsh hy he
          go_wp2_with (first | (go_at_call 22; refine (CR.out _ (RR.out.on V1.out.below) (EE.out.on V1.out.below)).mono ?_; rintro e w2 ⟨⟨a, b, c, rfl⟩, hb2⟩; have V2 : Hid (LV xs w (w2.alloc (.cells #[.int .i64 a, .int .i64 b] 53)) v acc ys) := (V1.out.step hb2).past _; clear hb2) | (go_at_call 21; refine (CC.out _).mono ?_; rintro e w1 ⟨rfl, hb1⟩; have V1 : Hid (LV xs w w1 v acc ys) := HV.out.step hb1; clear hb1))
          go_ret2
          exact ⟨LRes.no HN6.out HNO.out, V2.out.below⟩
        | true =>
          rw [he] at CC
          cases hp : plN (cut1 10 ys).1 with
          | none =>
            have HNO : Hid (parseTb xs = none) := pl_none HV.out HN6.out he (fun p h => by rw [hp] at h; cases h)
            have CR : Hid (∀ u, Ready u → LE u → Calls Tryd.prog 22 #[.string SA] u fun e w' => (∃ (a b : Int), e = .returned (.tuple #[.agg #[.int .i64 a, .int .i64 b], .bool false])) ∧ Below u.heap.size u w') := fun u r x => (CR0.out u r x).mono (by
              rintro e w' ⟨h, hb⟩
              exact ⟨h.no hp, hb⟩)
            clear hS hSA hSB bA bB lA lB lC hsh hy he hp
            go_wp2_with (first | (go_at_call 22; refine (CR.out _ (RR.out.on V1.out.below) (EE.out.on V1.out.below)).mono ?_; rintro e w2 ⟨⟨a, b, rfl⟩, hb2⟩; have V2 : Hid (LV xs w (w2.alloc (.cells #[.int .i64 a, .int .i64 b] 53)) v acc ys) := (V1.out.step hb2).past _; clear hb2) | (go_at_call 21; refine (CC.out _).mono ?_; rintro e w1 ⟨rfl, hb1⟩; have V1 : Hid (LV xs w w1 v acc ys) := HV.out.step hb1; clear hb1))
            go_ret2
            exact ⟨LRes.no HN6.out HNO.out, V2.out.below⟩
          | some p =>
            obtain ⟨D, n⟩ := p
            have hpr := pl_range hp
            simp only at hpr
            have CR : Hid (∀ u, Ready u → LE u → Calls Tryd.prog 22 #[.string SA] u fun e w' => e = .returned (.tuple #[.agg #[.int .i64 D, .int .i64 n], .bool true]) ∧ Below u.heap.size u w') := fun u r x => (CR0.out u r x).mono (by
              rintro e w' ⟨h, hb⟩
              exact ⟨h.good _ hp, hb⟩)
            have CF : Hid (∀ u, LV xs w u v acc ys → Calls Tryd.prog 23 #[.pointer (some ⟨w.heap.size, 0, none⟩), .agg #[.int .i64 D, .int .i64 n]] u fun e w' => e = .returned (.bool (decide (Fits acc.getLast? (D, n)))) ∧ Below u.heap.size u w') := fun u h => fits_any _ _ v acc D n u h.tab h.sofar (by have h1 := h.count; have h2 := HN6.out; omega) hpr.2
            by_cases hf : Fits acc.getLast? (D, n)
            · rw [decide_eq_true hf] at CF
              have HNX : Hid _ := @LV.next xs ys acc w
              have HE : Hid ((cut1 10 ys).2.2 = true) := he
              have HP : Hid (plN (cut1 10 ys).1 = some (D, n)) := hp
              have HFT : Hid (Fits acc.getLast? (D, n)) := hf
              have HLT : Hid ((cut1 10 ys).2.1.length < ys.length) := lC he
              clear hS hSA hSB bA bB lA lB lC hsh hy he hp hf hpr
              go_wp2_with (first | (go_at_call 23; refine (CF.out _ V2.out).mono ?_; rintro e w3 ⟨rfl, hb3⟩; have V3 : Hid (LV xs w w3 v acc ys) := V2.out.step hb3; have l0 : w3.cell? ⟨w2.heap.size, 0, none⟩ = some (.int .i64 D) := (by rw [hb3.cell (p := ⟨w2.heap.size, 0, none⟩) (by simp)]; rw [World.cell?_alloc_new]; rfl); have l1 : w3.cell? ⟨w2.heap.size, 1, none⟩ = some (.int .i64 n) := (by rw [hb3.cell (p := ⟨w2.heap.size, 1, none⟩) (by simp)]; rw [World.cell?_alloc_new]; rfl); have t3 := V3.out.tab.c0; clear hb3) | (go_at_call 22; refine (CR.out _ (RR.out.on V1.out.below) (EE.out.on V1.out.below)).mono ?_; rintro e w2 ⟨rfl, hb2⟩; have V2 : Hid (LV xs w (w2.alloc (.cells #[.int .i64 D, .int .i64 n] 53)) v acc ys) := (V1.out.step hb2).past _; clear hb2) | (go_at_call 21; refine (CC.out _).mono ?_; rintro e w1 ⟨rfl, hb1⟩; have V1 : Hid (LV xs w w1 v acc ys) := HV.out.step hb1; clear hb1))
              have VD : Hid (LV xs w (w3.alloc (.cells #[.int .i64 D, .int .i64 n] 53)).drew v acc ys) := (V3.out.past _).step (Below.refl _ _).drew
              have HAL : Hid (acc.length ≤ 1000000) := by show _ ≤ _; have h1 := V3.out.count; have h2 := HN6.out; omega
              have t3p := cellp t3
              have l0p := cellp l0
              have l1p := cellp l1
              go_region_law (refine step_append_one rfl (.tmp 44) (.tmp 46) 47 53 (.agg #[.int .i64 0, .int .i64 0]) 2 16 rfl Tryd.underlying47 (by kernel_rfl) rfl (by decide) (by decide) w.heap.size w VD.out.below VD.out.below.size v acc.length (prs acc) rfl VD.out.tab.own ⟨w3.heap.size, 0, none⟩ rfl [.int .i64 D, .int .i64 n] rfl (new_two _ _ _ _ _ rfl) (by simp [Value.oneCell']) HAL.out ?_; intro a6 c6 w6 ho6 hg6 hb6; have HF6 := VD.out.tab.field hg6; have f6 := HF6.1; have z6 := HF6.2; have V6 : Hid _ := HNX.out VD.out HE.out HP.out HFT.out hg6 ho6 hb6; clear ho6 hb6 hg6 HF6)
              all_goals (
                go_wp2
                go_roundw
                case rel => exact ⟨_, _, _, by rw [HSB.out], V6⟩
                case measure =>
                  have hlt := HLT.out
                  have h1 := strOfNums_size (cut1 10 ys).2.1
                  have h2 := strOfNums_size ys
                  rw [← HSB.out] at h1
                  rw [← HS.out] at h2
                  show SB.size < S.size
                  omega)
            · rw [decide_eq_false hf] at CF
              have HNO : Hid (parseTb xs = none) := pl_none HV.out HN6.out he (fun p h => by rw [hp] at h; cases h; exact hf)
              clear hS hSA hSB bA bB lA lB lC hsh hy he hp hf hpr
              go_wp2_with (first | (go_at_call 23; refine (CF.out _ V2.out).mono ?_; rintro e w3 ⟨rfl, hb3⟩; have V3 : Hid (LV xs w w3 v acc ys) := V2.out.step hb3; have l0 : w3.cell? ⟨w2.heap.size, 0, none⟩ = some (.int .i64 D) := (by rw [hb3.cell (p := ⟨w2.heap.size, 0, none⟩) (by simp)]; rw [World.cell?_alloc_new]; rfl); have l1 : w3.cell? ⟨w2.heap.size, 1, none⟩ = some (.int .i64 n) := (by rw [hb3.cell (p := ⟨w2.heap.size, 1, none⟩) (by simp)]; rw [World.cell?_alloc_new]; rfl); have t3 := V3.out.tab.c0; clear hb3) | (go_at_call 22; refine (CR.out _ (RR.out.on V1.out.below) (EE.out.on V1.out.below)).mono ?_; rintro e w2 ⟨rfl, hb2⟩; have V2 : Hid (LV xs w (w2.alloc (.cells #[.int .i64 D, .int .i64 n] 53)) v acc ys) := (V1.out.step hb2).past _; clear hb2) | (go_at_call 21; refine (CC.out _).mono ?_; rintro e w1 ⟨rfl, hb1⟩; have V1 : Hid (LV xs w w1 v acc ys) := HV.out.step hb1; clear hb1))
              go_ret2
              exact ⟨LRes.no HN6.out HNO.out, V3.out.below⟩
end Go.Proofs.YthkafbeojeedbaaDoor
