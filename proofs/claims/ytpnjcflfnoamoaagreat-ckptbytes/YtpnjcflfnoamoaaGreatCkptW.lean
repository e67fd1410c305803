/-
  The landed ckpt: putChain, Put.
-/
import Derived.Test.YtpnjcflfnoamoaaGreatAu34
import Derived.Test.YtpnjcflfnoamoaaGreatAu40
import Derived.Test.YtpnjcflfnoamoaaGreatStoL3
import Derived.Test.YtpnjcflfnoamoaaGreatAu24
import Derived.Test.YtpnjcflfnoamoaaGreatStB
namespace Go.Proofs.YtpnjcflfnoamoaaGreat
open Go.RowKit
set_option linter.unusedVariables false
set_option linter.unusedSimpArgs false

theorem putI_most (v : Int) : (Pl.putI v).length ≤ 10 := Pl.put_length_le 9 v
theorem KeyAt.keptO {u u' : World} {b o : Nat} {k : List Int} (h : KeyAt u b o k) (hk : u'.heap[b]? = u.heap[b]?) : KeyAt u' b o k := ⟨fun j hj => (cell_of_block hk _).1.trans (h.cell j hj)⟩
/-- A writer in block p, at work since w; what lies in F is as it was in v. -/
structure WS (w v u : World) (p : Nat) (X F : Foot) (zs : List Int) : Prop where
  ex : ∃ X', Wtr u p zs X' ∧ Did w u X X' ∧ ∀ q, F q → ¬ X' q
  kept : Chg v u (fun q => ¬ F q)
  low : ∀ q, F q → q < v.heap.size
theorem WS.start {w v : World} {p : Nat} {X F : Foot} {zs : List Int} (h : Wtr v p zs X) (hb : Below w.heap.size w v) (hX : ∀ q, X q → q < w.heap.size) (hF : ∀ q, F q → q < v.heap.size ∧ ¬ X q) : WS w v v p X F zs :=
  ⟨⟨X, h, Did.stay hb hX, fun q hq => (hF q hq).2⟩, Chg.refl _ _, fun q hq => (hF q hq).1⟩
theorem WS.call {w v u : World} {p : Nat} {X F : Foot} {zs zs' : List Int} {f : Nat} {args : Array Value} (h : WS w v u p X F zs) (c : ∀ X', Wtr u p zs X' → (∀ q, F q → ¬ X' q) → Calls Tryz.prog f args u fun e w' => e = .returned (.tuple #[]) ∧ Wrote u w' p zs' X') :
    Calls Tryz.prog f args u fun e w' => e = .returned (.tuple #[]) ∧ WS w v w' p X F zs' := by
  obtain ⟨X', h1, h2, h3⟩ := h.ex
  refine (c X' h1 h3).mono ?_
  rintro e w' ⟨rfl, X2, k1, k2⟩
  refine ⟨rfl, ⟨X2, k1, h2.trans k2, fun q hq e => ?_⟩, h.kept.trans k2.chg (fun j hj e => fun hf => h3 j hf e), h.low⟩
  rcases (k2.new q e).1 with e | e
  · exact h3 q hq e
  · have := h.low q hq
    have := h.kept.size
    omega
theorem WS.box {w v u u2 : World} {p : Nat} {X F : Foot} {zs : List Int} (h : WS w v u p X F zs) (hb : Below u.heap.size u u2) (hlt : u.heap.size < u2.heap.size) : WS w u2 u2 p X (fun q => F q ∨ q = u.heap.size) zs := by
  obtain ⟨X', h1, h2, h3⟩ := h.ex
  refine ⟨⟨X', h1.past hb, h2.trans (Did.stay hb (fun k hk => (h1.lt k hk).2)), fun q hq e => ?_⟩, Chg.refl _ _, fun q hq => ?_⟩
  · rcases hq with hq | hq
    · exact h3 q hq e
    · have := (h1.lt q e).2; omega
  · rcases hq with hq | hq
    · have := h.low q hq; have := h.kept.size; omega
    · omega
theorem WS.unbox {w v u0 u2 u : World} {p : Nat} {X F : Foot} {zs0 zs : List Int} (h0 : WS w v u0 p X F zs0) (hb : Below u0.heap.size u0 u2) (h : WS w u2 u p X (fun q => F q ∨ q = u0.heap.size) zs) : WS w v u p X F zs := by
  obtain ⟨X', h1, h2, h3⟩ := h.ex
  exact ⟨⟨X', h1, h2, fun q hq => h3 q (.inl hq)⟩, (h0.kept.trans (Chg.of_below hb (fun q => ¬ F q)) (fun _ _ x => x)).trans h.kept (fun j hj e => fun hf => e (.inl hf)), h0.low⟩
theorem WS.wrote {w v u : World} {p : Nat} {X F : Foot} {zs : List Int} (h : WS w v u p X F zs) : Wrote w u p zs X := by
  obtain ⟨X', h1, h2, _⟩ := h.ex
  exact ⟨X', h1, h2⟩
theorem verB_bare (V : Ver) : verB (bare V) = verB V := rfl
theorem one_verB (l : List Ver) : (l.map bare).flatMap verB = l.flatMap verB := by
  induction l with
  | nil => rfl
  | cons V r ih => rw [List.map_cons, List.flatMap_cons, List.flatMap_cons, ih, verB_bare]
theorem take_flat_le {α β : Type} (f : α → List β) (l : List α) (i : Nat) : ((l.take i).flatMap f).length ≤ (l.flatMap f).length := by
  have e : l.flatMap f = (l.take i).flatMap f ++ (l.drop i).flatMap f := by rw [← List.flatMap_append, List.take_append_drop]
  rw [e, List.length_append]
  omega
theorem take_nextC {α : Type} {l : List α} {i : Nat} {W : α} (h : l[i]? = some W) : l.take (i + 1) = l.take i ++ [W] := by rw [List.take_add_one, h]; rfl
set_option maxHeartbeats 4000000 in
set_option maxRecDepth 8000 in
theorem lputc_any (p s : Nat) (zs k : List Int) (X Y : Foot) (L : List Ver) (w : World) (h : Wtr w p zs X) (hm : zs.length ≤ 900000) (hs : StD w s L Y) (hk : Ky k) :
    Calls Tryz.prog 23 #[.pointer (some ⟨p, 0, none⟩), .pointer (some ⟨s, 0, none⟩), kv k] w fun e w' => e = .returned (.tuple #[]) ∧ Wrote w w' p (zs ++ chainB (chainV L k)) X := by
  have hg := hs.1
  obtain ⟨U, hU⟩ : ∃ U, U = w.alloc (.cells (kcs k) 57) := ⟨_, rfl⟩
  have HU : Hid (w.alloc (.cells (kcs k) 57) = U) := hU.symm
  have hUb : Below w.heap.size w U := by rw [hU]; exact (Below.refl _ _).alloc (Nat.le_refl _) _
  have hUs : U.heap.size = w.heap.size + 1 := by rw [hU]; exact World.size_alloc _ _
  have HKU : Hid (KeyAt U w.heap.size 0 k) := by rw [hU]; exact KeyAt.made w 57 k hk
  have KY : Hid (Ky k) := hk
  obtain ⟨l, hl⟩ : ∃ l, l = oneV L k := ⟨_, rfl⟩
  obtain ⟨N, hN⟩ : ∃ N, N = l.length := ⟨_, rfl⟩
  have hN50 : N ≤ 50 := by rw [hN, hl, one_len]; exact hg.sto.few k
  have HL : Hid (l.length = N) := hN.symm
  have HV : Hid (∀ V ∈ l, mayV V = true ∧ 0 ≤ V.n ∧ V.n ≤ 255 ∧ (∀ z ∈ V.v, 0 ≤ z ∧ z ≤ 255)) := fun V hV => by
    rw [hl] at hV
    obtain ⟨A, hA, rfl⟩ := List.mem_map.1 hV
    have hA2 := (chain_mem hg.sto.ord).1 hA
    have := hg.sto.ins A hA2.1
    exact ⟨hg.sto.may A hA2.1, this.1, this.2.1, this.2.2⟩
  have HEQ : Hid (Pl.putI (N : Int) ++ l.flatMap verB = chainB (chainV L k)) := by
    show _ = _
    unfold chainB
    rw [hN, hl, one_len, chain_len]
    unfold oneV
    rw [one_verB]
  have CH : Hid (Calls Tryz.prog 31 #[.pointer (some ⟨s, 0, none⟩), kv k] U fun e w' => (∃ a c, e = .returned (.slice a N c) ∧ w'.ownsRow U.heap.size 75 4 (.slice a N c) N (l.flatMap encC)) ∧ Below U.heap.size U w') := by
    rw [hN, hl]; exact schain2_any s L Y k hk U (hs.past hUb)
  have HST : Hid (∀ w2, Below U.heap.size U w2 → WS w w2 w2 p X (fun q => w.heap.size ≤ q ∧ q < w2.heap.size) zs) := fun w2 hb => by
    have hb2 : Below w.heap.size w w2 := hUb.trans (hb.mono hUb.size)
    exact WS.start (h.past hb2) hb2 (fun q e => (h.lt q e).2) (fun q hq => ⟨hq.2, fun e => by have := (h.lt q e).2; omega⟩)
  have HUS : Hid (U.heap.size = w.heap.size + 1) := hUs
  have HM : Hid (zs.length ≤ 900000) := hm
  have HLEN : Hid (∀ i, ((l.take i).flatMap verB).length ≤ 221 * 50) := fun i => by
    have h1 := take_flat_le verB l i
    have h2 := vers_len l (fun V hV => (HV.out V hV).1)
    have h3 := HL.out
    show _ ≤ _
    omega
  clear h hm hs hk hg hU hUb hUs hl hN
  go_enter Tryz.func23, Tryz.ntmps23
  go_wp2_with (first
    | (have hgo := H2.out; clear hgo; go_at_call 21; refine (H2.out.1.call (fun X' hx _ => wnum_any p zs X' N _ hx (by have := HM.out; omega) (by omega) (by omega))).mono ?_; rintro e w3 ⟨rfl, h3⟩; have H3 : Hid (WS w w2 w3 p X (fun q => w.heap.size ≤ q ∧ q < w2.heap.size) (zs ++ Pl.putI (N : Int))) := h3; clear h3)
    | (go_at_call 31; refine CH.out.mono ?_; rintro e w2 ⟨⟨a, c, rfl, ho⟩, hb⟩; have H2 : Hid (WS w w2 w2 p X (fun q => w.heap.size ≤ q ∧ q < w2.heap.size) zs ∧ w2.ownsRow U.heap.size 75 4 (.slice a N c) N (l.flatMap encC)) := ⟨HST.out w2 hb, ho⟩; clear ho hb CH)
    | (have hgo := CH.out; clear hgo; (with_reducible show wpList _ _ _ (Oper.mk (some 10) _ _ _ _ _ :: _) _ _); rw [HU.out]; refine wpList_load_keyN 10 (by rfl) (by rfl) _ (by rfl) w.heap.size 0 (by rfl) k KY.out HKU.out ?_))
  have HOW : Hid (∀ u, Chg w2 u (fun q => ¬ (w.heap.size ≤ q ∧ q < w2.heap.size)) → u.ownsRow U.heap.size 75 4 (.slice a N c) N (l.flatMap encC)) := fun u hu => row_kept H2.out.2 (fun q hq => by
    have h1 := H2.out.2.lt q hq
    have h2 := HUS.out
    exact hu.block q h1.2 (fun e => e ⟨by omega, h1.2⟩))
  clear H2 HST
  go_loopw [19] (fun iv wr => ∃ i : Nat, i ≤ N ∧ iv = .int .i64 i ∧ Hid (WS w w2 wr p X (fun q => w.heap.size ≤ q ∧ q < w2.heap.size) (zs ++ Pl.putI (N : Int) ++ (l.take i).flatMap verB))) (fun iv _ => N - (intOf iv).toNat)
  case atStart => exact ⟨0, Nat.zero_le _, rfl, by rw [List.take_zero, List.flatMap_nil, List.append_nil]; exact H3⟩
  case round =>
    obtain ⟨i, hiN, rfl, HS⟩ := hrel
    have hi0 : (0 : Int) ≤ (i : Int) := by omega
    clear H3
    by_cases hlt : i < N
    · have hltI : (i : Int) < (N : Int) := by omega
      obtain ⟨V, hV⟩ : ∃ V, l[i]? = some V := ⟨_, List.getElem?_eq_getElem (by rw [HL.out]; exact hlt)⟩
      obtain ⟨b, rfl, hbl, hat⟩ : ∃ b, a = some ⟨b, 0, none⟩ ∧ b < wr.heap.size ∧ CVerAt wr b (i * 4) V := by
        have ho := HOW.out wr HS.out.kept
        have hln := HL.out
        rw [← hln] at ho
        exact CRow.ver (World.ownsRow.mono ho (Nat.zero_le _)) hV
      have HAT : Hid (CVerAt wr b (i * 4) V) := hat
      have HVV : Hid (mayV V = true ∧ 0 ≤ V.n ∧ V.n ≤ 255 ∧ (∀ z ∈ V.v, 0 ≤ z ∧ z ≤ 255)) := HV.out V (List.mem_of_getElem? hV)
      have HOK : Hid (okS V.t ∧ V.v.length ≤ 200) := by
        have := HVV.out.1
        unfold mayV at this
        simp only [Bool.and_eq_true, decide_eq_true_eq] at this
        exact ⟨this.1.1, this.1.2⟩
      obtain ⟨ys, hys⟩ : ∃ ys, ys = zs ++ Pl.putI (N : Int) ++ (l.take i).flatMap verB := ⟨_, rfl⟩
      have HYL : Hid (ys.length ≤ 930000) := by
        have h1 := HLEN.out i
        have h2 := putI_most (N : Int)
        have h3 := HM.out
        show _ ≤ _
        rw [hys, List.length_append, List.length_append]
        omega
      have HYL2 : Hid ((ys ++ stpB V.t V.n).length ≤ 1000000) := by
        have h1 := HYL.out
        have h2 : (stpB V.t V.n).length ≤ 10 := by unfold stpB; split <;> exact putI_most _
        show _ ≤ _
        rw [List.length_append]; omega
      have HYL3 : Hid ((ys ++ stpB V.t V.n ++ [flagB V.g]).length ≤ 1000000) := by
        have h1 := HYL.out
        have h2 : (stpB V.t V.n).length ≤ 10 := by unfold stpB; split <;> exact putI_most _
        show _ ≤ _
        rw [List.length_append, List.length_append, List.length_singleton]; omega
      have HT : Hid (zs ++ Pl.putI (N : Int) ++ (l.take (i + 1)).flatMap verB = ys ++ stpB V.t V.n ++ [flagB V.g] ++ txtB V.v) := by
        show _ = _
        rw [take_nextC hV, List.flatMap_append, hys]
        unfold verB
        simp [List.append_assoc]
      rw [← hys] at HS
      have HS0 : Hid (WS w w2 wr p X (fun q => w.heap.size ≤ q ∧ q < w2.heap.size) ys) := HS
      obtain ⟨B, hB⟩ : ∃ B, B = wr.alloc (.cells #[.int .i64 V.t, .int .u8 V.n, .string (strOfNums V.v), .bool V.g] 75) := ⟨_, rfl⟩
      have hBb : Below wr.heap.size wr B := by rw [hB]; exact (Below.refl _ _).alloc (Nat.le_refl _) _
      have hBs : wr.heap.size < B.heap.size := by rw [hB]; simp
      have HB : Hid (wr.alloc (.cells #[.int .i64 V.t, .int .u8 V.n, .string (strOfNums V.v), .bool V.g] 75) = B) := hB.symm
      have HBW : Hid (WS w B B p X (fun q => (w.heap.size ≤ q ∧ q < w2.heap.size) ∨ q = wr.heap.size) ys) := HS.out.box hBb hBs
      have HC4 : Hid (∀ u, Chg B u (fun q => ¬ ((w.heap.size ≤ q ∧ q < w2.heap.size) ∨ q = wr.heap.size)) → C4 u wr.heap.size V.t V.n (strOfNums V.v) V.g) := fun u hu => by
        have h4 := C4.made wr V.t V.n (strOfNums V.v) V.g 75
        rw [← hB] at h4
        exact h4.kept (hu.block _ hBs (fun e => e (.inr rfl)))
      have HUN : Hid (∀ u zs', WS w B u p X (fun q => (w.heap.size ≤ q ∧ q < w2.heap.size) ∨ q = wr.heap.size) zs' → WS w w2 u p X (fun q => w.heap.size ≤ q ∧ q < w2.heap.size) zs') := fun u zs' hu => WS.unbox HS0.out hBb hu
      clear hV hat hys hB hBb hBs HS
      go_wp2_with (first
        | (have hgo := H5.out; clear hgo; go_at_call 62; refine (H5.out.call (fun X' hx _ => wtextW_any p _ V.v X' _ hx HYL3.out HVV.out.2.2.2 (by have := HOK.out.2; omega))).mono ?_; rintro e w6 ⟨rfl, h6⟩; have H6 : Hid (WS w w2 w6 p X (fun q => w.heap.size ≤ q ∧ q < w2.heap.size) (ys ++ stpB V.t V.n ++ [flagB V.g] ++ txtB V.v)) := HUN.out _ _ h6; clear h6 H5)
        | (have hgo := H4.out; clear hgo; go_at_call 61; refine (H4.out.call (fun X' hx _ => wflag_any p _ X' V.g _ hx HYL2.out)).mono ?_; rintro e w5 ⟨rfl, h5⟩; have H5 : Hid (WS w B w5 p X (fun q => (w.heap.size ≤ q ∧ q < w2.heap.size) ∨ q = wr.heap.size) (ys ++ stpB V.t V.n ++ [flagB V.g])) := h5; have d2 := (HC4.out w5 h5.kept).c2; clear h5 H4)
        | (have hgo := HBW.out; clear hgo; go_at_call 60; rw [HB.out]; refine (HBW.out.call (fun X' hx _ => wstamp_any p ys X' V.t V.n _ hx (by have := HYL.out; omega) HOK.out.1 ⟨HVV.out.2.1, HVV.out.2.2.1⟩)).mono ?_; rintro e w4 ⟨rfl, h4⟩; have H4 : Hid (WS w B w4 p X (fun q => (w.heap.size ≤ q ∧ q < w2.heap.size) ∨ q = wr.heap.size) (ys ++ stpB V.t V.n)) := h4; have d3 := (HC4.out w4 h4.kept).c3; clear h4 HBW)
        | (have hgo := HAT.out; clear hgo; (with_reducible show wpList _ _ _ (Oper.mk (some 22) _ _ _ _ _ :: _) _ _); refine wpList_load_cver 22 (by rfl) (by rfl) _ (by rfl) b (i * 4) (by rfl) V HAT.out ?_))
      go_roundw
      case rel => exact ⟨i + 1, by omega, by go_num, by rw [HT.out]; exact H6⟩
      case measure => simp [intOf]; omega
    · obtain rfl : i = N := by omega
      have HE : Hid (Wrote w wr p (zs ++ chainB (chainV L k)) X) := by
        have h1 := HS.out.wrote
        rw [List.take_of_length_le (by rw [HL.out]; exact Nat.le_refl _), List.append_assoc, HEQ.out] at h1
        exact h1
      clear HS
      go_wp2
      go_end0
      exact ⟨rfl, HE.out⟩
theorem keys_apart {w w1 : World} {a : Option Addr} {K : List (List Int)} (hb : Below (w.heap.size + 1) (w.alloc (.cells #[.slice none 0 0] 53)) w1) (h : KeysAt w1 a K) {b o : Nat} (e : a = some ⟨b, o, none⟩) (hK : K ≠ []) : b < w1.heap.size ∧ b ≠ w.heap.size := by
  obtain ⟨k, r, rfl⟩ := List.exists_cons_of_ne_nil hK
  have hk := h.kys k (by simp)
  have hli := h.lies
  rw [e] at hli
  have hc := hli.at 0 (.int .u8 (k.getD 0 0)) (by
    have hl := hk.len
    rw [List.flatMap_cons, List.getElem?_append_left (by rw [kc_len hk]; omega)]
    simp [kc, List.getD, show 0 < k.length by omega])
  refine ⟨cell_lt hc, fun e2 => ?_⟩
  subst e2
  have h2 := hb.cell (p := ⟨w.heap.size, o + 0, none⟩) (by show w.heap.size < w.heap.size + 1; omega)
  rw [h2, World.cell?_alloc_new] at hc
  cases o with
  | zero => simp at hc
  | succ o => simp at hc
theorem KeysAt.keyO {w : World} {a : Option Addr} {l : List (List Int)} (h : KeysAt w a l) {i : Nat} {k : List Int} (hk : l[i]? = some k) : ∃ b o, a = some ⟨b, o, none⟩ ∧ KeyAt w b (o + i * 16) k ∧ Ky k := by
  have hi := (List.getElem?_eq_some_iff.1 hk).1
  obtain ⟨b, o, e, h1, h2⟩ := h.key hi
  have e2 : l.getD i [] = k := by simp [List.getD, hk]
  rw [e2] at h1 h2
  exact ⟨b, o, e, h1, h2⟩
theorem keyMine_zeroW (w : World) : KeyMine (w.alloc (.cells #[.int .u8 0, .int .u8 0, .int .u8 0, .int .u8 0, .int .u8 0, .int .u8 0, .int .u8 0, .int .u8 0, .int .u8 0, .int .u8 0, .int .u8 0, .int .u8 0, .int .u8 0, .int .u8 0, .int .u8 0, .int .u8 0] 57)) w.heap.size 0 zeroK := by
  have := KeyMine.made w 57 zeroK zeroK_ky
  rw [zero_cells] at this
  exact this
theorem key_boxed {w u : World} {k : List Int} (hk : Ky k) (hu : u = (w.alloc (.cells #[.int .u8 0, .int .u8 0, .int .u8 0, .int .u8 0, .int .u8 0, .int .u8 0, .int .u8 0, .int .u8 0, .int .u8 0, .int .u8 0, .int .u8 0, .int .u8 0, .int .u8 0, .int .u8 0, .int .u8 0, .int .u8 0] 57)).setCells w.heap.size 0 (k.map (Value.int .u8))) : Below w.heap.size w u ∧ w.heap.size < u.heap.size ∧ KeyAt u w.heap.size 0 k := by
  have hm := (keyMine_zeroW w).store hk
  rw [← hu] at hm
  refine ⟨?_, hm.lies.lt, hm.lies⟩
  obtain ⟨A, hA⟩ : ∃ A, A = w.alloc (.cells #[.int .u8 0, .int .u8 0, .int .u8 0, .int .u8 0, .int .u8 0, .int .u8 0, .int .u8 0, .int .u8 0, .int .u8 0, .int .u8 0, .int .u8 0, .int .u8 0, .int .u8 0, .int .u8 0, .int .u8 0, .int .u8 0] 57) := ⟨_, rfl⟩
  rw [← hA] at hu
  have hb : Below w.heap.size w A := by rw [hA]; exact (Below.refl _ _).alloc (Nat.le_refl _) _
  have cu : Chg A u (fun j => j = w.heap.size) := by rw [hu]; exact chg_cells w.heap.size _ 0 A
  exact hb.trans (cu.below hb.size (fun k e => Nat.le_of_eq e.symm))
set_option maxHeartbeats 4000000 in
set_option maxRecDepth 8000 in
theorem ckput_any {w u : World} {s : Nat} {L : List Ver} (h : StX w u s L) (hg : GdK L) (hm : L.length ≤ 2000) :
    Calls Tryz.prog 8 #[.pointer (some ⟨s, 0, none⟩)] u fun e w' => ∃ a m c, e = .returned (.slice a m c) ∧ Bt u w' (storeB L) a m c := by
  obtain ⟨Y, hs, _, _⟩ := h
  have hgs := hs.1
  obtain ⟨K, hK⟩ : ∃ K, K = keysV L := ⟨_, rfl⟩
  obtain ⟨N, hN⟩ : ∃ N, N = K.length := ⟨_, rfl⟩
  have hN200 : N ≤ 200 := by rw [hN, hK]; exact hgs.few
  have HKN : Hid (K.length = N) := hN.symm
  obtain ⟨W0, hW0⟩ : ∃ W0, W0 = u.alloc (.cells #[.slice none 0 0] 53) := ⟨_, rfl⟩
  have HW0 : Hid (u.alloc (.cells #[.slice none 0 0] 53) = W0) := hW0.symm
  have hWb : Below u.heap.size u W0 := by rw [hW0]; exact (Below.refl _ _).alloc (Nat.le_refl _) _
  have hWs : W0.heap.size = u.heap.size + 1 := by rw [hW0]; exact World.size_alloc _ _
  have hwm : Wtr W0 u.heap.size [] (fun j => j = u.heap.size) := by rw [hW0]; exact Wtr.made u 53
  have CK : Hid (Calls Tryz.prog 20 #[.pointer (some ⟨s, 0, none⟩)] W0 fun e w' => (∃ a' c', e = .returned (.slice a' N c') ∧ KeysAt w' a' K) ∧ Below W0.heap.size W0 w') := by
    rw [hN, hK]
    refine (skeys_any s L Y W0 (hs.past hWb)).mono ?_
    rintro e w' ⟨⟨a', c', rfl, h1, _⟩, h2⟩
    exact ⟨⟨a', c', rfl, h1⟩, h2⟩
  have HSD : Hid (∀ w1 v, Below W0.heap.size W0 w1 → Chg w1 v (fun q => ¬ (q < w1.heap.size ∧ q ≠ u.heap.size)) → StD v s L Y) := fun w1 v h1 h2 => by
    have h3 : StD w1 s L Y := (hs.past hWb).past h1
    refine h3.kept h2.size (fun q hq => h2.block q (h3.lt q hq) (fun e => e ⟨h3.lt q hq, ?_⟩))
    have := hs.lt q hq
    omega
  have HST : Hid (∀ w1, Below W0.heap.size W0 w1 → WS W0 w1 w1 u.heap.size (fun j => j = u.heap.size) (fun q => q < w1.heap.size ∧ q ≠ u.heap.size) []) := fun w1 h1 => WS.start (hwm.past h1) h1 (fun q e => by rw [e]; omega) (fun q e => e)
  have HKA : Hid (∀ w1 a, Below W0.heap.size W0 w1 → KeysAt w1 a K → ∀ v, Chg w1 v (fun q => ¬ (q < w1.heap.size ∧ q ≠ u.heap.size)) → ∀ i k, K[i]? = some k → ∃ b o, a = some ⟨b, o, none⟩ ∧ KeyAt v b (o + i * 16) k ∧ Ky k) := fun w1 a h1 h2 v h3 i k hk => by
    obtain ⟨b, o, e, k1, k2⟩ := h2.keyO hk
    have hne : K ≠ [] := fun e => by rw [e] at hk; simp at hk
    have h1' : Below (u.heap.size + 1) (u.alloc (.cells #[.slice none 0 0] 53)) w1 := by rw [← hW0, ← hWs]; exact h1
    have h4 := keys_apart h1' h2 e hne
    exact ⟨b, o, e, k1.keptO (h3.block b h4.1 (fun e => e h4)), k2⟩
  have HLEN : Hid (∀ i, (Pl.putI (N : Int) ++ (K.take i).flatMap (keyB L)).length ≤ 448000) := fun i => by
    have h1 := storeB_len hgs hg
    have h2 := take_flat_le (keyB L) K i
    have h3 : (storeB L).length = (Pl.putI (N : Int)).length + (K.flatMap (keyB L)).length := by unfold storeB; rw [List.length_append, hN, hK]
    show _ ≤ _
    rw [List.length_append]
    omega
  have HEQ : Hid (Pl.putI (N : Int) ++ K.flatMap (keyB L) = storeB L) := by
    show _ = _
    unfold storeB
    rw [hN, hK]
  have HUB : Hid (Below u.heap.size u W0 ∧ u.heap.size < W0.heap.size) := ⟨hWb, by omega⟩
  clear hs hgs hg hm hN hW0 hWb hWs hwm
  go_enter Tryz.func8, Tryz.ntmps8
  go_wp2_with (first
    | (have hgo := H2.out; clear hgo; go_at_call 21; refine (H2.out.2.1.call (fun X' hx _ => wnum_any _ [] X' N _ hx (by simp) (by omega) (by omega))).mono ?_; rintro e w3 ⟨rfl, h3⟩; have H3 : Hid (WS W0 w1 w3 u.heap.size (fun j => j = u.heap.size) (fun q => q < w1.heap.size ∧ q ≠ u.heap.size) (Pl.putI (N : Int))) := h3; clear h3)
    | (go_at_call 20; rw [HW0.out]; refine CK.out.mono ?_; rintro e w1 ⟨⟨a, c, rfl, hka⟩, hb⟩; have H2 : Hid (KeysAt w1 a K ∧ WS W0 w1 w1 u.heap.size (fun j => j = u.heap.size) (fun q => q < w1.heap.size ∧ q ≠ u.heap.size) [] ∧ Below W0.heap.size W0 w1) := ⟨hka, HST.out w1 hb, hb⟩; clear hka hb CK))
  have HK1 : Hid (∀ v, Chg w1 v (fun q => ¬ (q < w1.heap.size ∧ q ≠ u.heap.size)) → ∀ i k, K[i]? = some k → ∃ b o, a = some ⟨b, o, none⟩ ∧ KeyAt v b (o + i * 16) k ∧ Ky k) := fun v hv => HKA.out w1 a H2.out.2.2 H2.out.1 v hv
  have HS1 : Hid (∀ v, Chg w1 v (fun q => ¬ (q < w1.heap.size ∧ q ≠ u.heap.size)) → StD v s L Y) := fun v hv => HSD.out w1 v H2.out.2.2 hv
  clear H2 HKA HSD HST
  go_loopw [15] (fun iv wr => ∃ i : Nat, i ≤ N ∧ iv = .int .i64 i ∧ Hid (WS W0 w1 wr u.heap.size (fun j => j = u.heap.size) (fun q => q < w1.heap.size ∧ q ≠ u.heap.size) (Pl.putI (N : Int) ++ (K.take i).flatMap (keyB L)))) (fun iv _ => N - (intOf iv).toNat)
  case atStart => exact ⟨0, Nat.zero_le _, rfl, by rw [List.take_zero, List.flatMap_nil, List.append_nil]; exact H3⟩
  case round =>
    obtain ⟨i, hiN, rfl, HS⟩ := hrel
    have hi0 : (0 : Int) ≤ (i : Int) := by omega
    clear H3
    by_cases hlt : i < N
    · have hltI : (i : Int) < (N : Int) := by omega
      obtain ⟨k, hk⟩ : ∃ k, K[i]? = some k := ⟨_, List.getElem?_eq_getElem (by rw [HKN.out]; exact hlt)⟩
      obtain ⟨b, o, rfl, hat, hky⟩ := HK1.out wr HS.out.kept i k hk
      have HAT : Hid (KeyAt wr b (o + i * 16) k) := hat
      have KY : Hid (Ky k) := hky
      obtain ⟨ys, hys⟩ : ∃ ys, ys = Pl.putI (N : Int) ++ (K.take i).flatMap (keyB L) := ⟨_, rfl⟩
      have HYL : Hid (ys.length ≤ 448000) := by rw [hys]; exact HLEN.out i
      have HYL2 : Hid ((ys ++ k).length ≤ 900000) := by
        have := HYL.out
        have := hky.len
        show _ ≤ _
        rw [List.length_append]; omega
      have HT : Hid (Pl.putI (N : Int) ++ (K.take (i + 1)).flatMap (keyB L) = ys ++ k ++ chainB (chainV L k)) := by
        show _ = _
        rw [take_nextC hk, List.flatMap_append, hys]
        unfold keyB
        simp [List.append_assoc]
      rw [← hys] at HS
      have HS0 : Hid (WS W0 w1 wr u.heap.size (fun j => j = u.heap.size) (fun q => q < w1.heap.size ∧ q ≠ u.heap.size) ys) := HS
      have HBX : Hid (∀ B, B = (wr.alloc (.cells #[.int .u8 0, .int .u8 0, .int .u8 0, .int .u8 0, .int .u8 0, .int .u8 0, .int .u8 0, .int .u8 0, .int .u8 0, .int .u8 0, .int .u8 0, .int .u8 0, .int .u8 0, .int .u8 0, .int .u8 0, .int .u8 0] 57)).setCells wr.heap.size 0 (k.map (Value.int .u8)) → WS W0 B B u.heap.size (fun j => j = u.heap.size) (fun q => (q < w1.heap.size ∧ q ≠ u.heap.size) ∨ q = wr.heap.size) ys ∧ (∀ v, Chg B v (fun q => ¬ ((q < w1.heap.size ∧ q ≠ u.heap.size) ∨ q = wr.heap.size)) → KeyAt v wr.heap.size 0 k) ∧ (∀ v zs', WS W0 B v u.heap.size (fun j => j = u.heap.size) (fun q => (q < w1.heap.size ∧ q ≠ u.heap.size) ∨ q = wr.heap.size) zs' → WS W0 w1 v u.heap.size (fun j => j = u.heap.size) (fun q => q < w1.heap.size ∧ q ≠ u.heap.size) zs')) := fun B hB => by
        obtain ⟨h1, h2, h3⟩ := key_boxed hky hB
        exact ⟨HS0.out.box h1 h2, fun v hv => h3.keptO (hv.block _ h2 (fun e => e (.inr rfl))), fun v zs' hv => WS.unbox HS0.out h1 hv⟩
      clear hk hat hky hys HS
      go_wp2_with (first
        | (have hgo := H5.out; clear hgo; go_at_call 23; refine (H5.out.1.call (fun X' hx _ => lputc_any u.heap.size s (ys ++ k) k X' Y L _ hx HYL2.out (HS1.out _ H5.out.2.kept) KY.out)).mono ?_; rintro e w6 ⟨rfl, h6⟩; have H6 : Hid (WS W0 w1 w6 u.heap.size (fun j => j = u.heap.size) (fun q => q < w1.heap.size ∧ q ≠ u.heap.size) (ys ++ k ++ chainB (chainV L k))) := H4.out.2.2 _ _ h6; clear h6 H5)
        | (have hgo := H5.out; clear hgo; (with_reducible show wpList _ _ _ (Oper.mk (some 22) _ _ _ _ _ :: _) _ _); refine wpList_load_keyN 22 (by rfl) (by rfl) _ (by rfl) wr.heap.size 0 (by rfl) k KY.out (H4.out.2.1 _ H5.out.1.kept) ?_)
        | (have hgo := H4.out; clear hgo; go_at_call 22; refine (H4.out.1.call (fun X' hx _ => wkey_any _ ys k X' _ hx (by have := HYL.out; omega) KY.out)).mono ?_; rintro e w5 ⟨rfl, h5⟩; have H5 : Hid (WS W0 B w5 u.heap.size (fun j => j = u.heap.size) (fun q => (q < w1.heap.size ∧ q ≠ u.heap.size) ∨ q = wr.heap.size) (ys ++ k) ∧ WS W0 w1 w5 u.heap.size (fun j => j = u.heap.size) (fun q => q < w1.heap.size ∧ q ≠ u.heap.size) (ys ++ k)) := ⟨h5, H4.out.2.2 _ _ h5⟩; clear h5)
        | (have hgo := H4.out; clear hgo; (with_reducible show wpList _ _ _ (Oper.mk (some 19) _ _ _ _ _ :: _) _ _); refine wpList_load_keyN 19 (by rfl) (by rfl) _ (by rfl) wr.heap.size 0 (by rfl) k KY.out (H4.out.2.1 _ (Chg.refl _ _)) ?_)
        | (have hgo := HBX.out; clear hgo; (with_reducible show wpList _ _ _ (Oper.mk none _ _ _ _ _ :: _) _ _); refine wpList_store_keyU (by rfl) _ _ (by rfl) wr.heap.size 0 zeroK k (by rfl) (by rfl) KY.out (keyMine_zeroW wr) ?_; intro B hB; have H4 : Hid (WS W0 B B u.heap.size (fun j => j = u.heap.size) (fun q => (q < w1.heap.size ∧ q ≠ u.heap.size) ∨ q = wr.heap.size) ys ∧ (∀ v, Chg B v (fun q => ¬ ((q < w1.heap.size ∧ q ≠ u.heap.size) ∨ q = wr.heap.size)) → KeyAt v wr.heap.size 0 k) ∧ (∀ v zs', WS W0 B v u.heap.size (fun j => j = u.heap.size) (fun q => (q < w1.heap.size ∧ q ≠ u.heap.size) ∨ q = wr.heap.size) zs' → WS W0 w1 v u.heap.size (fun j => j = u.heap.size) (fun q => q < w1.heap.size ∧ q ≠ u.heap.size) zs')) := HBX.out B hB; clear hB HBX)
        | (have hgo := HAT.out; clear hgo; (with_reducible show wpList _ _ _ (Oper.mk (some 18) _ _ _ _ _ :: _) _ _); refine wpList_load_keyN 18 (by rfl) (by rfl) _ (by rfl) b (o + i * 16) (by rfl) k KY.out HAT.out ?_))
      go_roundw
      case rel => exact ⟨i + 1, by omega, by go_num, by rw [HT.out]; exact H6⟩
      case measure => simp [intOf]; omega
    · obtain rfl : i = N := by omega
      have HE : Hid (∃ X', Wtr wr u.heap.size (storeB L) X' ∧ Below u.heap.size u wr) := by
        have h1 := HS.out.ex
        rw [List.take_of_length_le (by rw [HKN.out]; exact Nat.le_refl _), HEQ.out] at h1
        obtain ⟨X', h1, h2, _⟩ := h1
        exact ⟨X', h1, HUB.out.1.trans (h2.chg.below HUB.out.1.size (fun q e => Nat.le_of_eq e.symm))⟩
      clear HS
      obtain ⟨X', hx, hbx⟩ := HE.out
      have CB : Hid (Calls Tryz.prog 24 #[.pointer (some ⟨u.heap.size, 0, none⟩)] wr fun e w' => ∃ a m c, e = .returned (.slice a m c) ∧ Bt u w' (storeB L) a m c) := by
        refine (wbytes_any u.heap.size (storeB L) X' wr hx).mono ?_
        rintro e w' ⟨a', c', rfl, h1, h2⟩
        exact ⟨a', _, c', rfl, ⟨⟨h1.1, h1.2.imp (fun x => x) (fun ⟨g, cc, cur, x1, x2, x3⟩ => ⟨g, cc, cur, x1, by omega, x3⟩)⟩, rfl, hx.bytes, hbx.trans h2⟩⟩
      clear hx hbx
      go_wp2_with (first | (go_at_call 24; refine CB.out.mono ?_; rintro e w5 ⟨a', m, c', rfl, hbt⟩; have HBT : Hid (Bt u w5 (storeB L) a' m c') := hbt; clear hbt))
      go_ret
      exact ⟨a', m, c', rfl, HBT.out⟩
end Go.Proofs.YtpnjcflfnoamoaaGreat
