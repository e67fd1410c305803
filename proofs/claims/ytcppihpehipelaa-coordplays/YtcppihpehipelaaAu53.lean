/-
  The landed reader: UpTo, Flag, take, Text.
  What the landed stamps' Good and Cmp answer (no variable of the library is asked).
  What the landed stamps' Pack and Unpack answer (no variable of the library is asked).
  The landed reader: Stamp, Key.
  The landed reader: Stamp.
  Keys' cells; cells laid one by one.
  Parts laid into a row of cells.
  The document's own stores (hourglassref10: Store) in memory: a list of versions of twenty cells each.
  Versions that are loaded, stored and answered whole.
  Lists of keys: lists that lie somewhere, lists that the call made itself.
-/
import Derived.Test.YtcppihpehipelaaAu37
import Derived.Test.YtcppihpehipelaaAu61
import Derived.Deep.RegionHeld3
import Derived.Laws.BitsLemmas
import Derived.Laws.IdiomCopy
import Derived.Test.YtcppihpehipelaaAu54
import Derived.Test.YtcppihpehipelaaEls
import Derived.Test.YtcppihpehipelaaAu52
import Derived.Test.YtcppihpehipelaaFoot
import Derived.Test.YtcppihpehipelaaAu44
import Derived.Deep.MidRow
namespace Go.Proofs.Ytcppihpehipelaa
open Go.RowKit
set_option linter.unusedVariables false

end Go.Proofs.Ytcppihpehipelaa

namespace Go.Proofs.Ytcppihpehipelaa
open Go.RowKit
set_option linter.unusedVariables false

theorem sgood_any (t n : Int) (w : World) :
    Calls Try.prog 35 #[.agg #[.int .i64 t, .int .u8 n]] w fun e w' => e = .returned (.bool (decide (okS t))) ∧ Below w.heap.size w w' := by
  have HB : Hid (Below w.heap.size w (w.alloc (.cells #[.int .i64 t, .int .u8 n] 28))) := (Below.refl _ _).alloc (Nat.le_refl _) _
  by_cases h0 : 0 ≤ t
  · have b0 : decide (0 ≤ t) = true := decide_eq_true h0
    by_cases h1 : t ≤ 36028797018963967
    · have b1 : decide (t ≤ 36028797018963967) = true := decide_eq_true h1
      rw [decide_eq_true (show okS t from ⟨h0, h1⟩)]
      go_enter Try.func35, Try.ntmps35
      go_wp2
      go_ret
      exact ⟨rfl, HB.out⟩
    · have b1 : decide (t ≤ 36028797018963967) = false := decide_eq_false h1
      rw [decide_eq_false (show ¬ okS t from fun h => h1 h.2)]
      go_enter Try.func35, Try.ntmps35
      go_wp2
      go_ret
      exact ⟨rfl, HB.out⟩
  · have b0 : decide (0 ≤ t) = false := decide_eq_false h0
    rw [decide_eq_false (show ¬ okS t from fun h => h0 h.1)]
    go_enter Try.func35, Try.ntmps35
    go_wp2
    go_ret
    exact ⟨rfl, HB.out⟩
theorem scmp_any (t n t' n' : Int) (w : World) :
    Calls Try.prog 39 #[.agg #[.int .i64 t, .int .u8 n], .agg #[.int .i64 t', .int .u8 n']] w fun e w' => e = .returned (.int .i64 (cmpS t n t' n')) ∧ Below w.heap.size w w' := by
  have HB : Hid (Below w.heap.size w ((w.alloc (.cells #[.int .i64 t, .int .u8 n] 28)).alloc (.cells #[.int .i64 t', .int .u8 n'] 28))) := ((Below.refl _ _).alloc (Nat.le_refl _) _).alloc (by simp) _
  by_cases h1 : t < t'
  · have b1 : decide (t < t') = true := decide_eq_true h1
    rw [cmp_lt (.inl h1)]
    go_enter Try.func39, Try.ntmps39
    go_wp2
    go_ret
    exact ⟨rfl, HB.out⟩
  · have b1 : decide (t < t') = false := decide_eq_false h1
    by_cases h2 : t' < t
    · have b2 : decide (t' < t) = true := decide_eq_true h2
      rw [cmp_gt (.inl h2)]
      go_enter Try.func39, Try.ntmps39
      go_wp2
      go_ret
      exact ⟨rfl, HB.out⟩
    · have b2 : decide (t' < t) = false := decide_eq_false h2
      have e : t = t' := by omega
      subst e
      by_cases h3 : n < n'
      · have b3 : decide (n < n') = true := decide_eq_true h3
        rw [cmp_lt (.inr ⟨rfl, h3⟩)]
        go_enter Try.func39, Try.ntmps39
        go_wp2
        go_ret
        exact ⟨rfl, HB.out⟩
      · have b3 : decide (n < n') = false := decide_eq_false h3
        by_cases h4 : n' < n
        · have b4 : decide (n' < n) = true := decide_eq_true h4
          rw [cmp_gt (.inr ⟨rfl, h4⟩)]
          go_enter Try.func39, Try.ntmps39
          go_wp2
          go_ret
          exact ⟨rfl, HB.out⟩
        · have b4 : decide (n' < n) = false := decide_eq_false h4
          have e : n = n' := by omega
          subst e
          rw [cmp_eq]
          go_enter Try.func39, Try.ntmps39
          go_wp2
          go_ret
          exact ⟨rfl, HB.out⟩
end Go.Proofs.Ytcppihpehipelaa

namespace Go.Proofs.Ytcppihpehipelaa
open Go.RowKit
set_option linter.unusedVariables false

end Go.Proofs.Ytcppihpehipelaa

namespace Go.Proofs.Ytcppihpehipelaa
open Go.RowKit
set_option linter.unusedVariables false

end Go.Proofs.Ytcppihpehipelaa

namespace Go.Proofs.Ytcppihpehipelaa
open Go.RowKit
set_option linter.unusedVariables false

/-- A box for the answer, another for the stamp, and the reader beside them. -/
structure WsB (w u : World) (g q : Nat) (zs : List Int) (b : Bool) (t n : Int) : Prop where
  r0 : u.cell? ⟨w.heap.size, 0, none⟩ = some (.int .i64 0)
  r1 : u.cell? ⟨w.heap.size, 1, none⟩ = some (.int .u8 0)
  s0 : u.frozen? ⟨w.heap.size, 0, none⟩ = false
  s1 : u.frozen? ⟨w.heap.size, 1, none⟩ = false
  q0 : u.cell? ⟨q, 0, none⟩ = some (.int .i64 t)
  q1 : u.cell? ⟨q, 1, none⟩ = some (.int .u8 n)
  lr : LR u g zs b
  chg : Chg w u (fun j => j = g)
  ne : w.heap.size < q
theorem WsB.turn {w u u' : World} {g q : Nat} {zs zs' : List Int} {b b' : Bool} {t n : Int} (h : WsB w u g q zs b t n) (hg : g < w.heap.size) (hc : Chg u u' (fun j => j = g)) (hl : LR u' g zs' b') : WsB w u' g q zs' b' t n := by
  have b1 := hc.block w.heap.size (lt_of_cell h.r0) (by omega)
  have b2 := hc.block q (lt_of_cell h.q0) (by have := h.ne; omega)
  exact ⟨(cell_of_block b1 0).1.trans h.r0, (cell_of_block b1 1).1.trans h.r1, (cell_of_block b1 0).2.trans h.s0, (cell_of_block b1 1).2.trans h.s1, (cell_of_block b2 0).1.trans h.q0, (cell_of_block b2 1).1.trans h.q1, hl, h.chg.trans hc (fun _ _ x => x), h.ne⟩
theorem chg_twoS (u : World) (q : Nat) (x y : Value) : Chg u ((u.setCell ⟨q, 0, none⟩ x).setCell ⟨q, 1, none⟩ y) (fun j => j = q) :=
  (Chg.set (X := fun j => j = q) u ⟨q, 0, none⟩ x rfl).trans (Chg.set (X := fun j => j = q) _ ⟨q, 1, none⟩ y rfl) (fun _ _ x => x)
theorem WsB.done {w u : World} {g q : Nat} {zs : List Int} {b : Bool} {t n : Int} (h : WsB w u g q zs b t n) (hg : g < w.heap.size) (x y : Value) : LR ((u.setCell ⟨w.heap.size, 0, none⟩ x).setCell ⟨w.heap.size, 1, none⟩ y) g zs b ∧ Chg w ((u.setCell ⟨w.heap.size, 0, none⟩ x).setCell ⟨w.heap.size, 1, none⟩ y) (fun j => j = g) := by
  have c := chg_twoS u w.heap.size x y
  exact ⟨h.lr.above c (fun j e => by omega), h.chg.trans c (fun j hj e => by omega)⟩
end Go.Proofs.Ytcppihpehipelaa

namespace Go.Proofs.Ytcppihpehipelaa
open Go.RowKit
set_option linter.unusedVariables false

/-- A key's cells, as a list. -/
def kc (k : List Int) : List Value := k.map (Value.int .u8)
def Kys (l : List (List Int)) : Prop := ∀ k ∈ l, Ky k
theorem kc_len {k : List Int} (h : Ky k) : (kc k).length = 16 := by unfold kc; rw [List.length_map]; exact h.len
theorem Kys.len {l : List (List Int)} (h : Kys l) : ∀ k ∈ l, (kc k).length = 16 := fun k hk => kc_len (h k hk)
theorem Kys.one {l : List (List Int)} : ∀ u ∈ l.flatMap kc, u.oneCell' = true := flat_one fun k _ => ints_oneCell _ _
theorem Kys.get {l : List (List Int)} (h : Kys l) {i : Nat} (hi : i < l.length) : Ky (l.getD i []) := by
  have e : l.getD i [] = l[i] := by simp [List.getD, hi]
  rw [e]; exact h _ (List.getElem_mem hi)
theorem Kys.take {l : List (List Int)} (h : Kys l) (n : Nat) : Kys (l.take n) := fun k hk => h k (List.mem_of_mem_take hk)
/-- Cells laid one by one. -/
theorem fold_set : ∀ (vs : List Value) (o : Nat) (C : Array Value), o + vs.length ≤ C.size → (List.foldl (fun (cs : Array Value) (x : Value × Nat) => cs.setIfInBounds x.snd x.fst) C (vs.zipIdx o)).toList = C.toList.take o ++ vs ++ C.toList.drop (o + vs.length)
  | [], o, C, h => by simp
  | v :: r, o, C, h => by
    rw [List.zipIdx_cons, List.foldl_cons, fold_set r (o + 1) (C.setIfInBounds o v) (by simp at h ⊢; omega)]
    simp only [Array.toList_setIfInBounds]
    have ho : o < C.toList.length := by simp at h ⊢; omega
    have e1 : (C.toList.set o v).take (o + 1) = C.toList.take o ++ [v] := by
      rw [List.take_succ_eq_append_getElem (by simpa using ho), List.take_set_of_le (Nat.le_refl _)]
      simp
    have e2 : (C.toList.set o v).drop (o + 1 + r.length) = C.toList.drop (o + (v :: r).length) := by
      rw [List.drop_set_of_lt (by omega), List.length_cons]
      congr 1
      omega
    rw [e1, e2]
    simp
theorem info_keyl (k : List Int) (h : Ky k) : (Try.prog.info? 84).map (·.size) = some (k.map (Value.int .u8)).length := by rw [info_key, List.length_map, h.len]
end Go.Proofs.Ytcppihpehipelaa

namespace Go.Proofs.Ytcppihpehipelaa
open Go.RowKit
set_option linter.unusedVariables false

theorem fold_off : ∀ (vs : List Value) (off o : Nat) (C : Array Value), List.foldl (fun (cs : Array Value) (x : Value × Nat) => cs.setIfInBounds (off + x.snd) x.fst) C (vs.zipIdx o) = List.foldl (fun (cs : Array Value) (x : Value × Nat) => cs.setIfInBounds x.snd x.fst) C (vs.zipIdx (off + o))
  | [], off, o, C => rfl
  | v :: r, off, o, C => by
    rw [List.zipIdx_cons, List.zipIdx_cons, List.foldl_cons, List.foldl_cons, fold_off r off (o + 1)]
    rfl
theorem fill_step (place : Nat → Option (Nat × Nat)) (C : List Value) (i off n : Nat) (vs : List Value) (hp : place i = some (off, n)) (hv : vs.length = n) (hs : off + n ≤ C.length) (rest : List (Nat × Value)) :
    Instr.fill place C.toArray ((i, .agg vs.toArray) :: rest) = Instr.fill place (C.take off ++ vs ++ C.drop (off + n)).toArray rest := by
  have h0 : ¬ (decide (vs.toArray.size ≠ n) || decide (off + vs.toArray.size > C.toArray.size)) = true := by simp; omega
  have hf : Array.foldl (fun (cs : Array Value) (x : Value × Nat) => cs.setIfInBounds (off + x.snd) x.fst) C.toArray vs.toArray.zipIdx = (C.take off ++ vs ++ C.drop (off + n)).toArray := by
    rw [← Array.foldl_toList]
    apply Array.toList_inj.1
    have e : vs.toArray.zipIdx.toList = vs.zipIdx := by simp
    rw [e, fold_off vs off 0, Nat.add_zero, fold_set vs off C.toArray (by simp; omega)]
    simp [hv]
  rw [← hf]
  conv => lhs; unfold Instr.fill
  simp only [hp, Value.cells]
  exact if_neg h0
end Go.Proofs.Ytcppihpehipelaa

namespace Go.Proofs.Ytcppihpehipelaa
open Go.RowKit
set_option linter.unusedVariables false

/-- A version's cells. -/
def encV (V : Ver) : List Value := kc V.k ++ [.int .i64 V.t, .int .u8 V.n, .string (strOfNums V.v), .bool V.g]
def OkL (L : List Ver) : Prop := ∀ V ∈ L, VerOk V
theorem enc_len {V : Ver} (h : Ky V.k) : (encV V).length = 20 := by unfold encV; rw [List.length_append, kc_len h]; rfl
theorem OkL.len {L : List Ver} (h : OkL L) : ∀ V ∈ L, (encV V).length = 20 := fun V hV => enc_len (h V hV).key
/-- One version at a place. -/
structure VerAt (w : World) (b o : Nat) (V : Ver) : Prop where
  lies : Lies w (some ⟨b, o, none⟩) (encV V)
theorem VerAt.key {w : World} {b o : Nat} {V : Ver} (h : VerAt w b o V) (hk : Ky V.k) : KeyAt w b o V.k := by
  refine ⟨fun j hj => h.lies.at j _ ?_⟩
  have hl := hk.len
  unfold encV
  rw [List.getElem?_append_left (by rw [kc_len hk]; exact hj)]
  simp [kc, List.getD, show j < V.k.length by omega]
theorem VerAt.cells {w : World} {b o : Nat} {V : Ver} (h : VerAt w b o V) (hk : Ky V.k) : w.cell? ⟨b, o + 16, none⟩ = some (.int .i64 V.t) ∧ w.cell? ⟨b, o + 17, none⟩ = some (.int .u8 V.n) ∧ w.cell? ⟨b, o + 18, none⟩ = some (.string (strOfNums V.v)) ∧ w.cell? ⟨b, o + 19, none⟩ = some (.bool V.g) := by
  have hl := kc_len hk
  refine ⟨h.lies.at 16 _ ?_, h.lies.at 17 _ ?_, h.lies.at 18 _ ?_, h.lies.at 19 _ ?_⟩ <;> (unfold encV; rw [List.getElem?_append_right (by omega), hl]; rfl)
theorem VerAt.past {w w' : World} {b o : Nat} {V : Ver} (h : VerAt w b o V) (hb : Below w.heap.size w w') : VerAt w' b o V := ⟨h.lies.past hb⟩
end Go.Proofs.Ytcppihpehipelaa

namespace Go.Proofs.Ytcppihpehipelaa
open Go.RowKit
set_option linter.unusedVariables false

/-- One version in memory of the call's own. -/
structure VerMine (w : World) (b o : Nat) (V : Ver) : Prop where
  at_ : VerAt w b o V
  free : ∀ i, i < 20 → w.frozen? ⟨b, o + i, none⟩ = false
  key : Ky V.k
theorem VerAt.lt {w : World} {b o : Nat} {V : Ver} (h : VerAt w b o V) (hk : Ky V.k) : b < w.heap.size := cell_lt (h.cells hk).1
theorem VerMine.made (w : World) (T : TypeId) (V : Ver) (hk : Ky V.k) : VerMine (w.alloc (.cells (encV V).toArray T)) w.heap.size 0 V :=
  ⟨⟨lies_made w (encV V).toArray T⟩, fun i hi => World.frozen?_alloc_new _ _ _ _, hk⟩
theorem VerMine.past {w w' : World} {b o : Nat} {V : Ver} (h : VerMine w b o V) (hb : Below w.heap.size w w') : VerMine w' b o V :=
  ⟨h.at_.past hb, fun i hi => by rw [hb.frozen (p := ⟨b, o + i, none⟩) (h.at_.lt h.key)]; exact h.free i hi, h.key⟩
theorem VerAt.range {w : World} {b o : Nat} {V : Ver} (h : VerAt w b o V) : w.rangeAt b o (encV V) := h.lies.range
theorem VerMine.there {w : World} {b o : Nat} {V : Ver} (h : VerMine w b o V) : w.there b o 20 := fun j hj => by
  have hl := enc_len h.key
  obtain ⟨u, hu⟩ : ∃ u, (encV V)[j]? = some u := ⟨_, List.getElem?_eq_getElem (by omega)⟩
  exact ⟨by rw [h.at_.lies.at j u hu]; rfl, h.free j hj⟩
theorem VerMine.store {w : World} {b o : Nat} {V V' : Ver} (h : VerMine w b o V) (hk : Ky V'.k) : VerMine (w.setCells b o (encV V')) b o V' := by
  have ht := h.there
  rw [← enc_len hk] at ht
  exact ⟨⟨lies_of (World.rangeAt_setCells_same w b o (encV V') ht)⟩, fun i hi => by rw [World.frozen?_setCells]; exact h.free i hi, hk⟩
end Go.Proofs.Ytcppihpehipelaa

namespace Go.Proofs.Ytcppihpehipelaa
open Go.RowKit
set_option linter.unusedVariables false

/-- Keys that lie one behind the other. -/
structure KeysAt (w : World) (a : Option Addr) (l : List (List Int)) : Prop where
  lies : Lies w a (l.flatMap kc)
  kys : Kys l
  nil : a = none → l = []
theorem KeysAt.past {w w' : World} {a : Option Addr} {l : List (List Int)} (h : KeysAt w a l) (hb : Below w.heap.size w w') : KeysAt w' a l := ⟨h.lies.past hb, h.kys, h.nil⟩
theorem KeysAt.same {w w' : World} {a : Option Addr} {l : List (List Int)} (h : KeysAt w a l) (he : w'.heap = w.heap) : KeysAt w' a l :=
  ⟨fun sa hs => ⟨(h.lies sa hs).1, fun j u hj => by rw [same_heap he]; exact (h.lies sa hs).2 j u hj⟩, h.kys, h.nil⟩
/-- The key at place i. -/
theorem KeysAt.key {w : World} {a : Option Addr} {l : List (List Int)} (h : KeysAt w a l) {i : Nat} (hi : i < l.length) : ∃ b o, a = some ⟨b, o, none⟩ ∧ KeyAt w b (o + i * 16) (l.getD i []) ∧ Ky (l.getD i []) := by
  cases a with
  | none => rw [h.nil rfl] at hi; simp at hi
  | some sa =>
    obtain ⟨b, o, sp⟩ := sa
    have hs : sp = none := (h.lies _ rfl).1 (fun e => by
      have h1 := flat_len l h.kys.len
      rw [e] at h1
      simp at h1
      omega)
    subst hs
    have hk := h.kys.get hi
    have hl : Lies w (some ⟨b, o + i * 16, none⟩) (kc (l.getD i [])) := h.lies.el h.kys.len (k := i) (by simp [List.getD, hi])
    refine ⟨b, o, rfl, ⟨fun j hj => ?_⟩, hk⟩
    refine hl.at j _ ?_
    have hjl : j < (l.getD i []).length := by rw [hk.len]; exact hj
    generalize l.getD i [] = x at hjl
    unfold kc
    rw [List.getElem?_map, List.getElem?_eq_getElem hjl]
    simp [List.getD, hjl]
/-- Keys in a list that the call made itself. -/
structure KeysMine (w : World) (B : Nat) (v : Value) (l : List (List Int)) : Prop where
  own : w.ownsRow B 84 16 v l.length (l.flatMap kc)
  kys : Kys l
theorem KeysMine.past {w w' : World} {B : Nat} {v : Value} {l : List (List Int)} (h : KeysMine w B v l) (hb : Below w.heap.size w w') : KeysMine w' B v l := ⟨own_below h.own hb (Nat.le_refl _), h.kys⟩
end Go.Proofs.Ytcppihpehipelaa

