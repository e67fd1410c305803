/-
  The document's own table of decisions (chapter 18) in memory: what reads of it ask.
  The document's own table of decisions: at, place.
-/
import Derived.Test.YtcppihpehipelaaAu50
import Derived.Test.YtcppihpehipelaaEls
import Derived.Test.YtcppihpehipelaaAu55
import Derived.Test.YtcppihpehipelaaFoot
import Derived.BigQuiet
namespace Go.Proofs.Ytcppihpehipelaa
open Go.RowKit
set_option linter.unusedVariables false
set_option linter.unusedSimpArgs false

/-- A list of numbers, of truths, that lies somewhere. -/
def NumsD (w : World) (a : Option Addr) (zs : List Int) : Prop := ∀ (i : Nat) (z : Int), zs[i]? = some z → ∃ g, a = some ⟨g, 0, none⟩ ∧ w.cell? ⟨g, i, none⟩ = some (.int .i64 z)
theorem NumsD.past {w w' : World} {a : Option Addr} {zs : List Int} (h : NumsD w a zs) (hb : Below w.heap.size w w') : NumsD w' a zs := fun i z hz => by
  obtain ⟨g, e, hc⟩ := h i z hz
  exact ⟨g, e, (hb.cell (p := ⟨g, i, none⟩) (cell_lt hc)).trans hc⟩
def BoolsD (w : World) (a : Option Addr) (bs : List Bool) : Prop := ∀ (i : Nat) (b : Bool), bs[i]? = some b → ∃ g, a = some ⟨g, 0, none⟩ ∧ w.cell? ⟨g, i, none⟩ = some (.bool b)
theorem BoolsD.past {w w' : World} {a : Option Addr} {bs : List Bool} (h : BoolsD w a bs) (hb : Below w.heap.size w w') : BoolsD w' a bs := fun i z hz => by
  obtain ⟨g, e, hc⟩ := h i z hz
  exact ⟨g, e, (hb.cell (p := ⟨g, i, none⟩) (cell_lt hc)).trans hc⟩
/-- One that is to be decided, and where its lists lie. -/
structure OneM where
  d : DecC
  pa : Option Addr
  pc : Nat
  va : Option Addr
  vc : Nat
  aa : Option Addr
  ac : Nat
def decs (M : List OneM) : List DecC := M.map (fun x => x.d)
def encO (x : OneM) : List Value := [.int .i64 x.d.id, .int .i64 x.d.st, .int .u8 x.d.sn, .slice x.pa x.d.parts.length x.pc, .slice x.va x.d.votes.length x.vc, .int .i64 x.d.how, .int .i64 x.d.at_, .int .u8 x.d.an, .slice x.aa x.d.acks.length x.ac]
structure OneAt (w : World) (g o : Nat) (x : OneM) : Prop where
  lies : Lies w (some ⟨g, o, none⟩) (encO x)
  parts : NumsD w x.pa x.d.parts
  pr : x.d.parts.length ≤ x.pc
  votes : BoolsD w x.va x.d.votes
  vr : x.d.votes.length ≤ x.vc
  acks : BoolsD w x.aa x.d.acks
  ar : x.d.acks.length ≤ x.ac
theorem OneAt.past {w w' : World} {g o : Nat} {x : OneM} (h : OneAt w g o x) (hb : Below w.heap.size w w') : OneAt w' g o x :=
  ⟨h.lies.past hb, h.parts.past hb, h.pr, h.votes.past hb, h.vr, h.acks.past hb, h.ar⟩
theorem OneAt.cells {w : World} {g o : Nat} {x : OneM} (h : OneAt w g o x) : w.cell? ⟨g, o, none⟩ = some (.int .i64 x.d.id) ∧ w.cell? ⟨g, o + 1, none⟩ = some (.int .i64 x.d.st) ∧ w.cell? ⟨g, o + 2, none⟩ = some (.int .u8 x.d.sn) ∧ w.cell? ⟨g, o + 3, none⟩ = some (.slice x.pa x.d.parts.length x.pc) ∧ w.cell? ⟨g, o + 4, none⟩ = some (.slice x.va x.d.votes.length x.vc) ∧ w.cell? ⟨g, o + 5, none⟩ = some (.int .i64 x.d.how) ∧ w.cell? ⟨g, o + 6, none⟩ = some (.int .i64 x.d.at_) ∧ w.cell? ⟨g, o + 7, none⟩ = some (.int .u8 x.d.an) ∧ w.cell? ⟨g, o + 8, none⟩ = some (.slice x.aa x.d.acks.length x.ac) :=
  ⟨h.lies.at 0 _ rfl, h.lies.at 1 _ rfl, h.lies.at 2 _ rfl, h.lies.at 3 _ rfl, h.lies.at 4 _ rfl, h.lies.at 5 _ rfl, h.lies.at 6 _ rfl, h.lies.at 7 _ rfl, h.lies.at 8 _ rfl⟩
/-- The table: where it lies, what is in it. -/
structure CrdV (w : World) (q : Nat) (M : List OneM) : Prop where
  lies : ∃ a c, w.cell? ⟨q, 0, none⟩ = some (.slice a M.length c) ∧ M.length ≤ c ∧ ∀ (i : Nat) (x : OneM), M[i]? = some x → ∃ g, a = some ⟨g, 0, none⟩ ∧ OneAt w g (i * 9) x
theorem CrdV.past {w w' : World} {q : Nat} {M : List OneM} (h : CrdV w q M) (hb : Below w.heap.size w w') : CrdV w' q M := by
  obtain ⟨a, c, h1, h2, h3⟩ := h.lies
  refine ⟨a, c, (hb.cell (p := ⟨q, 0, none⟩) (cell_lt h1)).trans h1, h2, fun i x hx => ?_⟩
  obtain ⟨g, e, ho⟩ := h3 i x hx
  exact ⟨g, e, ho.past hb⟩
theorem CrdV.open {w : World} {q N : Nat} {M : List OneM} (h : CrdV w q M) (hN : M.length = N) : ∃ a c, N ≤ c ∧ (∀ u, Below w.heap.size w u → u.cell? ⟨q, 0, none⟩ = some (.slice a N c)) ∧ ∀ (i : Nat) (x : OneM), M[i]? = some x → ∃ g, a = some ⟨g, 0, none⟩ ∧ ∀ u, Below w.heap.size w u → OneAt u g (i * 9) x := by
  subst hN
  obtain ⟨a, c, h1, h2, h3⟩ := h.lies
  refine ⟨a, c, h2, fun u hb => (hb.cell (p := ⟨q, 0, none⟩) (cell_lt h1)).trans h1, fun i x hx => ?_⟩
  obtain ⟨g, e, ho⟩ := h3 i x hx
  exact ⟨g, e, fun u hb => ho.past hb⟩
/-- Where an id, a number stands: -1 where nowhere. -/
def atC (C : List DecC) (id : Int) : Int := if findC C id < C.length then (findC C id : Int) else -1
def placeC (l : List Int) (p : Int) : Int := if spotC l p < l.length then (spotC l p : Int) else -1
theorem tw_at {α : Type} {p : α → Bool} : ∀ {L : List α} {i : Nat}, (∀ (j : Nat) (x : α), j < i → L[j]? = some x → p x = true) → (∃ x, L[i]? = some x ∧ p x = false) → (L.takeWhile p).length = i
  | [], i, _, ⟨x, hx, _⟩ => by simp at hx
  | y :: r, 0, _, ⟨x, hx, hp⟩ => by
    simp at hx
    subst hx
    rw [List.takeWhile_cons, hp]
    rfl
  | y :: r, i + 1, h, ⟨x, hx, hp⟩ => by
    have h0 : p y = true := h 0 y (Nat.succ_pos _) rfl
    rw [List.takeWhile_cons, h0]
    have := tw_at (L := r) (i := i) (p := p) (fun j z hj hz => h (j + 1) z (by omega) (by simpa using hz)) ⟨x, by simpa using hx, hp⟩
    simp [this]
theorem tw_none {α : Type} {p : α → Bool} : ∀ {L : List α}, (∀ (j : Nat) (x : α), L[j]? = some x → p x = true) → (L.takeWhile p).length = L.length
  | [], _ => rfl
  | y :: r, h => by
    have h0 : p y = true := h 0 y rfl
    rw [List.takeWhile_cons, h0]
    have := tw_none (L := r) (p := p) (fun j z hz => h (j + 1) z (by simpa using hz))
    simp [this]
end Go.Proofs.Ytcppihpehipelaa

namespace Go.Proofs.Ytcppihpehipelaa
open Go.RowKit
set_option linter.unusedVariables false
set_option linter.unusedSimpArgs false

set_option maxHeartbeats 2000000 in
theorem rcat_any {q : Nat} {M : List OneM} (id : Int) (w : World) (h : CrdV w q M) (hf : M.length ≤ 1000000) :
    Calls Try.prog 51 #[.pointer (some ⟨q, 0, none⟩), .int .i64 id] w fun e w' => e = .returned (.int .i64 (atC (decs M) id)) ∧ w' = w := by
  obtain ⟨N, hN⟩ : ∃ n, M.length = n := ⟨_, rfl⟩
  obtain ⟨a, c, hc, hcell, hone⟩ := h.open hN
  have q0 := hcell w (Below.refl _ _)
  have HN : Hid (M.length = N) := hN
  have HONE : Hid (∀ (i : Nat) (x : OneM), M[i]? = some x → ∃ g, a = some ⟨g, 0, none⟩ ∧ OneAt w g (i * 9) x) := fun i x hx => by
    obtain ⟨g, e, ho⟩ := hone i x hx
    exact ⟨g, e, ho w (Below.refl _ _)⟩
  rw [hN] at hf
  clear h hN hcell hone
  go_enter Try.func51, Try.ntmps51
  go_wp2
  go_loop [5] (fun iv => ∃ i : Nat, i ≤ N ∧ iv = .int .i64 i ∧ Hid (∀ (j : Nat) (x : OneM), j < i → M[j]? = some x → x.d.id ≠ id)) (fun iv => N - (intOf iv).toNat)
  case atStart => exact ⟨0, Nat.zero_le _, rfl, fun j x hj => by omega⟩
  case round =>
    obtain ⟨i, hi, rfl, HS⟩ := hrel
    have hi0 : (0 : Int) ≤ (i : Int) := by omega
    by_cases hlt : i < N
    · have h1 : (i : Int) < (N : Int) := by omega
      obtain ⟨x, hx⟩ : ∃ x, M[i]? = some x := ⟨_, List.getElem?_eq_getElem (by rw [HN.out]; exact hlt)⟩
      obtain ⟨g, hag, ho⟩ := HONE.out i x hx
      subst hag
      obtain ⟨z0, -⟩ := ho.cells
      have HX : Hid (M[i]? = some x) := hx
      obtain ⟨d, hd⟩ : ∃ z, z = x.d.id := ⟨_, rfl⟩
      have HD : Hid (d = x.d.id) := hd
      rw [← hd] at z0
      clear hx ho hd
      by_cases hid : d = id
      · have hb : (d == id) = true := by simpa using hid
        have HR : Hid (atC (decs M) id = (i : Int)) := by
          have : findC (decs M) id = i := tw_at (fun j y hj hy => by
            unfold decs at hy
            rw [List.getElem?_map] at hy
            obtain ⟨z, hz, rfl⟩ := Option.map_eq_some_iff.1 hy
            exact decide_eq_true (HS.out j z hj hz)) ⟨x.d, by unfold decs; rw [List.getElem?_map, HX.out]; rfl, decide_eq_false (by rw [← HD.out]; exact fun e => e hid)⟩
          show _ = _
          unfold atC
          rw [this, if_pos (by unfold decs; rw [List.length_map, HN.out]; exact hlt)]
        clear hid
        go_wp2
        go_ret
        exact ⟨by rw [HR.out]; rfl, rfl⟩
      · have hb : (d == id) = false := by simpa using hid
        have HS2 : Hid (∀ (j : Nat) (y : OneM), j < i + 1 → M[j]? = some y → y.d.id ≠ id) := fun j y hj hy => by
          by_cases e : j = i
          · subst e
            rw [HX.out] at hy
            injection hy with hy
            rw [← hy, ← HD.out]
            exact hid
          · exact HS.out j y (by omega) hy
        go_wp2
        go_round
        case rel => exact ⟨i + 1, by omega, by go_num, HS2⟩
        case measure => simp [intOf]; omega
    · obtain rfl : i = N := by omega
      have HR : Hid (atC (decs M) id = -1) := by
        have : findC (decs M) id = (decs M).length := tw_none (fun j y hy => by
          unfold decs at hy
          rw [List.getElem?_map] at hy
          obtain ⟨z, hz, rfl⟩ := Option.map_eq_some_iff.1 hy
          exact decide_eq_true (HS.out j z (by rw [← HN.out]; exact (List.getElem?_eq_some_iff.1 hz).1) hz))
        show _ = _
        unfold atC
        rw [this, if_neg (by omega)]
      go_wp2
      go_ret
      exact ⟨by rw [HR.out]; rfl, rfl⟩
set_option maxHeartbeats 2000000 in
theorem rcplace_any (a : Option Addr) (N c : Nat) (l : List Int) (p : Int) (w : World) (hl : l.length = N) (hc : N ≤ c) (hf : N ≤ 1000000) (hat : NumsD w a l) :
    Calls Try.prog 53 #[.slice a N c, .int .i64 p] w fun e w' => e = .returned (.int .i64 (placeC l p)) ∧ w' = w := by
  have HN : Hid (l.length = N) := hl
  have HA : Hid (NumsD w a l) := hat
  clear hl hat
  go_enter Try.func53, Try.ntmps53
  go_wp2
  go_loop [5] (fun iv => ∃ i : Nat, i ≤ N ∧ iv = .int .i64 i ∧ Hid (∀ (j : Nat) (x : Int), j < i → l[j]? = some x → x ≠ p)) (fun iv => N - (intOf iv).toNat)
  case atStart => exact ⟨0, Nat.zero_le _, rfl, fun j x hj => by omega⟩
  case round =>
    obtain ⟨i, hi, rfl, HS⟩ := hrel
    have hi0 : (0 : Int) ≤ (i : Int) := by omega
    by_cases hlt : i < N
    · have h1 : (i : Int) < (N : Int) := by omega
      obtain ⟨x, hx⟩ : ∃ x, l[i]? = some x := ⟨_, List.getElem?_eq_getElem (by rw [HN.out]; exact hlt)⟩
      obtain ⟨g, hag, z0⟩ := HA.out i x hx
      subst hag
      have HX : Hid (l[i]? = some x) := hx
      clear hx
      by_cases hid : x = p
      · have hb : (x == p) = true := by simpa using hid
        have HR : Hid (placeC l p = (i : Int)) := by
          have : spotC l p = i := tw_at (fun j y hj hy => decide_eq_true (HS.out j y hj hy)) ⟨x, HX.out, decide_eq_false (fun e => e hid)⟩
          show _ = _
          unfold placeC
          rw [this, if_pos (by rw [HN.out]; exact hlt)]
        clear hid
        go_wp2
        go_ret
        exact ⟨by rw [HR.out]; rfl, rfl⟩
      · have hb : (x == p) = false := by simpa using hid
        have HS2 : Hid (∀ (j : Nat) (y : Int), j < i + 1 → l[j]? = some y → y ≠ p) := fun j y hj hy => by
          by_cases e : j = i
          · subst e
            rw [HX.out] at hy
            injection hy with hy
            rw [← hy]
            exact hid
          · exact HS.out j y (by omega) hy
        go_wp2
        go_round
        case rel => exact ⟨i + 1, by omega, by go_num, HS2⟩
        case measure => simp [intOf]; omega
    · obtain rfl : i = N := by omega
      have HR : Hid (placeC l p = -1) := by
        have : spotC l p = l.length := tw_none (fun j y hy => decide_eq_true (HS.out j y (by rw [← HN.out]; exact (List.getElem?_eq_some_iff.1 hy).1) hy))
        show _ = _
        unfold placeC
        rw [this, if_neg (by omega)]
      go_wp2
      go_ret
      exact ⟨by rw [HR.out]; rfl, rfl⟩
end Go.Proofs.Ytcppihpehipelaa

