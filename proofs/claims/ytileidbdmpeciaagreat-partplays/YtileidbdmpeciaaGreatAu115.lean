/-
  The document's own parts (hourglassref14: Part) in memory: a store, a table, a list of what is over, each in blocks of its own.
  Appends to lists of the call's own whose elements have several cells, and where the list lies behind it.
  The document's own parts: NewPart, State, Abort.
  What the document's own stores answer: Keys (hourglassref10: Store.Keys).
-/
import Derived.Test.YtileidbdmpeciaaGreatAu105
import Derived.Test.YtileidbdmpeciaaGreatRefPrep6
import Derived.Test.YtileidbdmpeciaaGreatRefTrim
import Derived.Test.YtileidbdmpeciaaGreatAu106
import Derived.Test.YtileidbdmpeciaaGreatAu92
import Derived.Maps.AppendAt
import Derived.Deep.RegionHeld3
import Derived.Test.YtileidbdmpeciaaGreatAu113
import Derived.Test.YtileidbdmpeciaaGreatAu96
import Derived.Test.YtileidbdmpeciaaGreatAu79
namespace Go.Proofs.YtileidbdmpeciaaGreat
open Go.RowKit
set_option linter.unusedVariables false
set_option linter.unusedSimpArgs false

def encO (x : Int × Int) : List Value := [.int .i64 x.1, .int .i64 x.2]
theorem encO_len (x : Int × Int) : (encO x).length = 2 := rfl
theorem encO_one (x : Int × Int) : ∀ u ∈ encO x, u.oneCell' = true := by
  intro u hu
  simp [encO] at hu
  rcases hu with rfl | rfl <;> rfl
theorem endEl : ElT 66 124 2 16 := ElT.mk' (z := .agg #[.int .i64 0, .int .i64 0]) Tryz.underlying66 (by kernel_rfl) (by kernel_rfl) (by decide) (by decide)
/-- A part in block q, its store in s, its table in t; all of it made at B or above; the entries' writes lie elsewhere. -/
structure PrtR (u : World) (B q s t : Nat) (S : List Ver) (M : List EntM) (O : List (Int × Int)) : Prop where
  c0 : u.cell? ⟨q, 0, none⟩ = some (.pointer (some ⟨s, 0, none⟩))
  c1 : u.cell? ⟨q, 1, none⟩ = some (.pointer (some ⟨t, 0, none⟩))
  over : ∃ a c, u.cell? ⟨q, 2, none⟩ = some (.slice a O.length c) ∧ u.ownsRow B 124 2 (.slice a O.length c) O.length (O.flatMap encO) ∧ ∀ g, (Value.slice a O.length c).ownBlock = some g → g ≠ q ∧ g ≠ s ∧ g ≠ t
  free : u.frozen? ⟨q, 2, none⟩ = false
  sto : StoreR u B s S
  tab : TabR u B t M
  lo : B ≤ q
  qs : q ≠ s
  qt : q ≠ t
  st : s ≠ t
  sl : ∀ v, u.cell? ⟨s, 0, none⟩ = some v → ∀ g, v.ownBlock = some g → g ≠ q ∧ g ≠ t
  tl : ∀ v, u.cell? ⟨t, 0, none⟩ = some v → ∀ g, v.ownBlock = some g → g ≠ q ∧ g ≠ s
  far : ∀ x ∈ M, x.e.l ≠ [] → ∀ b o, x.a = some ⟨b, o, none⟩ → b ≠ q ∧ b ≠ s ∧ b ≠ t ∧ ∀ v, u.cell? ⟨q, 2, none⟩ = some v → v.ownBlock ≠ some b
  few : O.length ≤ 1000
theorem PrtR.lt {u : World} {B q s t : Nat} {S : List Ver} {M : List EntM} {O : List (Int × Int)} (h : PrtR u B q s t S M O) : q < u.heap.size := cell_lt h.c0
theorem PrtR.past {u u' : World} {B q s t : Nat} {S : List Ver} {M : List EntM} {O : List (Int × Int)} (h : PrtR u B q s t S M O) (hb : Below u.heap.size u u') : PrtR u' B q s t S M O := by
  have hq := h.lt
  obtain ⟨a, c, h1, h2, h3⟩ := h.over
  exact ⟨(hb.cell (p := ⟨q, 0, none⟩) hq).trans h.c0, (hb.cell (p := ⟨q, 1, none⟩) hq).trans h.c1, ⟨a, c, (hb.cell (p := ⟨q, 2, none⟩) hq).trans h1, own_below h2 hb (Nat.le_refl _), h3⟩, (hb.frozen (p := ⟨q, 2, none⟩) hq).trans h.free, h.sto.past hb, h.tab.past hb, h.lo, h.qs, h.qt, h.st, fun v hv => h.sl v ((hb.cell (p := ⟨s, 0, none⟩) h.sto.lt).symm.trans hv), fun v hv => h.tl v ((hb.cell (p := ⟨t, 0, none⟩) h.tab.lt).symm.trans hv), fun x hx hl b o e => ⟨(h.far x hx hl b o e).1, (h.far x hx hl b o e).2.1, (h.far x hx hl b o e).2.2.1, fun v hv => (h.far x hx hl b o e).2.2.2 v ((hb.cell (p := ⟨q, 2, none⟩) hq).symm.trans hv)⟩, h.few⟩
/-- The store turns. -/
theorem PrtR.turnS {u u' : World} {B q s t : Nat} {S S' : List Ver} {M : List EntM} {O : List (Int × Int)} (h : PrtR u B q s t S M O) (j1 : StoreR u' B s S') (j2 : Chg u u' (fun k => k = s)) (j3 : Rowed u u' s) : PrtR u' B q s t S' M O := by
  have hq := j2.block q h.lt h.qs
  have ht := j2.block t h.tab.lt (fun e => h.st e.symm)
  obtain ⟨a, c, h1, h2, h3⟩ := h.over
  obtain ⟨a2, c2, k1, k2, k3⟩ := h.tab.list
  refine ⟨(cell_of_block hq 0).1.trans h.c0, (cell_of_block hq 1).1.trans h.c1, ⟨a, c, (cell_of_block hq 2).1.trans h1, row_keptT h2 (fun k e => j2.block k (h2.lt k e).2 (fun e2 => (h3 k e).2.1 e2)), h3⟩, (cell_of_block hq 2).2.trans h.free, j1, ⟨Nat.lt_of_lt_of_le h.tab.lt j2.size, h.tab.lo, ⟨a2, c2, (cell_of_block ht 0).1.trans k1, row_keptT k2 (fun k e => j2.block k (k2.lt k e).2 (fun e2 => (h.tl _ k1 k e).2 e2)), k3⟩, (cell_of_block ht 0).2.trans h.tab.free, fun x hx => (h.tab.wrs x hx).kept (fun hl b o e => j2.block b ((h.tab.wrs x hx).wr.blt hl e) (h.far x hx hl b o e).2.1), h.tab.far, h.tab.few⟩, h.lo, h.qs, h.qt, h.st, fun v hv g hg => ?_, fun v hv => h.tl v ((cell_of_block ht 0).1.symm.trans hv), fun x hx hl b o e => ⟨(h.far x hx hl b o e).1, (h.far x hx hl b o e).2.1, (h.far x hx hl b o e).2.2.1, fun v hv => (h.far x hx hl b o e).2.2.2 v ((cell_of_block hq 2).1.symm.trans hv)⟩, h.few⟩
  · rcases j3 v hv g hg with e | ⟨v0, e1, e2⟩
    · have h4 := h.lt
      have h5 := h.tab.lt
      omega
    · exact h.sl v0 e1 g e2
/-- The table turns. -/
theorem PrtR.turnT {u u' : World} {B q s t : Nat} {S : List Ver} {M M' : List EntM} {O : List (Int × Int)} (h : PrtR u B q s t S M O) (j1 : TabR u' B t M') (j2 : Chg u u' (fun k => k = t)) (j3 : RowedT u u' t) (j4 : NewW u M M') : PrtR u' B q s t S M' O := by
  have hq := j2.block q h.lt h.qt
  have hs := j2.block s h.sto.lt h.st
  obtain ⟨a, c, h1, h2, h3⟩ := h.over
  obtain ⟨a2, c2, k1, k2, k3⟩ := h.sto.list
  refine ⟨(cell_of_block hq 0).1.trans h.c0, (cell_of_block hq 1).1.trans h.c1, ⟨a, c, (cell_of_block hq 2).1.trans h1, row_keptT h2 (fun k e => j2.block k (h2.lt k e).2 (fun e2 => (h3 k e).2.2 e2)), h3⟩, (cell_of_block hq 2).2.trans h.free, ⟨Nat.lt_of_lt_of_le h.sto.lt j2.size, h.sto.lo, ⟨a2, c2, (cell_of_block hs 0).1.trans k1, row_keptT k2 (fun k e => j2.block k (k2.lt k e).2 (fun e2 => (h.sl _ k1 k e).2 e2)), k3⟩, (cell_of_block hs 0).2.trans h.sto.free, h.sto.oks, h.sto.few⟩, j1, h.lo, h.qs, h.qt, h.st, fun v hv => h.sl v ((cell_of_block hs 0).1.symm.trans hv), fun v hv g hg => ?_, fun x hx hl b o e => ?_, h.few⟩
  · rcases j3 v hv g hg with e | ⟨v0, e1, e2⟩
    · have h4 := h.lt
      have h5 := h.sto.lt
      omega
    · exact h.tl v0 e1 g e2
  · rcases j4 x hx with e2 | e2
    · exact ⟨(h.far x e2 hl b o e).1, (h.far x e2 hl b o e).2.1, (h.far x e2 hl b o e).2.2.1, fun v hv => (h.far x e2 hl b o e).2.2.2 v ((cell_of_block hq 2).1.symm.trans hv)⟩
    · have h4 := e2 hl b o e
      have h5 := h.lt
      have h6 := h.sto.lt
      have h7 := h.tab.lt
      refine ⟨by omega, by omega, by omega, fun v hv ev => ?_⟩
      rw [(cell_of_block hq 2).1, h1] at hv
      injection hv with hv
      rw [← hv] at ev
      have := (h2.lt b ev).2
      omega
end Go.Proofs.YtileidbdmpeciaaGreat

namespace Go.Proofs.YtileidbdmpeciaaGreat
open Go.RowKit
set_option linter.unusedVariables false
set_option linter.unusedSimpArgs false

theorem run_append_els_at {t e : TypeId} {size bytes : Nat} (E : ElT t e size bytes) (w : World) (B : Nat) (v : Value) (n : Nat) (xs : List Value) (hown : w.ownsRow B e size v n xs) (sa : Addr) (m c : Nat) (news : List Value) (hl : news.length = m * size) (hsrc : Lies w (some sa) news) (h1 : ∀ u ∈ news, u.oneCell' = true) (hn : n + m ≤ 1000000) (hB : B ≤ w.heap.size) (ty : TypeId) :
    ∃ a' cap' w', (Builtin.append_ #[t, t] ty #[v, .slice (some sa) m c]).run Tryz.prog w = .ok (.slice a' (n + m) cap') w' ∧ w'.ownsRow B e size (.slice a' (n + m) cap') (n + m) (xs ++ news) ∧ w.grownBy w' v.ownBlock ∧ ((Value.slice a' (n + m) cap').ownBlock = v.ownBlock ∨ (Value.slice a' (n + m) cap').ownBlock = some w.heap.size) := by
  obtain ⟨i0, z, hi, hz0, hz1, hz2, hz3⟩ := E.info
  have hbig : (n + m) * bytes ≤ 140737488355328 := Nat.le_trans (Nat.mul_le_mul hn E.small) (by decide)
  obtain ⟨v', w', hrun, h2, h3, _, h4⟩ := run_append_own_at (P := Tryz.prog) w B t ty e i0 z size bytes E.ht hi hz0 hz1 hz2 hz3 E.pos v n xs hown sa m c news hl (hsrc sa rfl).2 h1 (by unfold maxLen; omega) hbig hB
  obtain ⟨a', cap', rfl⟩ := own_form h2
  exact ⟨a', cap', w', hrun, h2, h3, h4⟩
theorem wpList_append_els_at {t e : TypeId} {size bytes : Nat} (E : ElT t e size bytes) {w : World} {ops : Array Oper} {rest : List Oper} {o : Oper} {a : Act} {Q : Exit → Act → World → Prop} (B : Nat) (hB : B ≤ w.heap.size) (hgd : o.guard = none) (s x : Operand)
    (ho : o.op = .call { callee := .builtin .append, args := #[s, x], argTypes := #[t, t] })
    (v : Value) (n : Nat) (xs news : List Value) (hs : a.eval s = v) (hown : w.ownsRow B e size v n xs) (sa : Addr) (m c : Nat) (hx : a.eval x = .slice (some sa) m c) (hl : news.length = m * size) (hsrc : Lies w (some sa) news) (h1 : ∀ u ∈ news, u.oneCell' = true) (hn : n + m ≤ 1000000)
    (h : ∀ a' cap' w', w'.ownsRow B e size (.slice a' (n + m) cap') (n + m) (xs ++ news) → w.grownBy w' v.ownBlock → ((Value.slice a' (n + m) cap').ownBlock = v.ownBlock ∨ (Value.slice a' (n + m) cap').ownBlock = some w.heap.size) → wpList Tryz.prog ops Q rest (a.put o.dst (.slice a' (n + m) cap')) w') : wpList Tryz.prog ops Q (o :: rest) a w := by
  refine wpList_plain hgd fun K hK => ?_
  obtain ⟨a', cap', w', hrun, h2, h3, h4⟩ := run_append_els_at E w B v n xs hown sa m c news hl hsrc h1 hn hB o.type
  unfold Oper.wp
  simp [execOp, ho, resolve, invoke, builtin, hs, hx, hrun, Result.andThen]
  exact hK _ _ (h a' cap' w' h2 h3 h4)
end Go.Proofs.YtileidbdmpeciaaGreat

namespace Go.Proofs.YtileidbdmpeciaaGreat
open Go.RowKit
set_option linter.unusedVariables false
set_option linter.unusedSimpArgs false

/-- What is over, as the walk meets it. -/
theorem PrtR.overs {u : World} {B q s t : Nat} {S : List Ver} {M : List EntM} {O : List (Int × Int)} (h : PrtR u B q s t S M O) : ∃ a c, O.length ≤ c ∧ (∀ v, Below u.heap.size u v → v.cell? ⟨q, 2, none⟩ = some (.slice a O.length c)) ∧ ∀ i x, O[i]? = some x → ∃ g, a = some ⟨g, 0, none⟩ ∧ ∀ v, Below u.heap.size u v → v.cell? ⟨g, i * 2, none⟩ = some (.int .i64 x.1) ∧ v.cell? ⟨g, i * 2 + 1, none⟩ = some (.int .i64 x.2) := by
  obtain ⟨a, c, h1, h2, _⟩ := h.over
  refine ⟨a, c, ?_, fun v hv => (hv.cell (p := ⟨q, 2, none⟩) h.lt).trans h1, fun i x hx => ?_⟩
  · rcases h2.2 with ⟨e1, e2⟩ | ⟨g, cap, cur, e1, _, _, e5, _⟩
    · omega
    · injection e1 with e1 e2 e3
      omega
  · rcases h2.2 with ⟨e1, e2⟩ | ⟨g, cap, cur, e1, hg, hh, e5, _⟩
    · rw [List.eq_nil_of_length_eq_zero e2] at hx
      simp at hx
    · injection e1 with e1 e2 e3
      subst e1
      have hl : Lies u (some ⟨g, 0, none⟩) (O.flatMap encO) := own_lies h2
      have he := hl.el (fun y _ => encO_len y) hx
      rw [Nat.zero_add] at he
      have q0 := he.at 0 _ rfl
      have q1 := he.at 1 _ rfl
      exact ⟨g, rfl, fun v hv => ⟨(hv.cell (p := ⟨g, i * 2, none⟩) (cell_lt q0)).trans q0, (hv.cell (p := ⟨g, i * 2 + 1, none⟩) (cell_lt q1)).trans q1⟩⟩
theorem over_first {O : List (Int × Int)} {id : Int} {i : Nat} {x : Int × Int} (hx : O[i]? = some x) (he : x.1 = id) (h : ∀ j y, j < i → O[j]? = some y → y.1 ≠ id) : overP O id = some x.2 := by
  unfold overP
  rw [find_first hx (decide_eq_true he) (fun j y hj hy => decide_eq_false (h j y hj hy))]
  rfl
theorem over_no {O : List (Int × Int)} {id : Int} (h : ∀ j y, j < O.length → O[j]? = some y → y.1 ≠ id) : overP O id = none := by
  unfold overP
  rw [find_no (fun j y hj hy => decide_eq_false (h j y hj hy))]
  rfl
set_option maxHeartbeats 4000000 in
set_option maxRecDepth 8000 in
theorem rstate_any (B q s t : Nat) (S : List Ver) (M : List EntM) (O : List (Int × Int)) (id : Int) (w : World) (h : PrtR w B q s t S M O) :
    Calls Tryz.prog 34 #[.pointer (some ⟨q, 0, none⟩), .int .i64 id] w fun e w' => e = .returned (.int .i64 (stateP ⟨S, ents M, O⟩ id)) ∧ Below w.heap.size w w' := by
  obtain ⟨a, c, hcap, hc2, hel⟩ := h.overs
  obtain ⟨N, hN⟩ : ∃ N, N = O.length := ⟨_, rfl⟩
  rw [← hN] at hcap hc2
  have HN : Hid (O.length = N) := hN.symm
  have hN1 : N ≤ 1000 := by rw [hN]; exact h.few
  have HC2 : Hid (∀ v, Below w.heap.size w v → v.cell? ⟨q, 2, none⟩ = some (.slice a N c)) := hc2
  have HEL : Hid (∀ i x, O[i]? = some x → ∃ g, a = some ⟨g, 0, none⟩ ∧ ∀ v, Below w.heap.size w v → v.cell? ⟨g, i * 2, none⟩ = some (.int .i64 x.1) ∧ v.cell? ⟨g, i * 2 + 1, none⟩ = some (.int .i64 x.2)) := hel
  have HC1 : Hid (∀ v, Below w.heap.size w v → v.cell? ⟨q, 1, none⟩ = some (.pointer (some ⟨t, 0, none⟩))) := fun v hv => (hv.cell (p := ⟨q, 1, none⟩) h.lt).trans h.c1
  obtain ⟨⟨⟨I, SS, SM, TT, TN, lw⟩, aw, cw⟩, hx⟩ : ∃ x, x = orE (hasM M id) := ⟨_, rfl⟩
  obtain ⟨nw, hnw⟩ : ∃ n, n = lw.length := ⟨_, rfl⟩
  obtain ⟨ok, hok⟩ : ∃ ok, ok = (hasM M id).isSome := ⟨_, rfl⟩
  have CH : Hid (∀ u, Below w.heap.size w u → Calls Tryz.prog 68 #[.pointer (some ⟨t, 0, none⟩), .int .i64 id] u fun e w' => e = .returned (.tuple #[.agg #[.int .i64 I, .int .i64 SS, .int .u8 SM, .int .i64 TT, .int .u8 TN, .slice aw nw cw], .bool ok]) ∧ Below u.heap.size u w') := fun u hu => by
    have h1 := rhas_any B t M id u (h.tab.past hu)
    rw [← hx, ← hok] at h1
    rw [hnw]
    exact h1
  have HOK : Hid (ok = (hasT (ents M) id).isSome) := by show _ = _; rw [hok, ← hasM_e, Option.isSome_map]
  obtain ⟨R, hR⟩ : ∃ R, R = stateP ⟨S, ents M, O⟩ id := ⟨_, rfl⟩
  have HR : Hid (R = stateP ⟨S, ents M, O⟩ id) := hR
  rw [← hR]
  clear h hcap hc2 hel hN hx hnw hok hR
  go_enter Tryz.func34, Tryz.ntmps34
  go_wp2
  go_loopw [5] (fun iv wr => ∃ i : Nat, i ≤ N ∧ iv = .int .i64 i ∧ Hid (Below w.heap.size w wr ∧ ∀ j y, j < i → O[j]? = some y → y.1 ≠ id)) (fun iv _ => N - (intOf iv).toNat)
  case atStart => exact ⟨0, Nat.zero_le _, rfl, Below.refl _ _, fun j y hj => by omega⟩
  case round =>
    obtain ⟨i, hiN, rfl, HI⟩ := hrel
    have hi0 : (0 : Int) ≤ (i : Int) := by omega
    have q2 := HC2.out wr HI.out.1
    by_cases hlt : i < N
    · have hltI : (i : Int) < (N : Int) := by omega
      obtain ⟨x, hx⟩ : ∃ x, O[i]? = some x := ⟨_, List.getElem?_eq_getElem (by rw [HN.out]; exact hlt)⟩
      obtain ⟨g, rfl, hg⟩ := HEL.out i x hx
      obtain ⟨g0, g1⟩ := hg wr HI.out.1
      obtain ⟨xi, xh⟩ := x
      simp only at g0 g1
      have HX : Hid (O[i]? = some (xi, xh)) := hx
      clear hx hg
      by_cases he : xi = id
      · have HF : Hid (R = xh) := by
          rw [HR.out]
          unfold stateP
          rw [over_first HX.out he HI.out.2]
          rfl
        subst he
        go_wp2
        go_ret
        exact ⟨by rw [HF.out]; rfl, HI.out.1⟩
      · have HNX : Hid (Below w.heap.size w wr ∧ ∀ j y, j < i + 1 → O[j]? = some y → y.1 ≠ id) := ⟨HI.out.1, fun j y hj hy => by
          by_cases e : j = i
          · rw [e, HX.out] at hy
            injection hy with hy
            rw [← hy]
            exact he
          · exact HI.out.2 j y (by omega) hy⟩
        have he2 : (xi == id) = false := by simpa using he
        go_wp2
        go_roundw
        case rel => exact ⟨i + 1, by omega, by go_num, HNX⟩
        case measure => simp [intOf]; omega
    · obtain rfl : i = N := by omega
      have HF : Hid (R = if ok = true then 1 else 0) := by
        rw [HR.out, HOK.out]
        unfold stateP
        rw [over_no (fun j y hj hy => HI.out.2 j y (by rw [HN.out] at hj; exact hj) hy)]
        rfl
      have q1 := HC1.out wr HI.out.1
      have CT : Hid (Calls Tryz.prog 68 #[.pointer (some ⟨t, 0, none⟩), .int .i64 id] wr fun e w' => e = .returned (.tuple #[.agg #[.int .i64 I, .int .i64 SS, .int .u8 SM, .int .i64 TT, .int .u8 TN, .slice aw nw cw], .bool ok]) ∧ Below w.heap.size w w') := (CH.out wr HI.out.1).mono (by rintro e w' ⟨rfl, hb⟩; exact ⟨rfl, HI.out.1.trans (hb.mono HI.out.1.size)⟩)
      cases ok with
      | true =>
        go_wp2_with (first | (go_at_call 68; refine CT.out.mono ?_; rintro e w2 ⟨rfl, hb⟩; have HB : Hid (Below w.heap.size w w2) := hb; clear hb))
        go_ret
        exact ⟨by rw [HF.out]; rfl, HB.out.alloc HB.out.size _⟩
      | false =>
        go_wp2_with (first | (go_at_call 68; refine CT.out.mono ?_; rintro e w2 ⟨rfl, hb⟩; have HB : Hid (Below w.heap.size w w2) := hb; clear hb))
        go_ret
        exact ⟨by rw [HF.out]; rfl, HB.out.alloc HB.out.size _⟩
theorem rnewpart_made (w : World) : PrtR (((w.alloc (.cells #[.slice none 0 0] 111)).alloc (.cells #[.slice none 0 0] 71)).alloc (.cells #[.pointer (some ⟨w.heap.size, 0, none⟩), .pointer (some ⟨w.heap.size + 1, 0, none⟩), .slice none 0 0] 68)) w.heap.size (w.heap.size + 2) w.heap.size (w.heap.size + 1) [] [] [] := by
  obtain ⟨u1, h1⟩ : ∃ u, u = w.alloc (.cells #[.slice none 0 0] 111) := ⟨_, rfl⟩
  have e1 : u1.heap.size = w.heap.size + 1 := by rw [h1]; simp
  have a0 : u1.cell? ⟨w.heap.size, 0, none⟩ = some (.slice none 0 0) := by rw [h1, World.cell?_alloc_new]; rfl
  have f0 : u1.frozen? ⟨w.heap.size, 0, none⟩ = false := by rw [h1]; exact World.frozen?_alloc_new _ _ _ _
  rw [← h1]
  obtain ⟨u2, h2⟩ : ∃ u, u = u1.alloc (.cells #[.slice none 0 0] 71) := ⟨_, rfl⟩
  have e2 : u2.heap.size = w.heap.size + 2 := by rw [h2]; simp; omega
  have b2 : Below u1.heap.size u1 u2 := by rw [h2]; exact (Below.refl _ _).alloc (Nat.le_refl _) _
  have a1 : u2.cell? ⟨w.heap.size + 1, 0, none⟩ = some (.slice none 0 0) := by rw [h2, ← e1, World.cell?_alloc_new]; rfl
  have f1 : u2.frozen? ⟨w.heap.size + 1, 0, none⟩ = false := by rw [h2, ← e1]; exact World.frozen?_alloc_new _ _ _ _
  rw [← h2]
  have b3 : Below u2.heap.size u2 (u2.alloc (.cells #[.pointer (some ⟨w.heap.size, 0, none⟩), .pointer (some ⟨w.heap.size + 1, 0, none⟩), .slice none 0 0] 68)) := (Below.refl _ _).alloc (Nat.le_refl _) _
  have a0' := (b3.cell (p := ⟨w.heap.size, 0, none⟩) (by show w.heap.size < _; omega)).trans ((b2.cell (p := ⟨w.heap.size, 0, none⟩) (by show w.heap.size < _; omega)).trans a0)
  have f0' := (b3.frozen (p := ⟨w.heap.size, 0, none⟩) (by show w.heap.size < _; omega)).trans ((b2.frozen (p := ⟨w.heap.size, 0, none⟩) (by show w.heap.size < _; omega)).trans f0)
  have a1' := (b3.cell (p := ⟨w.heap.size + 1, 0, none⟩) (by show w.heap.size + 1 < _; omega)).trans a1
  have f1' := (b3.frozen (p := ⟨w.heap.size + 1, 0, none⟩) (by show w.heap.size + 1 < _; omega)).trans f1
  have c0 : (u2.alloc (.cells #[.pointer (some ⟨w.heap.size, 0, none⟩), .pointer (some ⟨w.heap.size + 1, 0, none⟩), .slice none 0 0] 68)).cell? ⟨w.heap.size + 2, 0, none⟩ = some (.pointer (some ⟨w.heap.size, 0, none⟩)) := by rw [← e2, World.cell?_alloc_new]; rfl
  have c1 : (u2.alloc (.cells #[.pointer (some ⟨w.heap.size, 0, none⟩), .pointer (some ⟨w.heap.size + 1, 0, none⟩), .slice none 0 0] 68)).cell? ⟨w.heap.size + 2, 1, none⟩ = some (.pointer (some ⟨w.heap.size + 1, 0, none⟩)) := by rw [← e2, World.cell?_alloc_new]; rfl
  have c2 : (u2.alloc (.cells #[.pointer (some ⟨w.heap.size, 0, none⟩), .pointer (some ⟨w.heap.size + 1, 0, none⟩), .slice none 0 0] 68)).cell? ⟨w.heap.size + 2, 2, none⟩ = some (.slice none 0 0) := by rw [← e2, World.cell?_alloc_new]; rfl
  have hsz : (u2.alloc (.cells #[.pointer (some ⟨w.heap.size, 0, none⟩), .pointer (some ⟨w.heap.size + 1, 0, none⟩), .slice none 0 0] 68)).heap.size = w.heap.size + 3 := by simp; omega
  have nn : ∀ g, (Value.slice none 0 0).ownBlock ≠ some g := fun g e => by simp [Value.ownBlock] at e
  refine ⟨c0, c1, ⟨none, 0, c2, ⟨rfl, .inl ⟨rfl, rfl⟩⟩, fun g hg => absurd hg (nn g)⟩, by rw [← e2]; exact World.frozen?_alloc_new _ _ _ _, ⟨by omega, Nat.le_refl _, ⟨none, 0, a0', ⟨rfl, .inl ⟨rfl, rfl⟩⟩, fun g hg => absurd hg (nn g)⟩, f0', fun V hV => by simp at hV, by simp⟩, ⟨by omega, by omega, ⟨none, 0, a1', ⟨rfl, .inl ⟨rfl, rfl⟩⟩, fun g hg => absurd hg (nn g)⟩, f1', fun x hx => by simp at hx, fun x hx => by simp at hx, by simp⟩, by omega, by omega, by omega, by omega, fun v hv g hg => ?_, fun v hv g hg => ?_, fun x hx => by simp at hx, by simp⟩
  · rw [a0'] at hv
    injection hv with hv
    rw [← hv] at hg
    exact absurd hg (nn g)
  · rw [a1'] at hv
    injection hv with hv
    rw [← hv] at hg
    exact absurd hg (nn g)
theorem rnewpart_any (w : World) : Calls Tryz.prog 21 #[] w fun e w' => ∃ q s t, e = .returned (.pointer (some ⟨q, 0, none⟩)) ∧ PrtR w' w.heap.size q s t [] [] [] ∧ Below w.heap.size w w' := by
  have H : Hid _ := rnewpart_made w
  have HB : Hid (Below w.heap.size w (((w.alloc (.cells #[.slice none 0 0] 111)).alloc (.cells #[.slice none 0 0] 71)).alloc (.cells #[.pointer (some ⟨w.heap.size, 0, none⟩), .pointer (some ⟨w.heap.size + 1, 0, none⟩), .slice none 0 0] 68))) := (((Below.refl _ _).alloc (Nat.le_refl _) _).alloc (by simp) _).alloc (by simp; omega) _
  go_enter Tryz.func21, Tryz.ntmps21
  go_wp2
  go_ret
  exact ⟨_, _, _, rfl, H.out, HB.out⟩
end Go.Proofs.YtileidbdmpeciaaGreat

namespace Go.Proofs.YtileidbdmpeciaaGreat
open Go.RowKit
set_option linter.unusedVariables false

theorem run_build_key1 (w : World) (k : List Int) (hk : Ky k) :
    (Instr.buildSlice 113 1 #[(0, kv k)]).run Tryz.prog w = .ok (.slice (some ⟨w.heap.size, 0, none⟩) 1 1) (w.alloc (.cells (kc k).toArray 38)) := by
  have hl := kc_len hk
  have hf : Instr.fill (fun i => some (i * 16, 16)) (List.replicate 16 (Value.int .u8 0)).toArray [(0, kv k)] = some (kc k).toArray := by
    show Instr.fill _ _ [(0, .agg (kc k).toArray)] = _
    rw [fill_step _ (List.replicate 16 (Value.int .u8 0)) 0 0 16 (kc k) rfl hl (by rw [List.length_replicate]; omega)]
    show some _ = some _
    congr 2
    rw [List.drop_eq_nil_of_le (by rw [List.length_replicate]; omega)]
    simp
  simp [Instr.buildSlice, run_underlying Tryz.underlying113]
  generalize hz : Array.map _ (Array.range 16) = Z
  have hz2 : Z = (List.replicate 16 (Value.int .u8 0)).toArray := by rw [← hz]; kernel_rfl
  rw [hz2, hf]
  simp [newRow]
theorem wpList_build_key1 (d : Tmp) {ops : Array Oper} {rest : List Oper} {op : Oper} {a : Act} {w : World} {Q : Exit → Act → World → Prop} (hd : op.dst = some d) (hgd : op.guard = none) (x : Operand) (ho : op.op = .buildSlice 113 1 #[(0, x)])
    (k : List Int) (hk : Ky k) (hx : a.eval x = kv k)
    (h : wpList Tryz.prog ops Q rest (a.put op.dst (.slice (some ⟨w.heap.size, 0, none⟩) 1 1)) (w.alloc (.cells (kc k).toArray 38))) : wpList Tryz.prog ops Q (op :: rest) a w := by
  refine wpList_plain hgd fun K hK => ?_
  have hrun := run_build_key1 w k hk
  unfold Oper.wp
  simp [execOp, ho, hx, hrun, Result.andThen]
  exact hK _ _ h
theorem own_keys {w : World} {B n : Nat} {v : Value} {l : List (List Int)} (h : w.ownsRow B 38 16 v n (l.flatMap kc)) (hl : l.length = n) (hk : Kys l) : ∃ a c, v = .slice a n c ∧ n ≤ c ∧ KeysAt w a l := by
  rcases h.2 with ⟨rfl, h0⟩ | ⟨g, cap, cur, rfl, hg, hh, h1, h2, h3, h4⟩
  · subst h0
    have e := List.eq_nil_of_length_eq_zero hl
    subst e
    exact ⟨none, 0, rfl, Nat.le_refl _, lies_none _ _, hk, fun _ => rfl⟩
  · exact ⟨_, cap, rfl, h1, own_lies h, hk, fun e => by cases e⟩
theorem keys_kys {L : List Ver} (h : OkL L) (i : Nat) : Kys (keysV (L.take i)) := fun k hk => by
  obtain ⟨V, hV, rfl⟩ := (keys_mem _ k).1 hk
  exact (h V (List.mem_of_mem_take hV)).key
set_option maxHeartbeats 8000000 in
set_option maxRecDepth 8000 in
theorem rkeys10m_any (B p : Nat) (L : List Ver) (w : World) (h : StoreR w B p L) :
    Calls Tryz.prog 61 #[.pointer (some ⟨p, 0, none⟩)] w fun e w' => ∃ a' c', e = .returned (.slice a' (keysV L).length c') ∧ OwnB 38 16 w w' (.slice a' (keysV L).length c') (keysV L).length ((keysV L).flatMap kc) ∧ Kys (keysV L) := by
  obtain ⟨N, hN⟩ : ∃ N, N = L.length := ⟨_, rfl⟩
  obtain ⟨a0, c0, hcap, hcell, hs⟩ := h.open
  have hfew := h.few
  rw [← hN] at hcap hcell hfew
  have HCE : Hid (∀ v, Below w.heap.size w v → v.cell? ⟨p, 0, none⟩ = some (.slice a0 N c0)) := hcell
  have HOK : Hid (OkL L) := h.oks
  have HN : Hid (L.length = N) := hN.symm
  have HS : Hid (L ≠ [] → ∃ g, a0 = some ⟨g, 0, none⟩ ∧ Hid (∀ v, Below w.heap.size w v → ∀ i V, L[i]? = some V → VerAt v g (i * 20) V)) := fun hne => by
    rcases hs with e | ⟨g, e1, _, _, e4⟩
    · exact absurd e hne
    · exact ⟨g, e1, e4⟩
  clear h hs hcell hN
  go_enter Tryz.func61, Tryz.ntmps61
  go_wp2
  go_loopw [3, 4] (fun rv iv wr => ∃ (i m : Nat) (ra : Option Addr) (rc : Nat), iv = .int .i64 i ∧ rv = .slice ra m rc ∧ i ≤ N ∧ m ≤ i ∧ Hid (OwnB 38 16 w wr (.slice ra m rc) m ((keysV (L.take i)).flatMap kc)) ∧ Hid ((keysV (L.take i)).length = m)) (fun _ iv _ => N - (intOf iv).toNat)
  case atStart => exact ⟨0, 0, none, 0, rfl, rfl, Nat.zero_le _, Nat.le_refl _, ⟨World.ownsRow_nil _ _ _ _, Below.refl _ _⟩, rfl⟩
  case round =>
    obtain ⟨i, m, ra, rc, rfl, rfl, hi, hmi, HO, HML⟩ := hrel
    have HBR : Hid (Below w.heap.size w wr) := HO.out.below
    have hi0 : (0 : Int) ≤ (i : Int) := by omega
    have q0 := HCE.out wr HBR.out
    by_cases hlt : i < N
    · have h1 : (i : Int) < (N : Int) := by omega
      obtain ⟨V1, hV1⟩ : ∃ V, L[i]? = some V := ⟨_, List.getElem?_eq_getElem (by rw [HN.out]; exact hlt)⟩
      obtain ⟨g, hag, HG⟩ := HS.out (by intro e; rw [e] at hV1; simp at hV1)
      rw [hag] at q0
      have HC0 : Hid (∀ u, Below wr.heap.size wr u → u.cell? ⟨p, 0, none⟩ = some (.slice (some ⟨g, 0, none⟩) N c0)) := fun u hb => by rw [← hag]; exact HCE.out u (HBR.out.trans (hb.mono HBR.out.size))
      obtain ⟨K1, hK1⟩ : ∃ K, K = V1.k := ⟨_, rfl⟩
      have HK1 : Hid (Ky K1) := by rw [hK1]; exact (HOK.out V1 (List.mem_of_getElem? hV1)).key
      have FK : Hid (∀ u, Below wr.heap.size wr u → KeyAt u g (i * 20) K1) := fun u hb => by rw [hK1]; exact (HG.out u (HBR.out.trans (hb.mono HBR.out.size)) _ _ hV1).key (HOK.out V1 (List.mem_of_getElem? hV1)).key
      have HNX : Hid (keysV (L.take (i + 1)) = if (keysV (L.take i)).getLast? = some K1 then keysV (L.take i) else keysV (L.take i) ++ [K1]) := by rw [hK1]; exact keys_take hV1
      have HPV : Hid (∀ j, i = j + 1 → ∃ K0, Ky K0 ∧ (∀ u, Below wr.heap.size wr u → KeyAt u g (j * 20) K0) ∧ (keysV (L.take i)).getLast? = some K0) := fun j hj => by
        subst hj
        have hjl : j < L.length := by rw [HN.out]; omega
        have hV0 := List.getElem?_eq_getElem hjl
        exact ⟨L[j].k, (HOK.out _ (List.getElem_mem hjl)).key, fun u hb => (HG.out u (HBR.out.trans (hb.mono HBR.out.size)) _ _ hV0).key (HOK.out _ (List.getElem_mem hjl)).key, keys_prev hV0⟩
      clear hV1 hK1 hag HS
      have hm1 : m + 1 ≤ 1000000 := by omega
      by_cases hi1 : i = 0
      · subst hi1
        have HX : Hid (keysV (L.take (0 + 1)) = keysV (L.take 0) ++ [K1]) := by show _ = _; rw [HNX.out, if_neg]; simp [keysV]
        have HFL : Hid ((keysV (L.take 0)).flatMap kc ++ kc K1 = (keysV (L.take (0 + 1))).flatMap kc) := by show _ = _; rw [HX.out, List.flatMap_append]; simp
        clear HPV HNX
        go_wp2
        refine wp_region_noPanic ?_
        refine wp_region_held_drew (S := fun u => Below wr.heap.size wr u) (by kernel_rfl) ?_ (fun hHeld => ?_)
        · exact (Below.refl _ _).drew
        refine wpAnyH_take (i := 0) (v := ?_) rfl (by kernel_rfl) (by kernel_rfl) (by kernel_rfl) (fun _ _ _ h => h) (Or.inl ⟨by rfl, ?_⟩) hHeld ?_
        rotate_left
        · intro u hSu
          (go_simp) <;> (with_reducible rfl)
        change wpAnyH _ _ _ _ _ _ _ (Act.put _ (some 14) _) _
        simp only [Act.put, List.setIfInBounds_toArray, List.set_cons_zero, List.set_cons_succ]
        refine wpAnyH_take (i := 1) (v := ?_) rfl (by kernel_rfl) (by kernel_rfl) (by kernel_rfl) (fun _ _ _ h => h) (Or.inl ⟨by rfl, ?_⟩) hHeld ?_
        rotate_left
        · intro u hSu
          (go_simp) <;> (with_reducible rfl)
        change wpAnyH _ _ _ _ _ _ _ (Act.put _ (some 15) _) _
        simp only [Act.put, List.setIfInBounds_toArray, List.set_cons_zero, List.set_cons_succ]
        refine wpAnyH_take (i := 2) (v := ?_) rfl (by kernel_rfl) (by kernel_rfl) (by kernel_rfl) (fun _ _ _ h => h) (Or.inl ⟨by rfl, ?_⟩) hHeld ?_
        rotate_left
        · intro u hSu
          (go_simp) <;> (with_reducible rfl)
        change wpAnyH _ _ _ _ _ _ _ (Act.put _ (some 16) _) _
        simp only [Act.put, List.setIfInBounds_toArray, List.set_cons_zero, List.set_cons_succ]
        refine wpAnyH_take (i := 3) (v := undef) rfl (by kernel_rfl) (by kernel_rfl) (by kernel_rfl) (fun _ _ _ h => h) (Or.inr ⟨by rfl, rfl⟩) hHeld ?_
        change wpAnyH _ _ _ _ _ _ _ (Act.put _ (some 17) _) _
        simp only [Act.put, List.setIfInBounds_toArray, List.set_cons_zero, List.set_cons_succ]
        refine wpAnyH_take (i := 4) (v := undef) rfl (by kernel_rfl) (by kernel_rfl) (by kernel_rfl) (fun _ _ _ h => h) (Or.inr ⟨by rfl, rfl⟩) hHeld ?_
        change wpAnyH _ _ _ _ _ _ _ (Act.put _ (some 18) _) _
        simp only [Act.put, List.setIfInBounds_toArray, List.set_cons_zero, List.set_cons_succ]
        refine wpAnyH_take (i := 5) (v := undef) rfl (by kernel_rfl) (by kernel_rfl) (by kernel_rfl) (fun _ _ _ h => h) (Or.inr ⟨by rfl, rfl⟩) hHeld ?_
        change wpAnyH _ _ _ _ _ _ _ (Act.put _ (some 19) _) _
        simp only [Act.put, List.setIfInBounds_toArray, List.set_cons_zero, List.set_cons_succ]
        refine wpAnyH_take (i := 6) (v := undef) rfl (by kernel_rfl) (by kernel_rfl) (by kernel_rfl) (fun _ _ _ h => h) (Or.inr ⟨by rfl, rfl⟩) hHeld ?_
        change wpAnyH _ _ _ _ _ _ _ (Act.put _ (some 20) _) _
        simp only [Act.put, List.setIfInBounds_toArray, List.set_cons_zero, List.set_cons_succ]
        refine wpAnyH_take (i := 7) (v := undef) rfl (by kernel_rfl) (by kernel_rfl) (by kernel_rfl) (fun _ _ _ h => h) (Or.inr ⟨by rfl, rfl⟩) hHeld ?_
        change wpAnyH _ _ _ _ _ _ _ (Act.put _ (some 21) _) _
        simp only [Act.put, List.setIfInBounds_toArray, List.set_cons_zero, List.set_cons_succ]
        refine wpAnyH_take (i := 8) (v := undef) rfl (by kernel_rfl) (by kernel_rfl) (by kernel_rfl) (fun _ _ _ h => h) (Or.inr ⟨by rfl, rfl⟩) hHeld ?_
        change wpAnyH _ _ _ _ _ _ _ (Act.put _ (some 22) _) _
        simp only [Act.put, List.setIfInBounds_toArray, List.set_cons_zero, List.set_cons_succ]
        refine wpAnyH_take (i := 9) (v := undef) rfl (by kernel_rfl) (by kernel_rfl) (by kernel_rfl) (fun _ _ _ h => h) (Or.inr ⟨by rfl, rfl⟩) hHeld ?_
        change wpAnyH _ _ _ _ _ _ _ (Act.put _ (some 23) _) _
        simp only [Act.put, List.setIfInBounds_toArray, List.set_cons_zero, List.set_cons_succ]
        refine wpAnyH_take (i := 10) (v := undef) rfl (by kernel_rfl) (by kernel_rfl) (by kernel_rfl) (fun _ _ _ h => h) (Or.inr ⟨by rfl, rfl⟩) hHeld ?_
        change wpAnyH _ _ _ _ _ _ _ (Act.put _ (some 24) _) _
        simp only [Act.put, List.setIfInBounds_toArray, List.set_cons_zero, List.set_cons_succ]
        refine wpAnyH_take (i := 11) (v := undef) rfl (by kernel_rfl) (by kernel_rfl) (by kernel_rfl) (fun _ _ _ h => h) (Or.inr ⟨by rfl, rfl⟩) hHeld ?_
        change wpAnyH _ _ _ _ _ _ _ (Act.put _ (some 25) _) _
        simp only [Act.put, List.setIfInBounds_toArray, List.set_cons_zero, List.set_cons_succ]
        refine wpAnyH_take (i := 12) (v := undef) rfl (by kernel_rfl) (by kernel_rfl) (by kernel_rfl) (fun _ _ _ h => h) (Or.inr ⟨by rfl, rfl⟩) hHeld ?_
        change wpAnyH _ _ _ _ _ _ _ (Act.put _ (some 26) _) _
        simp only [Act.put, List.setIfInBounds_toArray, List.set_cons_zero, List.set_cons_succ]
        refine wpAnyH_take (i := 13) (v := undef) rfl (by kernel_rfl) (by kernel_rfl) (by kernel_rfl) (fun _ _ _ h => h) (Or.inr ⟨by rfl, rfl⟩) hHeld ?_
        change wpAnyH _ _ _ _ _ _ _ (Act.put _ (some 27) _) _
        simp only [Act.put, List.setIfInBounds_toArray, List.set_cons_zero, List.set_cons_succ]
        refine wpAnyH_take (i := 14) (v := undef) rfl (by kernel_rfl) (by kernel_rfl) (by kernel_rfl) (fun _ _ _ h => h) (Or.inr ⟨by rfl, rfl⟩) hHeld ?_
        change wpAnyH _ _ _ _ _ _ _ (Act.put _ (some 28) _) _
        simp only [Act.put, List.setIfInBounds_toArray, List.set_cons_zero, List.set_cons_succ]
        refine wpAnyH_take (i := 15) (v := undef) rfl (by kernel_rfl) (by kernel_rfl) (by kernel_rfl) (fun _ _ _ h => h) (Or.inr ⟨by rfl, rfl⟩) hHeld ?_
        change wpAnyH _ _ _ _ _ _ _ (Act.put _ (some 29) _) _
        simp only [Act.put, List.setIfInBounds_toArray, List.set_cons_zero, List.set_cons_succ]
        refine wpAnyH_take (i := 16) (v := undef) rfl (by kernel_rfl) (by kernel_rfl) (by kernel_rfl) (fun _ _ _ h => h) (Or.inr ⟨by rfl, rfl⟩) hHeld ?_
        change wpAnyH _ _ _ _ _ _ _ (Act.put _ (some 30) _) _
        simp only [Act.put, List.setIfInBounds_toArray, List.set_cons_zero, List.set_cons_succ]
        refine wpAnyH_take (i := 17) (v := undef) rfl (by kernel_rfl) (by kernel_rfl) (by kernel_rfl) (fun _ _ _ h => h) (Or.inr ⟨by rfl, rfl⟩) hHeld ?_
        change wpAnyH _ _ _ _ _ _ _ (Act.put _ (some 31) _) _
        simp only [Act.put, List.setIfInBounds_toArray, List.set_cons_zero, List.set_cons_succ]
        refine wpAnyH_take (i := 18) (v := undef) rfl (by kernel_rfl) (by kernel_rfl) (by kernel_rfl) (fun _ _ _ h => h) (Or.inr ⟨by rfl, rfl⟩) hHeld ?_
        change wpAnyH _ _ _ _ _ _ _ (Act.put _ (some 32) _) _
        simp only [Act.put, List.setIfInBounds_toArray, List.set_cons_zero, List.set_cons_succ]
        refine wpAnyH_take (i := 19) (v := undef) rfl (by kernel_rfl) (by kernel_rfl) (by kernel_rfl) (fun _ _ _ h => h) (Or.inr ⟨by rfl, rfl⟩) hHeld ?_
        change wpAnyH _ _ _ _ _ _ _ (Act.put _ (some 33) _) _
        simp only [Act.put, List.setIfInBounds_toArray, List.set_cons_zero, List.set_cons_succ]
        refine wpAnyH_take (i := 20) (v := undef) rfl (by kernel_rfl) (by kernel_rfl) (by kernel_rfl) (fun _ _ _ h => h) (Or.inr ⟨by rfl, rfl⟩) hHeld ?_
        change wpAnyH _ _ _ _ _ _ _ (Act.put _ (some 34) _) _
        simp only [Act.put, List.setIfInBounds_toArray, List.set_cons_zero, List.set_cons_succ]
        refine wpAnyH_take (i := 21) (v := ?_) rfl (by kernel_rfl) (by kernel_rfl) (by kernel_rfl) (fun _ _ _ h => h) (Or.inl ⟨by rfl, ?_⟩) hHeld ?_
        rotate_left
        · intro u hSu
          (go_simp) <;> (with_reducible rfl)
        change wpAnyH _ _ _ _ _ _ _ (Act.put _ (some 35) _) _
        simp only [Act.put, List.setIfInBounds_toArray, List.set_cons_zero, List.set_cons_succ]
        refine wpAnyH_done (by kernel_rfl) ?_ _
        refine NoPanic.normal ?_
        have q1 := HC0.out wr.drew (Below.refl _ _).drew
        go_wp2_with (first | ((with_reducible show wpList _ _ _ (Oper.mk (some 44) _ _ _ _ _ :: _) _ _); refine wpList_load_keyD 44 (by rfl) (by rfl) _ (by rfl) g (0 * 20) (by rfl) K1 HK1.out (FK.out _ (Below.refl _ _).drew) ?_) | ((with_reducible show wpList _ _ _ (Oper.mk (some 45) _ _ _ _ _ :: _) _ _); refine wpList_build_key1 45 (by rfl) (by rfl) _ (by rfl) K1 HK1.out (by rfl) ?_) | (at_builtin; refine wpList_own keyEl (w0 := w) rfl (.tmp 36) (.tmp 45) rfl _ m _ (kc K1) rfl ((HO.out.past (Below.refl _ _).drew).alloc _) _ _ _ rfl (by rw [kc_len HK1.out]) (lies_made _ _ _) (ints_oneCell _ _) (fun h => by cases h) (m + 1) rfl hm1 _ HFL.out ?_; intro a6 c6 w6 h1 h2; have O6 : Hid (OwnB 38 16 w w6 (.slice a6 (m + 1) c6) (m + 1) ((keysV (L.take (0 + 1))).flatMap kc)) := h1; clear h1 h2))
        go_roundw
        case rel => exact ⟨0 + 1, m + 1, a6, c6, by go_num, rfl, by omega, by omega, O6, by show _ = _; rw [HX.out, List.length_append, HML.out]; rfl⟩
        case measure => simp [intOf]; omega
      · obtain ⟨j, rfl⟩ : ∃ j, i = j + 1 := ⟨i - 1, by omega⟩
        obtain ⟨K0, hk0, hka0, hlast⟩ := HPV.out j rfl
        have HK0 : Hid (Ky K0) := hk0
        have P0 : Hid (∀ u, Below wr.heap.size wr u → KeyAt u g (j * 20) K0) := hka0
        have hj0 : (0 : Int) ≤ (j : Int) := by omega
        have hjN : (j : Int) < (N : Int) := by omega
        have hj1 : (0 : Int) ≤ (j : Int) + 1 := by omega
        have hj2 : (j : Int) + 1 < (N : Int) := by omega
        have hne : ((j : Int) + 1 == 0) = false := by simp; omega
        have hwj : IntKind.i64.wrap (j : Int) = (j : Int) := by rw [IntKind.wrap_i64]; omega
        by_cases hq : K1 = K0
        · have he : ∀ u, (Op.equalIn 10000 38 (kv K1) (kv K0)).run Tryz.prog u = .ok true u := fun u => by rw [eq_key u K1 K0 HK1.out HK0.out, decide_eq_true hq]
          have HX : Hid (keysV (L.take (j + 1 + 1)) = keysV (L.take (j + 1))) := by show _ = _; rw [HNX.out, hlast, if_pos (by rw [hq])]
          clear HPV HNX hk0 hka0 hlast hq
          go_wp2
          refine wp_region_noPanic ?_
          refine wp_region_held_drew (S := fun u => Below wr.heap.size wr u) (by kernel_rfl) ?_ (fun hHeld => ?_)
          · exact (Below.refl _ _).drew
          refine wpAnyH_take (i := 0) (v := ?_) rfl (by kernel_rfl) (by kernel_rfl) (by kernel_rfl) (fun _ _ _ h => h) (Or.inl ⟨by rfl, ?_⟩) hHeld ?_
          rotate_left
          · intro u hSu
            (go_simp) <;> (with_reducible rfl)
          change wpAnyH _ _ _ _ _ _ _ (Act.put _ (some 14) _) _
          simp only [Act.put, List.setIfInBounds_toArray, List.set_cons_zero, List.set_cons_succ]
          refine wpAnyH_take (i := 1) (v := ?_) rfl (by kernel_rfl) (by kernel_rfl) (by kernel_rfl) (fun _ _ _ h => h) (Or.inl ⟨by rfl, ?_⟩) hHeld ?_
          rotate_left
          · intro u hSu
            (go_simp) <;> (with_reducible rfl)
          change wpAnyH _ _ _ _ _ _ _ (Act.put _ (some 15) _) _
          simp only [Act.put, List.setIfInBounds_toArray, List.set_cons_zero, List.set_cons_succ]
          refine wpAnyH_take (i := 2) (v := ?_) rfl (by kernel_rfl) (by kernel_rfl) (by kernel_rfl) (fun _ _ _ h => h) (Or.inl ⟨by rfl, ?_⟩) hHeld ?_
          rotate_left
          · intro u hSu
            (go_simp) <;> (with_reducible rfl)
          change wpAnyH _ _ _ _ _ _ _ (Act.put _ (some 16) _) _
          simp only [Act.put, List.setIfInBounds_toArray, List.set_cons_zero, List.set_cons_succ]
          refine wpAnyH_take (i := 3) (v := ?_) rfl (by kernel_rfl) (by kernel_rfl) (by kernel_rfl) (fun _ _ _ h => h) (Or.inl ⟨by rfl, ?_⟩) hHeld ?_
          rotate_left
          · intro u hSu
            (go_simp) <;> (with_reducible rfl)
          change wpAnyH _ _ _ _ _ _ _ (Act.put _ (some 17) _) _
          simp only [Act.put, List.setIfInBounds_toArray, List.set_cons_zero, List.set_cons_succ]
          refine wpAnyH_take (i := 4) (v := ?_) rfl (by kernel_rfl) (by kernel_rfl) (by kernel_rfl) (fun _ _ _ h => h) (Or.inl ⟨by rfl, ?_⟩) hHeld ?_
          rotate_left
          · intro u hSu
            (go_simp) <;> (with_reducible rfl)
          change wpAnyH _ _ _ _ _ _ _ (Act.put _ (some 18) _) _
          simp only [Act.put, List.setIfInBounds_toArray, List.set_cons_zero, List.set_cons_succ]
          refine wpAnyH_take (i := 5) (v := ?_) rfl (by kernel_rfl) (by kernel_rfl) (by kernel_rfl) (fun _ _ _ h => h) (Or.inl ⟨by rfl, ?_⟩) hHeld ?_
          rotate_left
          · intro u hSu
            (go_simp) <;> (with_reducible rfl)
          change wpAnyH _ _ _ _ _ _ _ (Act.put _ (some 19) _) _
          simp only [Act.put, List.setIfInBounds_toArray, List.set_cons_zero, List.set_cons_succ]
          refine wpAnyH_take (i := 6) (v := ?_) rfl (by kernel_rfl) (by kernel_rfl) (by kernel_rfl) (fun _ _ _ h => h) (Or.inl ⟨by rfl, ?_⟩) hHeld ?_
          rotate_left
          · intro u hSu
            have r1 := HC0.out u hSu
            (go_simp) <;> (with_reducible rfl)
          change wpAnyH _ _ _ _ _ _ _ (Act.put _ (some 20) _) _
          simp only [Act.put, List.setIfInBounds_toArray, List.set_cons_zero, List.set_cons_succ]
          refine wpAnyH_take (i := 7) (v := ?_) rfl (by kernel_rfl) (by kernel_rfl) (by kernel_rfl) (fun _ _ _ h => h) (Or.inl ⟨by rfl, ?_⟩) hHeld ?_
          rotate_left
          · intro u hSu
            (go_simp) <;> (with_reducible rfl)
          change wpAnyH _ _ _ _ _ _ _ (Act.put _ (some 21) _) _
          simp only [Act.put, List.setIfInBounds_toArray, List.set_cons_zero, List.set_cons_succ]
          refine wpAnyH_take (i := 8) (v := ?_) rfl (by kernel_rfl) (by kernel_rfl) (by kernel_rfl) (fun _ _ _ h => h) (Or.inl ⟨by rfl, ?_⟩) hHeld ?_
          rotate_left
          · intro u hSu
            (go_simp) <;> (with_reducible rfl)
          change wpAnyH _ _ _ _ _ _ _ (Act.put _ (some 22) _) _
          simp only [Act.put, List.setIfInBounds_toArray, List.set_cons_zero, List.set_cons_succ]
          refine wpAnyH_take (i := 9) (v := ?_) rfl (by kernel_rfl) (by kernel_rfl) (by kernel_rfl) (fun _ _ _ h => h) (Or.inl ⟨by rfl, ?_⟩) hHeld ?_
          rotate_left
          · intro u hSu
            (go_simp) <;> (with_reducible rfl)
          change wpAnyH _ _ _ _ _ _ _ (Act.put _ (some 23) _) _
          simp only [Act.put, List.setIfInBounds_toArray, List.set_cons_zero, List.set_cons_succ]
          refine wpAnyH_take (i := 10) (v := kv K1) rfl (by kernel_rfl) (by kernel_rfl) (by kernel_rfl) (fun _ _ _ h => h) (yieldsIf_load_mid (by rfl) _ _ rfl _ _ rfl (K1.map (Value.int .u8)) _ (fun u hu => (FK.out u hu).range HK1.out) Tryz.underlying38 rfl (info_keyl K1 HK1.out)) hHeld ?_
          change wpAnyH _ _ _ _ _ _ _ (Act.put _ (some 24) _) _
          simp only [Act.put, List.setIfInBounds_toArray, List.set_cons_zero, List.set_cons_succ]
          refine wpAnyH_take (i := 11) (v := ?_) rfl (by kernel_rfl) (by kernel_rfl) (by kernel_rfl) (fun _ _ _ h => h) (Or.inl ⟨by rfl, ?_⟩) hHeld ?_
          rotate_left
          · intro u hSu
            (go_simp) <;> (with_reducible rfl)
          change wpAnyH _ _ _ _ _ _ _ (Act.put _ (some 25) _) _
          simp only [Act.put, List.setIfInBounds_toArray, List.set_cons_zero, List.set_cons_succ]
          refine wpAnyH_take (i := 12) (v := ?_) rfl (by kernel_rfl) (by kernel_rfl) (by kernel_rfl) (fun _ _ _ h => h) (Or.inl ⟨by rfl, ?_⟩) hHeld ?_
          rotate_left
          · intro u hSu
            (go_simp) <;> (with_reducible rfl)
          change wpAnyH _ _ _ _ _ _ _ (Act.put _ (some 26) _) _
          simp only [Act.put, List.setIfInBounds_toArray, List.set_cons_zero, List.set_cons_succ]
          refine wpAnyH_take (i := 13) (v := ?_) rfl (by kernel_rfl) (by kernel_rfl) (by kernel_rfl) (fun _ _ _ h => h) (Or.inl ⟨by rfl, ?_⟩) hHeld ?_
          rotate_left
          · intro u hSu
            (go_simp) <;> (with_reducible rfl)
          change wpAnyH _ _ _ _ _ _ _ (Act.put _ (some 27) _) _
          simp only [Act.put, List.setIfInBounds_toArray, List.set_cons_zero, List.set_cons_succ]
          refine wpAnyH_take (i := 14) (v := ?_) rfl (by kernel_rfl) (by kernel_rfl) (by kernel_rfl) (fun _ _ _ h => h) (Or.inl ⟨by rfl, ?_⟩) hHeld ?_
          rotate_left
          · intro u hSu
            have r1 := HC0.out u hSu
            (go_simp) <;> (with_reducible rfl)
          change wpAnyH _ _ _ _ _ _ _ (Act.put _ (some 28) _) _
          simp only [Act.put, List.setIfInBounds_toArray, List.set_cons_zero, List.set_cons_succ]
          refine wpAnyH_take (i := 15) (v := ?_) rfl (by kernel_rfl) (by kernel_rfl) (by kernel_rfl) (fun _ _ _ h => h) (Or.inl ⟨by rfl, ?_⟩) hHeld ?_
          rotate_left
          · intro u hSu
            (go_simp) <;> (with_reducible rfl)
          change wpAnyH _ _ _ _ _ _ _ (Act.put _ (some 29) _) _
          simp only [Act.put, List.setIfInBounds_toArray, List.set_cons_zero, List.set_cons_succ]
          refine wpAnyH_take (i := 16) (v := ?_) rfl (by kernel_rfl) (by kernel_rfl) (by kernel_rfl) (fun _ _ _ h => h) (Or.inl ⟨by rfl, ?_⟩) hHeld ?_
          rotate_left
          · intro u hSu
            (go_simp) <;> (with_reducible rfl)
          change wpAnyH _ _ _ _ _ _ _ (Act.put _ (some 30) _) _
          simp only [Act.put, List.setIfInBounds_toArray, List.set_cons_zero, List.set_cons_succ]
          refine wpAnyH_take (i := 17) (v := ?_) rfl (by kernel_rfl) (by kernel_rfl) (by kernel_rfl) (fun _ _ _ h => h) (Or.inl ⟨by rfl, ?_⟩) hHeld ?_
          rotate_left
          · intro u hSu
            (go_simp) <;> (with_reducible rfl)
          change wpAnyH _ _ _ _ _ _ _ (Act.put _ (some 31) _) _
          simp only [Act.put, List.setIfInBounds_toArray, List.set_cons_zero, List.set_cons_succ]
          refine wpAnyH_take (i := 18) (v := ?_) rfl (by kernel_rfl) (by kernel_rfl) (by kernel_rfl) (fun _ _ _ h => h) (Or.inl ⟨by rfl, ?_⟩) hHeld ?_
          rotate_left
          · intro u hSu
            (go_simp) <;> (with_reducible rfl)
          change wpAnyH _ _ _ _ _ _ _ (Act.put _ (some 32) _) _
          simp only [Act.put, List.setIfInBounds_toArray, List.set_cons_zero, List.set_cons_succ]
          refine wpAnyH_take (i := 19) (v := kv K0) rfl (by kernel_rfl) (by kernel_rfl) (by kernel_rfl) (fun _ _ _ h => h) (yieldsIf_load_mid (by rfl) _ _ rfl _ _ rfl (K0.map (Value.int .u8)) _ (fun u hu => (P0.out u hu).range HK0.out) Tryz.underlying38 rfl (info_keyl K0 HK0.out)) hHeld ?_
          change wpAnyH _ _ _ _ _ _ _ (Act.put _ (some 33) _) _
          simp only [Act.put, List.setIfInBounds_toArray, List.set_cons_zero, List.set_cons_succ]
          refine wpAnyH_take (i := 20) (v := ?_) rfl (by kernel_rfl) (by kernel_rfl) (by kernel_rfl) (fun _ _ _ h => h) (Or.inl ⟨by rfl, ?_⟩) hHeld ?_
          rotate_left
          · intro u hSu
            (go_simp) <;> (with_reducible rfl)
          change wpAnyH _ _ _ _ _ _ _ (Act.put _ (some 34) _) _
          simp only [Act.put, List.setIfInBounds_toArray, List.set_cons_zero, List.set_cons_succ]
          refine wpAnyH_take (i := 21) (v := ?_) rfl (by kernel_rfl) (by kernel_rfl) (by kernel_rfl) (fun _ _ _ h => h) (Or.inl ⟨by rfl, ?_⟩) hHeld ?_
          rotate_left
          · intro u hSu
            (go_simp) <;> (with_reducible rfl)
          change wpAnyH _ _ _ _ _ _ _ (Act.put _ (some 35) _) _
          simp only [Act.put, List.setIfInBounds_toArray, List.set_cons_zero, List.set_cons_succ]
          refine wpAnyH_done (by kernel_rfl) ?_ _
          refine NoPanic.normal ?_
          go_wp2
          go_roundw
          case rel => exact ⟨j + 1 + 1, m, ra, rc, by go_num, rfl, by omega, by omega, by rw [HX.out]; exact HO.out.past (Below.refl _ _).drew, by rw [HX.out]; exact HML⟩
          case measure => simp [intOf]; omega
        · have he : ∀ u, (Op.equalIn 10000 38 (kv K1) (kv K0)).run Tryz.prog u = .ok false u := fun u => by rw [eq_key u K1 K0 HK1.out HK0.out, decide_eq_false hq]
          have HX : Hid (keysV (L.take (j + 1 + 1)) = keysV (L.take (j + 1)) ++ [K1]) := by show _ = _; rw [HNX.out, hlast, if_neg (fun e => hq (Option.some.inj e).symm)]
          have HFL : Hid ((keysV (L.take (j + 1))).flatMap kc ++ kc K1 = (keysV (L.take (j + 1 + 1))).flatMap kc) := by show _ = _; rw [HX.out, List.flatMap_append]; simp
          clear HPV HNX hk0 hka0 hlast hq
          go_wp2
          refine wp_region_noPanic ?_
          refine wp_region_held_drew (S := fun u => Below wr.heap.size wr u) (by kernel_rfl) ?_ (fun hHeld => ?_)
          · exact (Below.refl _ _).drew
          refine wpAnyH_take (i := 0) (v := ?_) rfl (by kernel_rfl) (by kernel_rfl) (by kernel_rfl) (fun _ _ _ h => h) (Or.inl ⟨by rfl, ?_⟩) hHeld ?_
          rotate_left
          · intro u hSu
            (go_simp) <;> (with_reducible rfl)
          change wpAnyH _ _ _ _ _ _ _ (Act.put _ (some 14) _) _
          simp only [Act.put, List.setIfInBounds_toArray, List.set_cons_zero, List.set_cons_succ]
          refine wpAnyH_take (i := 1) (v := ?_) rfl (by kernel_rfl) (by kernel_rfl) (by kernel_rfl) (fun _ _ _ h => h) (Or.inl ⟨by rfl, ?_⟩) hHeld ?_
          rotate_left
          · intro u hSu
            (go_simp) <;> (with_reducible rfl)
          change wpAnyH _ _ _ _ _ _ _ (Act.put _ (some 15) _) _
          simp only [Act.put, List.setIfInBounds_toArray, List.set_cons_zero, List.set_cons_succ]
          refine wpAnyH_take (i := 2) (v := ?_) rfl (by kernel_rfl) (by kernel_rfl) (by kernel_rfl) (fun _ _ _ h => h) (Or.inl ⟨by rfl, ?_⟩) hHeld ?_
          rotate_left
          · intro u hSu
            (go_simp) <;> (with_reducible rfl)
          change wpAnyH _ _ _ _ _ _ _ (Act.put _ (some 16) _) _
          simp only [Act.put, List.setIfInBounds_toArray, List.set_cons_zero, List.set_cons_succ]
          refine wpAnyH_take (i := 3) (v := ?_) rfl (by kernel_rfl) (by kernel_rfl) (by kernel_rfl) (fun _ _ _ h => h) (Or.inl ⟨by rfl, ?_⟩) hHeld ?_
          rotate_left
          · intro u hSu
            (go_simp) <;> (with_reducible rfl)
          change wpAnyH _ _ _ _ _ _ _ (Act.put _ (some 17) _) _
          simp only [Act.put, List.setIfInBounds_toArray, List.set_cons_zero, List.set_cons_succ]
          refine wpAnyH_take (i := 4) (v := ?_) rfl (by kernel_rfl) (by kernel_rfl) (by kernel_rfl) (fun _ _ _ h => h) (Or.inl ⟨by rfl, ?_⟩) hHeld ?_
          rotate_left
          · intro u hSu
            (go_simp) <;> (with_reducible rfl)
          change wpAnyH _ _ _ _ _ _ _ (Act.put _ (some 18) _) _
          simp only [Act.put, List.setIfInBounds_toArray, List.set_cons_zero, List.set_cons_succ]
          refine wpAnyH_take (i := 5) (v := ?_) rfl (by kernel_rfl) (by kernel_rfl) (by kernel_rfl) (fun _ _ _ h => h) (Or.inl ⟨by rfl, ?_⟩) hHeld ?_
          rotate_left
          · intro u hSu
            (go_simp) <;> (with_reducible rfl)
          change wpAnyH _ _ _ _ _ _ _ (Act.put _ (some 19) _) _
          simp only [Act.put, List.setIfInBounds_toArray, List.set_cons_zero, List.set_cons_succ]
          refine wpAnyH_take (i := 6) (v := ?_) rfl (by kernel_rfl) (by kernel_rfl) (by kernel_rfl) (fun _ _ _ h => h) (Or.inl ⟨by rfl, ?_⟩) hHeld ?_
          rotate_left
          · intro u hSu
            have r1 := HC0.out u hSu
            (go_simp) <;> (with_reducible rfl)
          change wpAnyH _ _ _ _ _ _ _ (Act.put _ (some 20) _) _
          simp only [Act.put, List.setIfInBounds_toArray, List.set_cons_zero, List.set_cons_succ]
          refine wpAnyH_take (i := 7) (v := ?_) rfl (by kernel_rfl) (by kernel_rfl) (by kernel_rfl) (fun _ _ _ h => h) (Or.inl ⟨by rfl, ?_⟩) hHeld ?_
          rotate_left
          · intro u hSu
            (go_simp) <;> (with_reducible rfl)
          change wpAnyH _ _ _ _ _ _ _ (Act.put _ (some 21) _) _
          simp only [Act.put, List.setIfInBounds_toArray, List.set_cons_zero, List.set_cons_succ]
          refine wpAnyH_take (i := 8) (v := ?_) rfl (by kernel_rfl) (by kernel_rfl) (by kernel_rfl) (fun _ _ _ h => h) (Or.inl ⟨by rfl, ?_⟩) hHeld ?_
          rotate_left
          · intro u hSu
            (go_simp) <;> (with_reducible rfl)
          change wpAnyH _ _ _ _ _ _ _ (Act.put _ (some 22) _) _
          simp only [Act.put, List.setIfInBounds_toArray, List.set_cons_zero, List.set_cons_succ]
          refine wpAnyH_take (i := 9) (v := ?_) rfl (by kernel_rfl) (by kernel_rfl) (by kernel_rfl) (fun _ _ _ h => h) (Or.inl ⟨by rfl, ?_⟩) hHeld ?_
          rotate_left
          · intro u hSu
            (go_simp) <;> (with_reducible rfl)
          change wpAnyH _ _ _ _ _ _ _ (Act.put _ (some 23) _) _
          simp only [Act.put, List.setIfInBounds_toArray, List.set_cons_zero, List.set_cons_succ]
          refine wpAnyH_take (i := 10) (v := kv K1) rfl (by kernel_rfl) (by kernel_rfl) (by kernel_rfl) (fun _ _ _ h => h) (yieldsIf_load_mid (by rfl) _ _ rfl _ _ rfl (K1.map (Value.int .u8)) _ (fun u hu => (FK.out u hu).range HK1.out) Tryz.underlying38 rfl (info_keyl K1 HK1.out)) hHeld ?_
          change wpAnyH _ _ _ _ _ _ _ (Act.put _ (some 24) _) _
          simp only [Act.put, List.setIfInBounds_toArray, List.set_cons_zero, List.set_cons_succ]
          refine wpAnyH_take (i := 11) (v := ?_) rfl (by kernel_rfl) (by kernel_rfl) (by kernel_rfl) (fun _ _ _ h => h) (Or.inl ⟨by rfl, ?_⟩) hHeld ?_
          rotate_left
          · intro u hSu
            (go_simp) <;> (with_reducible rfl)
          change wpAnyH _ _ _ _ _ _ _ (Act.put _ (some 25) _) _
          simp only [Act.put, List.setIfInBounds_toArray, List.set_cons_zero, List.set_cons_succ]
          refine wpAnyH_take (i := 12) (v := ?_) rfl (by kernel_rfl) (by kernel_rfl) (by kernel_rfl) (fun _ _ _ h => h) (Or.inl ⟨by rfl, ?_⟩) hHeld ?_
          rotate_left
          · intro u hSu
            (go_simp) <;> (with_reducible rfl)
          change wpAnyH _ _ _ _ _ _ _ (Act.put _ (some 26) _) _
          simp only [Act.put, List.setIfInBounds_toArray, List.set_cons_zero, List.set_cons_succ]
          refine wpAnyH_take (i := 13) (v := ?_) rfl (by kernel_rfl) (by kernel_rfl) (by kernel_rfl) (fun _ _ _ h => h) (Or.inl ⟨by rfl, ?_⟩) hHeld ?_
          rotate_left
          · intro u hSu
            (go_simp) <;> (with_reducible rfl)
          change wpAnyH _ _ _ _ _ _ _ (Act.put _ (some 27) _) _
          simp only [Act.put, List.setIfInBounds_toArray, List.set_cons_zero, List.set_cons_succ]
          refine wpAnyH_take (i := 14) (v := ?_) rfl (by kernel_rfl) (by kernel_rfl) (by kernel_rfl) (fun _ _ _ h => h) (Or.inl ⟨by rfl, ?_⟩) hHeld ?_
          rotate_left
          · intro u hSu
            have r1 := HC0.out u hSu
            (go_simp) <;> (with_reducible rfl)
          change wpAnyH _ _ _ _ _ _ _ (Act.put _ (some 28) _) _
          simp only [Act.put, List.setIfInBounds_toArray, List.set_cons_zero, List.set_cons_succ]
          refine wpAnyH_take (i := 15) (v := ?_) rfl (by kernel_rfl) (by kernel_rfl) (by kernel_rfl) (fun _ _ _ h => h) (Or.inl ⟨by rfl, ?_⟩) hHeld ?_
          rotate_left
          · intro u hSu
            (go_simp) <;> (with_reducible rfl)
          change wpAnyH _ _ _ _ _ _ _ (Act.put _ (some 29) _) _
          simp only [Act.put, List.setIfInBounds_toArray, List.set_cons_zero, List.set_cons_succ]
          refine wpAnyH_take (i := 16) (v := ?_) rfl (by kernel_rfl) (by kernel_rfl) (by kernel_rfl) (fun _ _ _ h => h) (Or.inl ⟨by rfl, ?_⟩) hHeld ?_
          rotate_left
          · intro u hSu
            (go_simp) <;> (with_reducible rfl)
          change wpAnyH _ _ _ _ _ _ _ (Act.put _ (some 30) _) _
          simp only [Act.put, List.setIfInBounds_toArray, List.set_cons_zero, List.set_cons_succ]
          refine wpAnyH_take (i := 17) (v := ?_) rfl (by kernel_rfl) (by kernel_rfl) (by kernel_rfl) (fun _ _ _ h => h) (Or.inl ⟨by rfl, ?_⟩) hHeld ?_
          rotate_left
          · intro u hSu
            (go_simp) <;> (with_reducible rfl)
          change wpAnyH _ _ _ _ _ _ _ (Act.put _ (some 31) _) _
          simp only [Act.put, List.setIfInBounds_toArray, List.set_cons_zero, List.set_cons_succ]
          refine wpAnyH_take (i := 18) (v := ?_) rfl (by kernel_rfl) (by kernel_rfl) (by kernel_rfl) (fun _ _ _ h => h) (Or.inl ⟨by rfl, ?_⟩) hHeld ?_
          rotate_left
          · intro u hSu
            (go_simp) <;> (with_reducible rfl)
          change wpAnyH _ _ _ _ _ _ _ (Act.put _ (some 32) _) _
          simp only [Act.put, List.setIfInBounds_toArray, List.set_cons_zero, List.set_cons_succ]
          refine wpAnyH_take (i := 19) (v := kv K0) rfl (by kernel_rfl) (by kernel_rfl) (by kernel_rfl) (fun _ _ _ h => h) (yieldsIf_load_mid (by rfl) _ _ rfl _ _ rfl (K0.map (Value.int .u8)) _ (fun u hu => (P0.out u hu).range HK0.out) Tryz.underlying38 rfl (info_keyl K0 HK0.out)) hHeld ?_
          change wpAnyH _ _ _ _ _ _ _ (Act.put _ (some 33) _) _
          simp only [Act.put, List.setIfInBounds_toArray, List.set_cons_zero, List.set_cons_succ]
          refine wpAnyH_take (i := 20) (v := ?_) rfl (by kernel_rfl) (by kernel_rfl) (by kernel_rfl) (fun _ _ _ h => h) (Or.inl ⟨by rfl, ?_⟩) hHeld ?_
          rotate_left
          · intro u hSu
            (go_simp) <;> (with_reducible rfl)
          change wpAnyH _ _ _ _ _ _ _ (Act.put _ (some 34) _) _
          simp only [Act.put, List.setIfInBounds_toArray, List.set_cons_zero, List.set_cons_succ]
          refine wpAnyH_take (i := 21) (v := ?_) rfl (by kernel_rfl) (by kernel_rfl) (by kernel_rfl) (fun _ _ _ h => h) (Or.inl ⟨by rfl, ?_⟩) hHeld ?_
          rotate_left
          · intro u hSu
            (go_simp) <;> (with_reducible rfl)
          change wpAnyH _ _ _ _ _ _ _ (Act.put _ (some 35) _) _
          simp only [Act.put, List.setIfInBounds_toArray, List.set_cons_zero, List.set_cons_succ]
          refine wpAnyH_done (by kernel_rfl) ?_ _
          refine NoPanic.normal ?_
          have q1 := HC0.out wr.drew (Below.refl _ _).drew
          go_wp2_with (first | ((with_reducible show wpList _ _ _ (Oper.mk (some 44) _ _ _ _ _ :: _) _ _); refine wpList_load_keyD 44 (by rfl) (by rfl) _ (by rfl) g ((j + 1) * 20) (by rfl) K1 HK1.out (FK.out _ (Below.refl _ _).drew) ?_) | ((with_reducible show wpList _ _ _ (Oper.mk (some 45) _ _ _ _ _ :: _) _ _); refine wpList_build_key1 45 (by rfl) (by rfl) _ (by rfl) K1 HK1.out (by rfl) ?_) | (at_builtin; refine wpList_own keyEl (w0 := w) rfl (.tmp 36) (.tmp 45) rfl _ m _ (kc K1) rfl ((HO.out.past (Below.refl _ _).drew).alloc _) _ _ _ rfl (by rw [kc_len HK1.out]) (lies_made _ _ _) (ints_oneCell _ _) (fun h => by cases h) (m + 1) rfl hm1 _ HFL.out ?_; intro a6 c6 w6 h1 h2; have O6 : Hid (OwnB 38 16 w w6 (.slice a6 (m + 1) c6) (m + 1) ((keysV (L.take (j + 1 + 1))).flatMap kc)) := h1; clear h1 h2))
          go_roundw
          case rel => exact ⟨j + 1 + 1, m + 1, a6, c6, by go_num, rfl, by omega, by omega, O6, by show _ = _; rw [HX.out, List.length_append, HML.out]; rfl⟩
          case measure => simp [intOf]; omega
    · obtain rfl : i = N := by omega
      have HT : Hid (L.take i = L) := List.take_of_length_le (by rw [HN.out]; exact Nat.le_refl _)
      have HKY : Hid (Kys (keysV L)) := by have := keys_kys HOK.out i; rw [HT.out] at this; exact this
      go_wp2
      go_ret
      have hl := HML.out
      have ho := HO.out
      rw [HT.out] at hl ho
      exact ⟨ra, rc, by rw [hl]; rfl, by rw [hl]; exact ho, HKY.out⟩
theorem rkeys10_any (B p : Nat) (L : List Ver) (w : World) (h : StoreR w B p L) :
    Calls Tryz.prog 61 #[.pointer (some ⟨p, 0, none⟩)] w fun e w' => (∃ a' c', e = .returned (.slice a' (keysV L).length c') ∧ KeysAt w' a' (keysV L) ∧ (keysV L).length ≤ c') ∧ Below w.heap.size w w' := by
  refine (rkeys10m_any B p L w h).mono ?_
  rintro e w' ⟨a', c', rfl, ho, hk⟩
  obtain ⟨a2, c2, e1, e2, e3⟩ := own_keys ho.own rfl hk
  injection e1 with x1 x2 x3
  exact ⟨⟨a', c', rfl, by rw [x1]; exact e3, by rw [x3]; exact e2⟩, ho.below⟩
end Go.Proofs.YtileidbdmpeciaaGreat

