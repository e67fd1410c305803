/-
  One more record behind a log's own ones.
-/
import Derived.Test.YtlfmhdljldbjmaaRefWal5
import Derived.Test.YtlfmhdljldbjmaaRegLast
import Derived.Maps.AppendAt
namespace Go.Proofs.Ytlfmhdljldbjmaa
open Go.RowKit
set_option linter.unusedVariables false

theorem run_append_recZ (w : World) (B p n : Nat) (v : Value) (L : List (List Int)) (Z Z' : Foot) (h : RecZ w B v L Z p) (hn : L.length = n) (s : Addr) (x : Option Addr) (c : Nat) (rs : List Int) (m : Nat) (hm : rs.length = m) (hcell : w.cell? s = some (.slice x m c)) (hnew : NewRow w B x c rs)
    (hbig : n ≤ 1000000) (hB : B ≤ w.heap.size) (hp : p < w.heap.size) (hZ : ∀ k, Z k → Z' k) (hZn : Z' w.heap.size) (hZx : ∀ ad, x = some ad → Z' ad.block ∧ ad.block ≠ p) (ty : TypeId) :
    ∃ a' cap' w', (Builtin.append_ #[45, 45] ty #[v, .slice (some s) 1 1]).run Try.prog w = .ok (.slice a' (n + 1) cap') w' ∧ RecZ w' B (.slice a' (n + 1) cap') (L ++ [rs]) Z' p ∧ w.grownBy w' v.ownBlock := by
  subst hn
  obtain ⟨i0, hi, hz0, hz1, hz2⟩ := info_parts infoB
  obtain ⟨vs, hown, hblk, hvs⟩ := h.own
  have hs : s.spot = none := World.cell?_spot hcell
  have hnews : ∀ j u, ([.slice x m c] : List Value)[j]? = some u → w.cell? (s.add j) = some u := by
    intro j u hj
    cases j with
    | zero =>
      simp at hj
      have : s.add 0 = s := by cases s; simp_all [Addr.add]
      rw [this, hcell, hj]
    | succ j => simp at hj
  obtain ⟨v', w', hrun, h1, h2, _, h4⟩ := run_append_own_at (P := Try.prog) w B 45 ty 31 i0 (.slice none 0 0) 1 24 Try.underlying45 hi hz0 hz1 hz2 rfl (by decide) v L.length vs hown s 1 1 [.slice x m c] rfl hnews (by simp [Value.oneCell']) (by unfold maxLen; omega) (by omega) hB
  have hvl : vs.length = L.length := by have := hown.1; omega
  have stay : ∀ {y : Option Addr} {d : Nat} {q : List Int}, NewRow w B y d q → NewRow w' B y d q := by
    intro y d q hq
    refine hq.kept (fun a ha => ?_)
    obtain ⟨_, cur, fr, h6⟩ := hq.block a ha
    refine h2.block a.block (heap_lt h6) ?_
    intro he
    rcases hown.2 with ⟨h5, _⟩ | ⟨g, cap, cur', h5, _, h7, _⟩
    · rw [h5] at he; simp [Value.ownBlock] at he
    · rw [h5] at he; simp [Value.ownBlock] at he
      rw [he, h7] at h6
      simp at h6
  obtain ⟨a', cap', rfl⟩ : ∃ a' cap', v' = .slice a' (L.length + 1) cap' := by
    rcases h1.2 with ⟨_, h5⟩ | ⟨g, cap, cur, h5, _⟩
    · omega
    · exact ⟨_, _, h5⟩
  refine ⟨a', cap', w', hrun, ⟨vs ++ [.slice x m c], by simpa using h1, fun k e => ?_, fun r hr => ?_⟩, h2⟩
  · rcases h4 with e4 | e4
    · rw [e4] at e
      exact ⟨hZ k (hblk k e).1, (hblk k e).2⟩
    · rw [e4] at e
      injection e with e
      subst e
      exact ⟨hZn, by omega⟩
  · rw [List.length_append] at hr
    by_cases hrn : r < L.length
    · obtain ⟨y, d, hy, hq, hz⟩ := hvs r hrn
      have e1 : (L ++ [rs]).getD r [] = L.getD r [] := by simp [List.getD, List.getElem?_append_left hrn]
      rw [e1]
      exact ⟨y, d, by rw [List.getElem?_append_left (by omega)]; exact hy, stay hq, fun ad ha => ⟨hZ _ (hz ad ha).1, (hz ad ha).2⟩⟩
    · have hr' : r = L.length := by simp at hr; omega
      subst hr'
      have e1 : (L ++ [rs]).getD L.length [] = rs := by simp [List.getD]
      rw [e1]
      refine ⟨x, c, ?_, stay hnew, hZx⟩
      rw [List.getElem?_append_right (by omega), hvl, Nat.sub_self, hm]
      rfl
/-- The same as one step of a region that draws its order. -/
theorem step_append_recZ {w : World} {ops : Array Oper} {o : Oper} {a : Act} {K : Act → World → Prop} {Q : Exit → Act → World → Prop} {E : Prop} (hgd : o.guard = none) (s x : Operand)
    (ho : o.op = .call { callee := .builtin .append, args := #[s, x], argTypes := #[45, 45] }) (B p n : Nat) (v : Value) (L : List (List Int)) (Z Z' : Foot) (hs : a.eval s = v) (h : RecZ w B v L Z p) (hn : L.length = n)
    (sa : Addr) (hx : a.eval x = .slice (some sa) 1 1) (y : Option Addr) (c : Nat) (rs : List Int) (m : Nat) (hm : rs.length = m) (hcell : w.cell? sa = some (.slice y m c)) (hnew : NewRow w B y c rs) (hbig : n ≤ 1000000) (hB : B ≤ w.heap.size) (hp : p < w.heap.size) (hZ : ∀ k, Z k → Z' k) (hZn : Z' w.heap.size) (hZx : ∀ ad, y = some ad → Z' ad.block ∧ ad.block ≠ p)
    (hk : ∀ a' cap' w', RecZ w' B (.slice a' (n + 1) cap') (L ++ [rs]) Z' p → w.grownBy w' v.ownBlock → K (a.put o.dst (.slice a' (n + 1) cap')) w') :
    if Region.wanted o (yielded ops a.tmps) = true then Oper.wp Try.prog o a w K Q else E := by
  have hw : Region.wanted o (yielded ops a.tmps) = true := by simp [Region.wanted, hgd]
  rw [if_pos hw]
  obtain ⟨a', cap', w', hrun, h1, h2⟩ := run_append_recZ w B p n v L Z Z' h hn sa y c rs m hm hcell hnew hbig hB hp hZ hZn hZx o.type
  unfold Oper.wp
  simp [execOp, ho, resolve, invoke, builtin, hs, hx, hrun, Result.andThen]
  exact hk a' cap' w' h1 h2
theorem RecZ.here {u : World} {B p : Nat} {v : Value} {L : List (List Int)} {Z Z' : Foot} (h : RecZ u B v L Z p) (hZ : ∀ k, Z k → k < u.heap.size → Z' k) : RecZ u B v L Z' p := by
  obtain ⟨vs, h1, h2, h3⟩ := h.own
  refine ⟨vs, h1, fun k e => ⟨hZ k (h2 k e).1 (h1.lt k e).2, (h2 k e).2⟩, fun r hr => ?_⟩
  obtain ⟨x, c, e1, e2, e3⟩ := h3 r hr
  refine ⟨x, c, e1, e2, fun ad ha => ?_⟩
  obtain ⟨_, cur, fr, hb⟩ := e2.block ad ha
  exact ⟨hZ _ (e3 ad ha).1 (heap_lt hb), (e3 ad ha).2⟩
/-- The log has one record more. -/
theorem WalR.more {u w6 : World} {B p b n : Nat} {l : LS} {dn : Bool} {Z Z' : Foot} {a : Option Addr} {c : Nat} {rs : List Int} (h : WalR u B p b l dn Z) (hc : Chg u w6 (fun k => Z k ∧ k ≠ p)) (hn : l.L.length = n) (hr : RecZ w6 B (.slice a (n + 1) c) (l.L ++ [rs]) Z' p) (hZ : ∀ k, Z k → Z' k) (hlt : ∀ k, Z' k → k < w6.heap.size) (hlo : ∀ k, Z' k → B ≤ k) (hf : n + 1 ≤ 1000000) :
    WalR (w6.setCell ⟨p, 4, none⟩ (.slice a (n + 1) c)) B p b { l with L := l.L ++ [rs] } dn Z' := by
  subst hn
  have hpb := hc.block p (h.lt p h.own) (fun e => e.2 rfl)
  have oth : ∀ j, j ≠ 4 → (w6.setCell ⟨p, 4, none⟩ (.slice a (l.L.length + 1) c)).cell? ⟨p, j, none⟩ = u.cell? ⟨p, j, none⟩ := fun j h2 => (World.cell?_setCell_other _ _ _ _ (by intro e; injection e with _ e2; omega)).trans (cell_kept hpb _)
  obtain ⟨a0, c0, e1, e2⟩ := h.c4
  refine ⟨hZ _ h.own, fun k x => by rw [World.size_setCell]; exact hlt k x, hlo, (oth 0 (by omega)).trans h.c0, (oth 1 (by omega)).trans h.c1, (oth 2 (by omega)).trans h.c2, (oth 3 (by omega)).trans h.c3, ⟨a, c, ?_, ?_⟩, (oth 5 (by omega)).trans h.c5, fun j => by rw [World.frozen?_setCell]; exact (frozen_kept hpb _).trans (h.free j), by show (l.L ++ [rs]).length ≤ 1000000; simp; omega, h.name⟩
  · show _ = some (Value.slice a (l.L ++ [rs]).length c)
    rw [List.length_append]
    exact World.cell?_setCell_same _ _ _ ((cell_kept hpb _).trans e1)
  · show RecZ _ B (.slice a (l.L ++ [rs]).length c) (l.L ++ [rs]) Z' p
    rw [List.length_append]
    exact hr.kept (fun k _ hk => Below.heap_setCell _ ⟨p, 4, none⟩ _ k hk) (fun _ x => x)
end Go.Proofs.Ytlfmhdljldbjmaa
