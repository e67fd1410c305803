/-
  The document's own logs (hourglassref8: Wal) in memory; what off, At, Sync, Clear of a log answer and leave.
-/
import Derived.Test.YtlfmhdljldbjmaaRefDisk8
import Derived.Test.YtlfmhdljldbjmaaRefScan
namespace Go.Proofs.Ytlfmhdljldbjmaa
open Go.RowKit
set_option linter.unusedVariables false

/-- Records of the call's own, in blocks of Z. -/
structure RecZ (u : World) (B : Nat) (v : Value) (L : List (List Int)) (Z : Foot) (p : Nat) : Prop where
  own : ∃ vs, u.ownsRow B 31 1 v L.length vs ∧ (∀ k, v.ownBlock = some k → Z k ∧ k ≠ p) ∧ ∀ r, r < L.length → ∃ x c, vs[r]? = some (.slice x (L.getD r []).length c) ∧ NewRow u B x c (L.getD r []) ∧ ∀ ad, x = some ad → Z ad.block ∧ ad.block ≠ p
/-- A log in memory: its disk, its name, the lives it knows, whether it is done, its records, how many are safe. -/
structure WalR (u : World) (B p b : Nat) (l : LS) (dn : Bool) (Z : Foot) : Prop where
  own : Z p
  lt : ∀ k, Z k → k < u.heap.size
  lo : ∀ k, Z k → B ≤ k
  c0 : u.cell? ⟨p, 0, none⟩ = some (.pointer (some ⟨b, 0, none⟩))
  c1 : u.cell? ⟨p, 1, none⟩ = some (.string (strOfNums l.name))
  c2 : u.cell? ⟨p, 2, none⟩ = some (.int .i64 l.lives)
  c3 : u.cell? ⟨p, 3, none⟩ = some (.bool dn)
  c4 : ∃ a c, u.cell? ⟨p, 4, none⟩ = some (.slice a l.L.length c) ∧ RecZ u B (.slice a l.L.length c) l.L Z p
  c5 : u.cell? ⟨p, 5, none⟩ = some (.int .i64 (l.safe : Nat))
  free : ∀ j, u.frozen? ⟨p, j, none⟩ = false
  few : l.L.length ≤ 1000000
  name : mayN l.name = true
theorem NewRow.kept {u u' : World} {B c : Nat} {x : Option Addr} {rs : List Int} (h : NewRow u B x c rs) (hk : ∀ ad, x = some ad → u'.heap[ad.block]? = u.heap[ad.block]?) : NewRow u' B x c rs := by
  refine ⟨⟨h.row.bytes, h.row.cells.imp id ?_⟩, h.nil, h.le, fun a ha => ?_⟩
  · rintro ⟨b', o', he, hc⟩
    exact ⟨b', o', he, fun j hj => (cell_kept (hk _ he) _).trans (hc j hj)⟩
  · obtain ⟨h1, cur, fr, h2⟩ := h.block a ha
    exact ⟨h1, cur, fr, (hk a ha).trans h2⟩
theorem RecZ.kept {u u' : World} {B p : Nat} {v : Value} {L : List (List Int)} {Z Z' : Foot} (h : RecZ u B v L Z p) (hk : ∀ k, Z k → k ≠ p → u'.heap[k]? = u.heap[k]?) (hZ : ∀ k, Z k → Z' k) : RecZ u' B v L Z' p := by
  obtain ⟨vs, h1, h2, h3⟩ := h.own
  refine ⟨vs, ⟨h1.1, h1.2.imp id ?_⟩, fun k e => ⟨hZ k (h2 k e).1, (h2 k e).2⟩, fun r hr => ?_⟩
  · rintro ⟨g, cap, cur, e, hg, hb, rest⟩
    have := h2 g (by rw [e]; rfl)
    exact ⟨g, cap, cur, e, hg, (hk g this.1 this.2).trans hb, rest⟩
  · obtain ⟨x, c, e1, e2, e3⟩ := h3 r hr
    exact ⟨x, c, e1, e2.kept (fun ad ha => hk _ (e3 ad ha).1 (e3 ad ha).2), fun ad ha => ⟨hZ _ (e3 ad ha).1, (e3 ad ha).2⟩⟩
theorem WalR.kept {u u' : World} {B p b : Nat} {l : LS} {dn : Bool} {Z : Foot} (h : WalR u B p b l dn Z) (hs : u.heap.size ≤ u'.heap.size) (hk : ∀ k, Z k → u'.heap[k]? = u.heap[k]?) : WalR u' B p b l dn Z := by
  have hp := hk p h.own
  obtain ⟨a, c, e1, e2⟩ := h.c4
  exact ⟨h.own, fun k x => Nat.lt_of_lt_of_le (h.lt k x) hs, h.lo, (cell_kept hp _).trans h.c0, (cell_kept hp _).trans h.c1, (cell_kept hp _).trans h.c2, (cell_kept hp _).trans h.c3, ⟨a, c, (cell_kept hp _).trans e1, e2.kept (fun k x _ => hk k x) (fun _ x => x)⟩, (cell_kept hp _).trans h.c5, fun j => (frozen_kept hp _).trans (h.free j), h.few, h.name⟩
theorem WalR.past {u u' : World} {B p b : Nat} {l : LS} {dn : Bool} {Z : Foot} (h : WalR u B p b l dn Z) (hb : Below u.heap.size u u') : WalR u' B p b l dn Z := h.kept hb.size (fun k x => hb.block k (h.lt k x))
/-- One of the log's own cells has turned. -/
theorem WalR.nowdone {u : World} {B p b : Nat} {l : LS} {dn : Bool} {Z : Foot} (h : WalR u B p b l dn Z) (v : Bool) : WalR (u.setCell ⟨p, 3, none⟩ (.bool v)) B p b l v Z := by
  have oth : ∀ j, j ≠ 3 → (u.setCell ⟨p, 3, none⟩ (.bool v)).cell? ⟨p, j, none⟩ = u.cell? ⟨p, j, none⟩ := fun j h2 => World.cell?_setCell_other _ _ _ _ (by intro e; injection e with _ e2; omega)
  obtain ⟨a, c, e1, e2⟩ := h.c4
  exact ⟨h.own, fun k x => by rw [World.size_setCell]; exact h.lt k x, h.lo, (oth 0 (by omega)).trans h.c0, (oth 1 (by omega)).trans h.c1, (oth 2 (by omega)).trans h.c2, World.cell?_setCell_same _ _ _ h.c3, ⟨a, c, (oth 4 (by omega)).trans e1, e2.kept (fun k _ hk => Below.heap_setCell _ ⟨p, 3, none⟩ _ k hk) (fun _ x => x)⟩, (oth 5 (by omega)).trans h.c5, fun j => by rw [World.frozen?_setCell]; exact h.free j, h.few, h.name⟩
theorem WalR.nowsafe {u : World} {B p b : Nat} {l : LS} {dn : Bool} {Z : Foot} (h : WalR u B p b l dn Z) (n : Nat) : WalR (u.setCell ⟨p, 5, none⟩ (.int .i64 (n : Int))) B p b { l with safe := n } dn Z := by
  have oth : ∀ j, j ≠ 5 → (u.setCell ⟨p, 5, none⟩ (.int .i64 (n : Int))).cell? ⟨p, j, none⟩ = u.cell? ⟨p, j, none⟩ := fun j h2 => World.cell?_setCell_other _ _ _ _ (by intro e; injection e with _ e2; omega)
  obtain ⟨a, c, e1, e2⟩ := h.c4
  exact ⟨h.own, fun k x => by rw [World.size_setCell]; exact h.lt k x, h.lo, (oth 0 (by omega)).trans h.c0, (oth 1 (by omega)).trans h.c1, (oth 2 (by omega)).trans h.c2, (oth 3 (by omega)).trans h.c3, ⟨a, c, (oth 4 (by omega)).trans e1, e2.kept (fun k _ hk => Below.heap_setCell _ ⟨p, 5, none⟩ _ k hk) (fun _ x => x)⟩, World.cell?_setCell_same _ _ _ h.c5, fun j => by rw [World.frozen?_setCell]; exact h.free j, h.few, h.name⟩
/-- What 'off' finds: it is done, or it is done now. -/
def doneN (S : DS) (l : LS) (dn : Bool) : Bool := dn || S.off || (S.lives != l.lives)
set_option maxHeartbeats 1000000 in
theorem roff_any (B p b : Nat) (S : DS) (l : LS) (dn : Bool) (X Z : Foot) (w : World) (hd : DiskR w b S X) (hl : WalR w B p b l dn Z) :
    Calls Try.prog 47 #[.pointer (some ⟨p, 0, none⟩)] w fun e w' => e = .returned (.bool (doneN S l dn)) ∧ WalR w' B p b l (doneN S l dn) Z ∧ Chg w w' (fun k => k = p) := by
  have c0 := hl.c0
  have c2 := hl.c2
  have c3 := hl.c3
  have f3 := hl.free 3
  have d2 := hd.c2
  have d3 := hd.c3
  have HL : Hid (WalR w B p b l dn Z) := hl
  cases ho : S.off with
  | true =>
    have e : doneN S l dn = true := by unfold doneN; rw [ho]; simp
    rw [e]
    rw [ho] at d2
    clear hd hl ho e
    go_enter Try.func47, Try.ntmps47
    go_wp2
    go_quiet (fail)
    obtain ⟨U, hU⟩ : ∃ U, U = w.drewN nq := ⟨_, rfl⟩
    have HBU : Hid (Below w.heap.size w U) := by rw [hU]; exact below_drewN (Below.refl _ _) nq
    rw [← hU]
    clear hU c0 c2 c3 f3 d2 d3
    have HLU : Hid (WalR U B p b l dn Z) := HL.out.past HBU.out
    have c3 := HLU.out.c3
    have f3 := HLU.out.free 3
    have r3 : (U.setCell ⟨p, 3, none⟩ (.bool true)).cell? ⟨p, 3, none⟩ = some (.bool true) := World.cell?_setCell_same _ _ _ c3
    go_wp2
    go_ret
    exact ⟨rfl, HLU.out.nowdone true, (Chg.of_below HBU.out _).trans (Chg.set U ⟨p, 3, none⟩ _ (X := fun k => k = p) rfl) (fun _ _ x => x)⟩
  | false =>
    rw [ho] at d2
    by_cases hlv : S.lives = l.lives
    · have e : doneN S l dn = dn := by unfold doneN; rw [ho, hlv]; simp
      rw [e]
      have bl : (S.lives != l.lives) = false := by simp [hlv]
      rw [hlv] at d3 bl
      clear hd hl ho e hlv
      go_enter Try.func47, Try.ntmps47
      go_wp2
      go_quiet (fail)
      obtain ⟨U, hU⟩ : ∃ U, U = w.drewN nq := ⟨_, rfl⟩
      have HBU : Hid (Below w.heap.size w U) := by rw [hU]; exact below_drewN (Below.refl _ _) nq
      rw [← hU]
      clear hU c0 c2 c3 f3 d2 d3
      have HLU : Hid (WalR U B p b l dn Z) := HL.out.past HBU.out
      have c3 := HLU.out.c3
      go_wp2
      go_ret
      exact ⟨rfl, HLU.out, Chg.of_below HBU.out _⟩
    · have e : doneN S l dn = true := by unfold doneN; rw [ho]; simp [hlv]
      rw [e]
      have bl : (S.lives != l.lives) = true := by simpa using hlv
      clear hd hl ho e hlv
      go_enter Try.func47, Try.ntmps47
      go_wp2
      go_quiet (fail)
      obtain ⟨U, hU⟩ : ∃ U, U = w.drewN nq := ⟨_, rfl⟩
      have HBU : Hid (Below w.heap.size w U) := by rw [hU]; exact below_drewN (Below.refl _ _) nq
      rw [← hU]
      clear hU c0 c2 c3 f3 d2 d3
      have HLU : Hid (WalR U B p b l dn Z) := HL.out.past HBU.out
      have c3 := HLU.out.c3
      have f3 := HLU.out.free 3
      have r3 : (U.setCell ⟨p, 3, none⟩ (.bool true)).cell? ⟨p, 3, none⟩ = some (.bool true) := World.cell?_setCell_same _ _ _ c3
      go_wp2
      go_ret
      exact ⟨rfl, HLU.out.nowdone true, (Chg.of_below HBU.out _).trans (Chg.set U ⟨p, 3, none⟩ _ (X := fun k => k = p) rfl) (fun _ _ x => x)⟩
end Go.Proofs.Ytlfmhdljldbjmaa
