/-
  The landed logs in memory: their disk, their name, their records as texts. What stays, and what one step turns.
-/
import Derived.Test.YtlfmhdljldbjmaaDskC
import Derived.Test.YtlfmhdljldbjmaaWalPlain
import Derived.Test.YtlfmhdljldbjmaaRowOne
import Derived.Test.YtlfmhdljldbjmaaRecs
import Derived.Lib.ConvBytes
import Derived.Maps.AppendAt
namespace Go.Proofs.Ytlfmhdljldbjmaa
open Go.RowKit
set_option linter.unusedVariables false

/-- Texts of the log's own, in a block of Z. -/
structure TxtZ (u : World) (B : Nat) (v : Value) (L : List (List Int)) (Z : Foot) (p : Nat) : Prop where
  own : u.ownsRow B 9 1 v L.length (strs L)
  blk : ∀ k, v.ownBlock = some k → Z k ∧ k ≠ p
/-- A log in memory: its disk, its name, the lives it knows, whether it was refused, its records, how many are safe. -/
structure WalS (u : World) (B p b : Nat) (l : LS) (Z : Foot) : Prop where
  own : Z p
  lt : ∀ k, Z k → k < u.heap.size
  lo : ∀ k, Z k → B ≤ k
  c0 : u.cell? ⟨p, 0, none⟩ = some (.pointer (some ⟨b, 0, none⟩))
  c1 : u.cell? ⟨p, 1, none⟩ = some (.string (strOfNums l.name))
  c2 : u.cell? ⟨p, 2, none⟩ = some (.int .i64 l.lives)
  c3 : u.cell? ⟨p, 3, none⟩ = some (.bool l.dead)
  c4 : ∃ a c, u.cell? ⟨p, 4, none⟩ = some (.slice a l.L.length c) ∧ TxtZ u B (.slice a l.L.length c) l.L Z p
  c5 : u.cell? ⟨p, 5, none⟩ = some (.int .i64 (l.safe : Nat))
  free : ∀ j, u.frozen? ⟨p, j, none⟩ = false
  few : l.L.length ≤ 1000000
  name : mayN l.name = true
  good : ∀ r ∈ l.L, r.length ≤ 8000 ∧ By r
theorem TxtZ.kept {u u' : World} {B p : Nat} {v : Value} {L : List (List Int)} {Z Z' : Foot} (h : TxtZ u B v L Z p) (hk : ∀ k, Z k → k ≠ p → u'.heap[k]? = u.heap[k]?) (hZ : ∀ k, Z k → Z' k) : TxtZ u' B v L Z' p :=
  ⟨owns_kept h.own (fun q e => hk q (h.blk q e).1 (h.blk q e).2), fun k e => ⟨hZ k (h.blk k e).1, (h.blk k e).2⟩⟩
theorem TxtZ.none (u : World) (B p : Nat) (Z : Foot) : TxtZ u B (.slice none 0 0) [] Z p := ⟨World.ownsRow_nil _ _ _ _, fun k e => by simp [Value.ownBlock] at e⟩
theorem WalS.kept {u u' : World} {B p b : Nat} {l : LS} {Z : Foot} (h : WalS u B p b l Z) (hs : u.heap.size ≤ u'.heap.size) (hk : ∀ k, Z k → u'.heap[k]? = u.heap[k]?) : WalS u' B p b l Z := by
  have hp := hk p h.own
  obtain ⟨a, c, e1, e2⟩ := h.c4
  exact ⟨h.own, fun k x => Nat.lt_of_lt_of_le (h.lt k x) hs, h.lo, (cell_kept hp _).trans h.c0, (cell_kept hp _).trans h.c1, (cell_kept hp _).trans h.c2, (cell_kept hp _).trans h.c3, ⟨a, c, (cell_kept hp _).trans e1, e2.kept (fun k x _ => hk k x) (fun _ x => x)⟩, (cell_kept hp _).trans h.c5, fun j => (frozen_kept hp _).trans (h.free j), h.few, h.name, h.good⟩
theorem WalS.past {u u' : World} {B p b : Nat} {l : LS} {Z : Foot} (h : WalS u B p b l Z) (hb : Below u.heap.size u u') : WalS u' B p b l Z := h.kept hb.size (fun k x => hb.block k (h.lt k x))
theorem WalS.nowdone {u : World} {B p b : Nat} {l : LS} {Z : Foot} (h : WalS u B p b l Z) (v : Bool) : WalS (u.setCell ⟨p, 3, none⟩ (.bool v)) B p b { l with dead := v } Z := by
  have oth : ∀ j, j ≠ 3 → (u.setCell ⟨p, 3, none⟩ (.bool v)).cell? ⟨p, j, none⟩ = u.cell? ⟨p, j, none⟩ := fun j h2 => World.cell?_setCell_other _ _ _ _ (by intro e; injection e with _ e2; omega)
  obtain ⟨a, c, e1, e2⟩ := h.c4
  exact ⟨h.own, fun k x => by rw [World.size_setCell]; exact h.lt k x, h.lo, (oth 0 (by omega)).trans h.c0, (oth 1 (by omega)).trans h.c1, (oth 2 (by omega)).trans h.c2, World.cell?_setCell_same _ _ _ h.c3, ⟨a, c, (oth 4 (by omega)).trans e1, e2.kept (fun k _ hk => Below.heap_setCell _ ⟨p, 3, none⟩ _ k hk) (fun _ x => x)⟩, (oth 5 (by omega)).trans h.c5, fun j => by rw [World.frozen?_setCell]; exact h.free j, h.few, h.name, h.good⟩
theorem WalS.nowsafe {u : World} {B p b : Nat} {l : LS} {Z : Foot} (h : WalS u B p b l Z) (n : Nat) : WalS (u.setCell ⟨p, 5, none⟩ (.int .i64 (n : Int))) B p b { l with safe := n } Z := by
  have oth : ∀ j, j ≠ 5 → (u.setCell ⟨p, 5, none⟩ (.int .i64 (n : Int))).cell? ⟨p, j, none⟩ = u.cell? ⟨p, j, none⟩ := fun j h2 => World.cell?_setCell_other _ _ _ _ (by intro e; injection e with _ e2; omega)
  obtain ⟨a, c, e1, e2⟩ := h.c4
  exact ⟨h.own, fun k x => by rw [World.size_setCell]; exact h.lt k x, h.lo, (oth 0 (by omega)).trans h.c0, (oth 1 (by omega)).trans h.c1, (oth 2 (by omega)).trans h.c2, (oth 3 (by omega)).trans h.c3, ⟨a, c, (oth 4 (by omega)).trans e1, e2.kept (fun k _ hk => Below.heap_setCell _ ⟨p, 5, none⟩ _ k hk) (fun _ x => x)⟩, World.cell?_setCell_same _ _ _ h.c5, fun j => by rw [World.frozen?_setCell]; exact h.free j, h.few, h.name, h.good⟩
theorem WalS.cleared {u : World} {B p b : Nat} {l : LS} {Z : Foot} (h : WalS u B p b l Z) : WalS ((u.setCell ⟨p, 4, none⟩ (.slice none 0 0)).setCell ⟨p, 5, none⟩ (.int .i64 0)) B p b { l with L := [], safe := 0 } Z := by
  have oth : ∀ j, j ≠ 4 → j ≠ 5 → ((u.setCell ⟨p, 4, none⟩ (.slice none 0 0)).setCell ⟨p, 5, none⟩ (.int .i64 0)).cell? ⟨p, j, none⟩ = u.cell? ⟨p, j, none⟩ := fun j h2 h3 => (World.cell?_setCell_other _ _ _ _ (by intro e; injection e with _ e2; omega)).trans (World.cell?_setCell_other _ _ _ _ (by intro e; injection e with _ e2; omega))
  obtain ⟨a, c, e1, e2⟩ := h.c4
  have h5 : (u.setCell ⟨p, 4, none⟩ (.slice none 0 0)).cell? ⟨p, 5, none⟩ = some (.int .i64 (l.safe : Nat)) := (World.cell?_setCell_other _ _ _ _ (by intro e; injection e with _ e2; omega)).trans h.c5
  refine ⟨h.own, fun k x => by rw [World.size_setCell, World.size_setCell]; exact h.lt k x, h.lo, (oth 0 (by omega) (by omega)).trans h.c0, (oth 1 (by omega) (by omega)).trans h.c1, (oth 2 (by omega) (by omega)).trans h.c2, (oth 3 (by omega) (by omega)).trans h.c3, ⟨none, 0, ?_, TxtZ.none _ _ _ _⟩, World.cell?_setCell_same _ _ _ h5, fun j => by rw [World.frozen?_setCell, World.frozen?_setCell]; exact h.free j, Nat.zero_le _, h.name, fun r hr => by cases hr⟩
  exact (World.cell?_setCell_other _ _ _ _ (by intro e; injection e with _ e2; omega)).trans (World.cell?_setCell_same _ _ _ e1)
theorem WalS.made (w : World) (B b : Nat) (s : List Int) (lv : Int) (T : TypeId) (hB : B ≤ w.heap.size) (hm : mayN s = true) : WalS (w.alloc (.cells #[.pointer (some ⟨b, 0, none⟩), .string (strOfNums s), .int .i64 lv, .bool false, .slice none 0 0, .int .i64 0] T)) B w.heap.size b ⟨s, lv, false, [], 0⟩ (fun k => k = w.heap.size) :=
  ⟨rfl, fun k e => by rw [e]; simp, fun k e => by rw [e]; exact hB, by rw [World.cell?_alloc_new]; rfl, by rw [World.cell?_alloc_new]; rfl, by rw [World.cell?_alloc_new]; rfl, by rw [World.cell?_alloc_new]; rfl, ⟨none, 0, by rw [World.cell?_alloc_new]; rfl, TxtZ.none _ _ _ _⟩, by rw [World.cell?_alloc_new]; rfl, fun j => World.frozen?_alloc_new _ _ _ _, Nat.zero_le _, hm, fun r hr => by cases hr⟩
theorem WalS.wider {u : World} {B p b : Nat} {l : LS} {Z Z' : Foot} (h : WalS u B p b l Z) (hZ : ∀ k, Z k → Z' k) (hlt : ∀ k, Z' k → k < u.heap.size) (hlo : ∀ k, Z' k → B ≤ k) : WalS u B p b l Z' := by
  obtain ⟨a, c, e1, e2⟩ := h.c4
  exact ⟨hZ _ h.own, hlt, hlo, h.c0, h.c1, h.c2, h.c3, ⟨a, c, e1, e2.kept (fun _ _ _ => rfl) hZ⟩, h.c5, h.free, h.few, h.name, h.good⟩
/-- The log has one record more. -/
theorem WalS.more {u w6 : World} {B p b n : Nat} {l : LS} {Z Z' : Foot} {a : Option Addr} {c : Nat} {rs : List Int} (h : WalS u B p b l Z) (hc : Chg u w6 (fun k => Z k ∧ k ≠ p)) (hn : l.L.length = n) (hr : TxtZ w6 B (.slice a (n + 1) c) (l.L ++ [rs]) Z' p) (hZ : ∀ k, Z k → Z' k) (hlt : ∀ k, Z' k → k < w6.heap.size) (hlo : ∀ k, Z' k → B ≤ k) (hf : n + 1 ≤ 1000000) (hrs : rs.length ≤ 8000 ∧ By rs) :
    WalS (w6.setCell ⟨p, 4, none⟩ (.slice a (n + 1) c)) B p b { l with L := l.L ++ [rs] } Z' := by
  subst hn
  have hpb := hc.block p (h.lt p h.own) (fun e => e.2 rfl)
  have oth : ∀ j, j ≠ 4 → (w6.setCell ⟨p, 4, none⟩ (.slice a (l.L.length + 1) c)).cell? ⟨p, j, none⟩ = u.cell? ⟨p, j, none⟩ := fun j h2 => (World.cell?_setCell_other _ _ _ _ (by intro e; injection e with _ e2; omega)).trans (cell_kept hpb _)
  obtain ⟨a0, c0, e1, e2⟩ := h.c4
  refine ⟨hZ _ h.own, fun k x => by rw [World.size_setCell]; exact hlt k x, hlo, (oth 0 (by omega)).trans h.c0, (oth 1 (by omega)).trans h.c1, (oth 2 (by omega)).trans h.c2, (oth 3 (by omega)).trans h.c3, ⟨a, c, ?_, ?_⟩, (oth 5 (by omega)).trans h.c5, fun j => by rw [World.frozen?_setCell]; exact (frozen_kept hpb _).trans (h.free j), by show (l.L ++ [rs]).length ≤ 1000000; simp; omega, h.name, fun r hr => ?_⟩
  · show _ = some (Value.slice a (l.L ++ [rs]).length c)
    rw [List.length_append]
    exact World.cell?_setCell_same _ _ _ ((cell_kept hpb _).trans e1)
  · show TxtZ _ B (.slice a (l.L ++ [rs]).length c) (l.L ++ [rs]) Z' p
    rw [List.length_append]
    exact hr.kept (fun k _ hk => Below.heap_setCell _ ⟨p, 4, none⟩ _ k hk) (fun _ x => x)
  · rcases List.mem_append.1 hr with e | e
    · exact h.good r e
    · rw [List.mem_singleton.1 e]; exact hrs
structure LogD (u : World) (B p b : Nat) (S : DS) (l : LS) (Z : Foot) : Prop where
  rep : WalS u B p b l Z
theorem LogD.own {u : World} {B p b : Nat} {S : DS} {l : LS} {Z : Foot} (h : LogD u B p b S l Z) : Z p := h.rep.own
theorem LogD.lt {u : World} {B p b : Nat} {S : DS} {l : LS} {Z : Foot} (h : LogD u B p b S l Z) : ∀ k, Z k → k < u.heap.size := h.rep.lt
theorem LogD.lo {u : World} {B p b : Nat} {S : DS} {l : LS} {Z : Foot} (h : LogD u B p b S l Z) : ∀ k, Z k → B ≤ k := h.rep.lo
theorem LogD.kept {u u' : World} {B p b : Nat} {S : DS} {l : LS} {Z : Foot} (h : LogD u B p b S l Z) (hs : u.heap.size ≤ u'.heap.size) (hk : ∀ k, Z k → u'.heap[k]? = u.heap[k]?) : LogD u' B p b S l Z := ⟨h.rep.kept hs hk⟩
/-- The disk crashed, or came on again, or is as it was. -/
theorem LogD.turn {u : World} {B p b : Nat} {S S' : DS} {l : LS} {Z : Foot} (h : LogD u B p b S l Z) (hl : l.lives ≤ S.lives) (h1 : (S'.off = S.off ∧ S'.lives = S.lives) ∨ (S'.off = true ∧ S'.lives = S.lives) ∨ (S'.off = false ∧ S'.lives = S.lives + 1)) : LogD u B p b S' l Z := ⟨h.rep⟩
structure PD (u : World) (B p b : Nat) (S : DS) (l : LS) (X Z : Foot) : Prop where
  disk : DiskD u b S X
  log : LogD u B p b S l Z
  apart : ∀ k, X k → Z k → False
structure DidP (u u' : World) (X Z X' Z' : Foot) : Prop where
  chg : Chg u u' (fun k => X k ∨ Z k)
  nx : ∀ k, X' k → (X k ∨ u.heap.size ≤ k) ∧ k < u'.heap.size
  nz : ∀ k, Z' k → (Z k ∨ u.heap.size ≤ k) ∧ k < u'.heap.size
theorem PD.past {u u' : World} {B p b : Nat} {S : DS} {l : LS} {X Z : Foot} (h : PD u B p b S l X Z) (hb : Below u.heap.size u u') : PD u' B p b S l X Z := ⟨h.disk.past hb, ⟨h.log.rep.past hb⟩, h.apart⟩
theorem DidP.stay {u u' : World} {B p b : Nat} {S : DS} {l : LS} {X Z : Foot} (h : PD u B p b S l X Z) (hb : Below u.heap.size u u') : DidP u u' X Z X Z := ⟨Chg.of_below hb _, fun k x => ⟨.inl x, Nat.lt_of_lt_of_le (h.disk.lt k x) hb.size⟩, fun k x => ⟨.inl x, Nat.lt_of_lt_of_le (h.log.lt k x) hb.size⟩⟩
/-- The disk has turned, the log is as it was. -/
theorem PD.disk_step {u u' : World} {B p b : Nat} {S S' : DS} {l : LS} {X X' Z : Foot} (h : PD u B p b S l X Z) (hd : DiskD u' b S' X') (d : Did u u' X X') : PD u' B p b S' l X' Z ∧ DidP u u' X Z X' Z := by
  have hfar : ∀ k, Z k → ¬ X k := fun k z x => h.apart k x z
  refine ⟨⟨hd, ⟨h.log.rep.kept d.chg.size (fun k z => d.chg.block k (h.log.lt k z) (hfar k z))⟩, fun k x z => ?_⟩, d.chg.mono (fun k _ x => .inl x), d.new, fun k z => ⟨.inl z, Nat.lt_of_lt_of_le (h.log.lt k z) d.chg.size⟩⟩
  rcases (d.new k x).1 with e | e
  · exact h.apart k e z
  · have := h.log.lt k z; omega
/-- The log has turned, the disk is as it was. -/
theorem PD.log_turn {u u' : World} {B p b : Nat} {S : DS} {l l' : LS} {X Z Z' : Foot} (h : PD u B p b S l X Z) (hd : WalS u' B p b l' Z') (d : Did u u' Z Z') : PD u' B p b S l' X Z' ∧ DidP u u' X Z X Z' := by
  have hfar : ∀ k, X k → ¬ Z k := fun k x z => h.apart k x z
  refine ⟨⟨h.disk.kept d.chg.size (fun k x => d.chg.block k (h.disk.lt k x) (hfar k x)), ⟨hd⟩, fun k x z => ?_⟩, d.chg.mono (fun k _ x => .inr x), fun k x => ⟨.inl x, Nat.lt_of_lt_of_le (h.disk.lt k x) d.chg.size⟩, d.new⟩
  rcases (d.new k z).1 with e | e
  · exact h.apart k x e
  · have := h.disk.lt k x; omega
theorem PD.log_step {u : World} {B p b o : Nat} {S : DS} {l l' : LS} {X Z : Foot} {v : Value} (h : PD u B p b S l X Z) (hl : WalS (u.setCell ⟨p, o, none⟩ v) B p b l' Z) : PD (u.setCell ⟨p, o, none⟩ v) B p b S l' X Z ∧ DidP u (u.setCell ⟨p, o, none⟩ v) X Z X Z :=
  h.log_turn hl (Did.same (Chg.set u ⟨p, o, none⟩ v h.log.own) h.log.lt)
theorem PD.log_step2 {u : World} {B p b o o2 : Nat} {S : DS} {l l' : LS} {X Z : Foot} {v v2 : Value} (h : PD u B p b S l X Z) (hl : WalS ((u.setCell ⟨p, o, none⟩ v).setCell ⟨p, o2, none⟩ v2) B p b l' Z) : PD ((u.setCell ⟨p, o, none⟩ v).setCell ⟨p, o2, none⟩ v2) B p b S l' X Z ∧ DidP u ((u.setCell ⟨p, o, none⟩ v).setCell ⟨p, o2, none⟩ v2) X Z X Z :=
  h.log_turn hl (Did.same ((Chg.set u ⟨p, o, none⟩ v (X := Z) h.log.own).trans (Chg.set _ ⟨p, o2, none⟩ v2 (X := Z) h.log.own) (fun _ _ x => x)) h.log.lt)
theorem DidP.trans {u u' u'' : World} {X Z X' Z' X'' Z'' : Foot} (h : DidP u u' X Z X' Z') (k : DidP u' u'' X' Z' X'' Z'') : DidP u u'' X Z X'' Z'' := by
  refine ⟨h.chg.trans k.chg (fun j hj hx => ?_), fun j hj => ⟨?_, (k.nx j hj).2⟩, fun j hj => ⟨?_, (k.nz j hj).2⟩⟩
  · rcases hx with hx | hx
    · rcases (h.nx j hx).1 with e | e
      · exact .inl e
      · omega
    · rcases (h.nz j hx).1 with e | e
      · exact .inr e
      · omega
  · rcases (k.nx j hj).1 with e | e
    · exact (h.nx j e).1
    · exact .inr (Nat.le_trans h.chg.size e)
  · rcases (k.nz j hj).1 with e | e
    · exact (h.nz j e).1
    · exact .inr (Nat.le_trans h.chg.size e)
/-- '[]byte(s)' of a text of bytes. -/
theorem conv_text (rs : List Int) (hb : By rs) (w : World) : ∃ c W, (convert 9 31 (.string (strOfNums rs))).run Try.prog w = .ok (.slice (some ⟨w.heap.size, 0, none⟩) rs.length c) W ∧ Below w.heap.size w W ∧ Row W (some ⟨w.heap.size, 0, none⟩) rs ∧ rs.length ≤ c ∧ ∃ cur fr, W.heap[w.heap.size]? = some (.cells cur 5 fr) := by
  have h0 := Go.Lib.run_convert_string_bytes (P := Try.prog) w 9 31 5 (strOfNums rs) Try.underlying9 Try.underlying31 Try.underlying5
  rw [strOfNums_size] at h0
  refine ⟨_, _, h0, ⟨rfl, rfl, rfl, by rw [Go.Lib.bytesWorld_size]; omega, fun k hk => Go.Lib.bytesWorld_at_old w 5 _ k hk⟩, ⟨hb, .inr ⟨w.heap.size, 0, rfl, fun j hj => ?_⟩⟩, grownCap_ge _ _ _ _, _, _, Go.Lib.bytesWorld_at_new w 5 _⟩
  have hc := Go.Lib.bytesWorld_cell w 5 (strOfNums rs) j (by rw [strOfNums_size]; exact hj)
  rw [Nat.zero_add, hc]
  congr 2
  rw [show (strOfNums rs).data.toList = rs.map fun n => UInt8.ofNat n.toNat from rfl]
  have h1 := hb rs[j] (List.getElem_mem hj)
  simp [List.getD, hj]
  omega
end Go.Proofs.Ytlfmhdljldbjmaa
