/-
  A disk and a log of the program's, made by the call; layer 9's own first question (awake).
-/
import Derived.Test.YtlfmhdljldbjmaaWalC
import Derived.Lib.SlBytesConst
namespace Go.Proofs.Ytlfmhdljldbjmaa
open Go.RowKit
set_option linter.unusedVariables false

/-- A disk that the call made. -/
structure DT (w u : World) (b : Nat) (S : DS) (X : Foot) : Prop where
  disk : DiskD u b S X
  below : Below w.heap.size w u
  lo : ∀ k, X k → w.heap.size ≤ k
/-- A disk and a log that the call made. -/
structure LT (w u : World) (p b : Nat) (S : DS) (l : LS) (X Z : Foot) : Prop where
  pd : PD u w.heap.size p b S l X Z
  below : Below w.heap.size w u
  lo : ∀ k, X k → w.heap.size ≤ k
theorem DT.made {w u u' : World} {b : Nat} {S : DS} {X : Foot} (hb : Below w.heap.size w u) (h1 : DiskD u' b S X) (h2 : Below u.heap.size u u') (h3 : ∀ k, X k → u.heap.size ≤ k) : DT w u' b S X := ⟨h1, hb.trans (h2.mono hb.size), fun k x => Nat.le_trans hb.size (h3 k x)⟩
theorem DT.did {w u u' : World} {b : Nat} {S S' : DS} {X X' : Foot} (h : DT w u b S X) (h1 : DiskD u' b S' X') (d : Did u u' X X') : DT w u' b S' X' := by
  refine ⟨h1, h.below.trans (d.chg.below h.below.size h.lo), fun k x => ?_⟩
  rcases (d.new k x).1 with e | e
  · exact h.lo k e
  · exact Nat.le_trans h.below.size e
theorem DT.past {w u u' : World} {b : Nat} {S : DS} {X : Foot} (h : DT w u b S X) (hb : Below u.heap.size u u') : DT w u' b S X := ⟨h.disk.kept hb.size (fun k x => hb.block k (h.disk.lt k x)), h.below.trans (hb.mono h.below.size), h.lo⟩
theorem DT.opened {w u u' : World} {p b : Nat} {S S' : DS} {l : LS} {X X' Z : Foot} (h : DT w u b S X) (h1 : PD u' w.heap.size p b S' l X' Z) (d : Did u u' X X') : LT w u' p b S' l X' Z := by
  have r := h.did h1.disk d
  exact ⟨h1, r.below, r.lo⟩
theorem LT.dt {w u : World} {p b : Nat} {S : DS} {l : LS} {X Z : Foot} (h : LT w u p b S l X Z) : DT w u b S X := ⟨h.pd.disk, h.below, h.lo⟩
theorem LT.did {w u u' : World} {p b : Nat} {S S' : DS} {l l' : LS} {X X' Z Z' : Foot} (h : LT w u p b S l X Z) (h1 : PD u' w.heap.size p b S' l' X' Z') (d : DidP u u' X Z X' Z') : LT w u' p b S' l' X' Z' := by
  refine ⟨h1, h.below.trans (d.chg.below h.below.size (fun k x => x.elim (h.lo k) (h.pd.log.lo k))), fun k x => ?_⟩
  rcases (d.nx k x).1 with e | e
  · exact h.lo k e
  · exact Nat.le_trans h.below.size e
theorem LT.past {w u u' : World} {p b : Nat} {S : DS} {l : LS} {X Z : Foot} (h : LT w u p b S l X Z) (hb : Below u.heap.size u u') : LT w u' p b S l X Z :=
  ⟨⟨h.pd.disk.kept hb.size (fun k x => hb.block k (h.pd.disk.lt k x)), h.pd.log.kept hb.size (fun k x => hb.block k (h.pd.log.lt k x)), h.pd.apart⟩, h.below.trans (hb.mono h.below.size), h.lo⟩
theorem LT.kept_rows {w u u' : World} {p b : Nat} {S : DS} {l : LS} {X Z : Foot} (h : LT w u p b S l X Z) (c : Chg u u' (fun k => X k ∨ Z k)) : Below w.heap.size w u' := h.below.trans (c.below h.below.size (fun k x => x.elim (h.lo k) (h.pd.log.lo k)))
/-! The calls, from what is known to what is known. -/
theorem lt_new (w u : World) (hb : Below w.heap.size w u) (room : Int) (h1 : 64 ≤ room) (h2 : room ≤ 1048576) :
    Calls Try.prog 10 #[.int .i64 room] u fun e w' => ∃ b X, e = .returned (.tuple #[.pointer (some ⟨b, 0, none⟩), .int .i64 0]) ∧ DT w w' b (newDS room) X :=
  (dknew_ok room u h1 h2).mono (by rintro e w' ⟨b, X, rfl, a1, a2, a3⟩; exact ⟨b, X, rfl, DT.made hb a1 a2 a3⟩)
theorem lt_open (w u : World) (b : Nat) (S : DS) (X : Foot) (s : List Int) (h : DT w u b S X) (ho : S.off = false) (hm : mayN s = true) (hz : sizeN S.fs ≤ 1048576) :
    Calls Try.prog 11 #[.pointer (some ⟨b, 0, none⟩), .string (strOfNums s)] u fun e w' => ∃ p X' Z, e = .returned (.tuple #[.pointer (some ⟨p, 0, none⟩), .int .i64 0]) ∧ LT w w' p b (S.opened s) (S.log s) X' Z :=
  (wopen_ok w.heap.size b S X s u h.disk h.below.size ho hm hz).mono (by rintro e w' ⟨p, X', Z, rfl, a1, a2, a3⟩; exact ⟨p, X', Z, rfl, h.opened a1 a2⟩)
theorem lt_crash (w u : World) (b : Nat) (S : DS) (X : Foot) (keep torn : Int) (h : DT w u b S X) (hz : sizeN S.fs ≤ 1048576) (hk0 : -9223372036854775808 ≤ keep) (hk1 : keep ≤ 9223372036854775807) (ht : 0 ≤ torn ∧ torn ≤ 255) :
    Calls Try.prog 16 #[.pointer (some ⟨b, 0, none⟩), .int .i64 keep, .int .u8 torn] u fun e w' => e = .returned (.tuple #[]) ∧ ∃ X', DT w w' b (S.crash keep torn) X' :=
  (dkcrash_any b S X keep torn u h.disk hz hk0 hk1 ht).mono (by rintro e w' ⟨rfl, X', a1, a2⟩; exact ⟨rfl, X', h.did a1 a2⟩)
theorem lt_on (w u : World) (b : Nat) (S : DS) (X : Foot) (h : DT w u b S X) (hl : S.lives ≤ 1000000000) (hl0 : 0 ≤ S.lives) :
    Calls Try.prog 18 #[.pointer (some ⟨b, 0, none⟩)] u fun e w' => e = .returned (.tuple #[]) ∧ ∃ X', DT w w' b S.on X' :=
  (dkon_any b S X u h.disk hl hl0).mono (by rintro e w' ⟨rfl, X', a1, a2⟩; exact ⟨rfl, X', h.did a1 a2⟩)
theorem lt_add (w u : World) (p b : Nat) (S : DS) (l : LS) (X Z : Foot) (a : Option Addr) (cap n : Nat) (R : List (List Int)) (h : LT w u p b S l X Z) (hRn : R.length = n) (hR : ∀ u', Below w.heap.size w u' → (∀ k, u.heap[k]? ≠ none → ¬ X k → ¬ Z k → u'.heap[k]? = u.heap[k]?) → RowsOf u' a cap R) (hfew : n ≤ 1000) (hz : sizeN S.fs ≤ 1048576) (hroom : 0 ≤ S.room ∧ S.room ≤ 1048576) (hfl : S.fs.length + 1 ≤ 1000) (hLn : l.L.length + n ≤ 1000000) (S' : DS) (l' : LS) (E : Int) (he : addL S l R = (E, S', l')) :
    Calls Try.prog 12 #[.pointer (some ⟨p, 0, none⟩), .slice a n cap] u fun e w' => ∃ X' Z', e = .returned (.int .i64 E) ∧ LT w w' p b S' l' X' Z' := by
  have hc := wadd_any w.heap.size p b S l X Z a cap n R u h.pd h.lo h.below.size hRn (fun u' c => hR u' (h.kept_rows c) (fun k hk hx hz => c.block k (by rcases Nat.lt_or_ge k u.heap.size with e | e; exact e; exact absurd (Array.getElem?_eq_none e) hk) (fun e => e.elim hx hz))) hfew hz hroom hfl hLn
  rw [he] at hc
  exact hc.mono (by rintro e w' ⟨X', Z', rfl, a1, a2⟩; exact ⟨X', Z', rfl, h.did a1 a2⟩)
theorem lt_sync (w u : World) (p b : Nat) (S : DS) (l : LS) (X Z : Foot) (h : LT w u p b S l X Z) (S' : DS) (l' : LS) (E : Int) (he : syncL S l = (E, S', l')) :
    Calls Try.prog 17 #[.pointer (some ⟨p, 0, none⟩)] u fun e w' => ∃ X' Z', e = .returned (.int .i64 E) ∧ LT w w' p b S' l' X' Z' := by
  have hc := wsync_any w.heap.size p b S l X Z u h.pd
  rw [he] at hc
  exact hc.mono (by rintro e w' ⟨X', Z', rfl, a1, a2⟩; exact ⟨X', Z', rfl, h.did a1 a2⟩)
theorem lt_clear (w u : World) (p b : Nat) (S : DS) (l : LS) (X Z : Foot) (h : LT w u p b S l X Z) (hz : sizeN S.fs ≤ 1048576) (S' : DS) (l' : LS) (E : Int) (he : clearL S l = (E, S', l')) :
    Calls Try.prog 15 #[.pointer (some ⟨p, 0, none⟩)] u fun e w' => ∃ X' Z', e = .returned (.int .i64 E) ∧ LT w w' p b S' l' X' Z' := by
  have hc := wclear_any w.heap.size p b S l X Z u h.pd hz
  rw [he] at hc
  exact hc.mono (by rintro e w' ⟨X', Z', rfl, a1, a2⟩; exact ⟨X', Z', rfl, h.did a1 a2⟩)
theorem lt_len (w u : World) (p b : Nat) (S : DS) (l : LS) (X Z : Foot) (h : LT w u p b S l X Z) :
    Calls Try.prog 13 #[.pointer (some ⟨p, 0, none⟩)] u fun e w' => e = .returned (.int .i64 (l.L.length : Nat)) ∧ LT w w' p b S l X Z ∧ Below u.heap.size u w' :=
  (wlen_any _ p b S l X Z u h.pd).mono (by rintro e w' ⟨rfl, a1⟩; exact ⟨rfl, h.past a1, a1⟩)
theorem lt_safe (w u : World) (p b : Nat) (S : DS) (l : LS) (X Z : Foot) (h : LT w u p b S l X Z) :
    Calls Try.prog 19 #[.pointer (some ⟨p, 0, none⟩)] u fun e w' => e = .returned (.int .i64 (l.safe : Nat)) ∧ LT w w' p b S l X Z ∧ Below u.heap.size u w' :=
  (wsafe_any _ p b S l X Z u h.pd).mono (by rintro e w' ⟨rfl, a1⟩; exact ⟨rfl, h.past a1, a1⟩)
theorem lt_at (w u : World) (p b : Nat) (S : DS) (l : LS) (X Z : Foot) (n : Nat) (h : LT w u p b S l X Z) (ho : offN S l = false) (hn : n < l.L.length) :
    Calls Try.prog 14 #[.pointer (some ⟨p, 0, none⟩), .int .i64 (n : Int)] u fun e w' => ∃ a c, e = .returned (.tuple #[.slice a (l.L.getD n []).length c, .int .i64 0]) ∧ LT w w' p b S l X Z ∧ Below u.heap.size u w' ∧ Row w' a (l.L.getD n []) ∧ (l.L.getD n []).length ≤ c ∧ (a = none → c = 0) ∧ (∀ g, a = some g → ∃ cur fr, w'.heap[g.block]? = some (.cells cur 5 fr)) :=
  (wat_in _ p b S l X Z n u h.pd ho hn).mono (by rintro e w' ⟨a, c, rfl, a1, a2, a3, a4, a5, _⟩; exact ⟨a, c, rfl, h.past a1, a1, a2, a3, a4, a5⟩)
theorem lt_size (w u : World) (b : Nat) (S : DS) (X : Foot) (h : DT w u b S X) (hz : sizeN S.fs ≤ 1048576) :
    Calls Try.prog 32 #[.pointer (some ⟨b, 0, none⟩)] u fun e w' => e = .returned (.int .i64 (S.size : Nat)) ∧ DT w w' b S X ∧ Below u.heap.size u w' :=
  (dksize_any b S X u h.disk hz).mono (by rintro e w' ⟨rfl, a1⟩; exact ⟨rfl, h.past a1, a1⟩)
theorem opened_same (S : DS) (s : List Int) : (S.opened s).off = S.off ∧ (S.opened s).lives = S.lives := by
  unfold DS.opened
  cases findN S.fs s <;> exact ⟨rfl, rfl⟩
/-- Another log is opened beside the first. -/
theorem lt_open2 (w u : World) (p b : Nat) (S : DS) (l : LS) (X Z : Foot) (s : List Int) (h : LT w u p b S l X Z) (hl : l.lives ≤ S.lives) (ho : S.off = false) (hm : mayN s = true) (hz : sizeN S.fs ≤ 1048576) :
    Calls Try.prog 11 #[.pointer (some ⟨b, 0, none⟩), .string (strOfNums s)] u fun e w' => ∃ p' X' Z', e = .returned (.tuple #[.pointer (some ⟨p', 0, none⟩), .int .i64 0]) ∧ LT w w' p' b (S.opened s) (S.log s) X' Z' ∧ LT w w' p b (S.opened s) l X' Z ∧ ∀ k, Z' k → ¬ Z k :=
  (wopen_ok w.heap.size b S X s u h.pd.disk h.below.size ho hm hz).mono (by
    rintro e w' ⟨p', X', Z', rfl, a1, a2, a3⟩
    have r := h.dt.opened a1 a2
    refine ⟨p', X', Z', rfl, r, ⟨⟨a1.disk, (h.pd.log.kept a2.chg.size (fun k z => a2.chg.block k (h.pd.log.lt k z) (fun x => h.pd.apart k x z))).turn hl (.inl (opened_same S s)), fun k x z => ?_⟩, r.below, r.lo⟩, fun k z' z => ?_⟩
    · rcases (a2.new k x).1 with e | e
      · exact h.pd.apart k e z
      · have := h.pd.log.lt k z; omega
    · have h1 := a3 k z'
      have h2 := h.pd.log.lt k z
      omega)
/-- A log beside another that was called. -/
theorem LT.beside {w u u' : World} {p p' b : Nat} {S S' : DS} {l l' l2 : LS} {X X' Z Z' Z2 : Foot} (h : LT w u p b S l X Z) (h2 : LT w u p' b S l2 X Z2) (hzz : ∀ k, Z2 k → ¬ Z k) (h1 : PD u' w.heap.size p b S' l' X' Z') (d : DidP u u' X Z X' Z') (hl : l2.lives ≤ S.lives) (hs : S'.off = S.off ∧ S'.lives = S.lives) : LT w u' p' b S' l2 X' Z2 := by
  have r := h.did h1 d
  refine ⟨⟨h1.disk, (h2.pd.log.kept d.chg.size (fun k z => d.chg.block k (h2.pd.log.lt k z) (fun e => e.elim (fun x => h2.pd.apart k x z) (hzz k z)))).turn hl (.inl hs), fun k x z => ?_⟩, r.below, r.lo⟩
  rcases (d.nx k x).1 with e | e
  · exact h2.pd.apart k e z
  · have := h2.pd.log.lt k z; omega
theorem lt_sync2 (w u : World) (p p' b : Nat) (S : DS) (l l2 : LS) (X Z Z2 : Foot) (h : LT w u p b S l X Z) (h2 : LT w u p' b S l2 X Z2) (hzz : ∀ k, Z2 k → ¬ Z k) (hl : l2.lives ≤ S.lives) (S' : DS) (l' : LS) (E : Int) (he : syncL S l = (E, S', l')) (hs : S'.off = S.off ∧ S'.lives = S.lives) :
    Calls Try.prog 17 #[.pointer (some ⟨p, 0, none⟩)] u fun e w' => ∃ X' Z', e = .returned (.int .i64 E) ∧ LT w w' p b S' l' X' Z' ∧ LT w w' p' b S' l2 X' Z2 := by
  have hc := wsync_any w.heap.size p b S l X Z u h.pd
  rw [he] at hc
  exact hc.mono (by rintro e w' ⟨X', Z', rfl, a1, a2⟩; exact ⟨X', Z', rfl, h.did a1 a2, h.beside h2 hzz a1 a2 hl hs⟩)
theorem may_w : mayN [119] = true := by decide
theorem may_log : mayN [108, 111, 103] = true := by decide
/-- One record of one byte, made for one call. -/
theorem rows_made (u0 u' : World) (z : Int) (hz : 0 ≤ z ∧ z ≤ 255) (X Z : Foot) (hX : ∀ k, X k → k < u0.heap.size) (hZ : ∀ k, Z k → k < u0.heap.size)
    (h : ∀ k, ((u0.alloc (.cells #[.int .u8 z] 5 (1, 2))).alloc (.cells #[.slice (some ⟨u0.heap.size, 0, none⟩) 1 1] 31)).heap[k]? ≠ none → ¬ X k → ¬ Z k → u'.heap[k]? = ((u0.alloc (.cells #[.int .u8 z] 5 (1, 2))).alloc (.cells #[.slice (some ⟨u0.heap.size, 0, none⟩) 1 1] 31)).heap[k]?) : RowsOf u' (some ⟨u0.heap.size + 1, 0, none⟩) 1 [[z]] := by
  have hs1 : (u0.alloc (.cells #[.int .u8 z] 5 (1, 2))).heap.size = u0.heap.size + 1 := by simp
  have g2 : ((u0.alloc (.cells #[.int .u8 z] 5 (1, 2))).alloc (.cells #[.slice (some ⟨u0.heap.size, 0, none⟩) 1 1] 31)).cell? ⟨u0.heap.size + 1, 0, none⟩ = some (.slice (some ⟨u0.heap.size, 0, none⟩) 1 1) := by
    have := World.cell?_alloc_new (u0.alloc (.cells #[.int .u8 z] 5 (1, 2))) #[.slice (some ⟨u0.heap.size, 0, none⟩) 1 1] 31 0
    rw [hs1] at this
    rw [this]; rfl
  have g1 : ((u0.alloc (.cells #[.int .u8 z] 5 (1, 2))).alloc (.cells #[.slice (some ⟨u0.heap.size, 0, none⟩) 1 1] 31)).cell? ⟨u0.heap.size, 0, none⟩ = some (.int .u8 z) := by
    have hb : (u0.alloc (.cells #[.int .u8 z] 5 (1, 2))).heap[u0.heap.size]? = some (.cells #[.int .u8 z] 5 (1, 2)) := by
      show (u0.heap.push _)[u0.heap.size]? = _
      simp
    rw [World.cell?_alloc_lt _ _ _ (by simp)]
    simp only [World.cell?, hb]
    rfl
  have e2 := h (u0.heap.size + 1) (fun e => by have := cell_lt g2; rw [Array.getElem?_eq_none_iff] at e; omega) (fun x => by have := hX _ x; omega) (fun x => by have := hZ _ x; omega)
  have e1 := h u0.heap.size (fun e => by have := cell_lt g1; rw [Array.getElem?_eq_none_iff] at e; omega) (fun x => by have := hX _ x; omega) (fun x => by have := hZ _ x; omega)
  refine ⟨(fun e => by cases e), Nat.le_refl _, .inr ⟨_, _, rfl, fun r hr => ?_⟩⟩
  obtain rfl : r = 0 := by simp at hr; omega
  refine ⟨some ⟨u0.heap.size, 0, none⟩, 1, (cell_kept e2 _).trans g2, ⟨fun y hy => ?_, .inr ⟨_, _, rfl, fun j hj => ?_⟩⟩, (fun e => by cases e), Nat.le_refl _⟩
  · simp at hy; rw [hy]; exact hz
  · obtain rfl : j = 0 := by simp at hj; omega
    exact (cell_kept e1 _).trans g1
set_option maxHeartbeats 2000000 in
set_option maxRecDepth 4000 in
theorem awake_any (w : World) : Calls Try.prog 9 #[] w fun e w' => e = .returned (.bool true) ∧ Below w.heap.size w w' := by
  have e1 : addL (newDS 1000) ⟨[108, 111, 103], 1, false, [], 0⟩ [[120]] = (0, oneF 1000 1 [108, 111, 103] (frames [[120]]) 0, ⟨[108, 111, 103], 1, false, [[120]], 0⟩) := addL_new 1000 _ _ may_log (fun r hr => by simp at hr; subst hr; simp) (by rw [frames_size]; simp)
  have e2 : syncL (oneF 1000 1 [108, 111, 103] (frames [[120]]) 0) ⟨[108, 111, 103], 1, false, [[120]], 0⟩ = (0, oneF 1000 1 [108, 111, 103] (frames [[120]]) (frames [[120]]).length, ⟨[108, 111, 103], 1, false, [[120]], 1⟩) := syncL_one 1000 1 _ _ _ _ _ may_log
  have e3 : addL (oneF 1000 1 [108, 111, 103] (frames [[120]]) (frames [[120]]).length) ⟨[108, 111, 103], 1, false, [[120]], 1⟩ [[121]] = (0, oneF 1000 1 [108, 111, 103] (frames [[120], [121]]) (frames [[120]]).length, ⟨[108, 111, 103], 1, false, [[120], [121]], 1⟩) := addL_one 1000 1 _ [[120]] [[121]] _ _ may_log (fun r hr => by simp at hr; subst hr; simp) (by rw [frames_size, frames_size]; simp)
  have e4 : ((oneF 1000 1 [108, 111, 103] (frames [[120], [121]]) (frames [[120]]).length).crash 0 0).on = oneF 1000 2 [108, 111, 103] (frames [[120]]) (frames [[120]]).length := by
    have h0 := crash_zero [[120], [121]] 1
    have h1 : crashB (frames [[120], [121]]) (frames [[120]]).length 0 0 = frames [[120]] := h0
    rw [crash_one, show (0 : Int).toNat = 0 from rfl, h1]
    rfl
  obtain ⟨o1, o2⟩ := open_frames 1000 2 [108, 111, 103] [[120]] (frames [[120]]).length (fun r hr => by simp at hr; subst hr; simp)
  have C1 : Hid (Calls Try.prog 10 #[.int .i64 1000] w fun e w' => ∃ b X, e = .returned (.tuple #[.pointer (some ⟨b, 0, none⟩), .int .i64 0]) ∧ DT w w' b (newDS 1000) X) := lt_new w w (Below.refl _ _) 1000 (by omega) (by omega)
  have C2 : Hid (∀ u b X, DT w u b (newDS 1000) X → Calls Try.prog 11 #[.pointer (some ⟨b, 0, none⟩), .string ⟨#[108, 111, 103]⟩] u fun e w' => ∃ p X' Z, e = .returned (.tuple #[.pointer (some ⟨p, 0, none⟩), .int .i64 0]) ∧ LT w w' p b (newDS 1000) ⟨[108, 111, 103], 1, false, [], 0⟩ X' Z) := fun u b X h => lt_open w u b _ X [108, 111, 103] h rfl may_log (by simp [newDS, sizeN])
  have C3 : Hid (∀ u p b S l X Z S' l' z, LT w u p b S l X Z → 0 ≤ z ∧ z ≤ 255 → sizeN S.fs ≤ 1048576 → 0 ≤ S.room ∧ S.room ≤ 1048576 → S.fs.length + 1 ≤ 1000 → l.L.length + 1 ≤ 1000000 → addL S l [[z]] = (0, S', l') → Calls Try.prog 12 #[.pointer (some ⟨p, 0, none⟩), .slice (some ⟨u.heap.size + 1, 0, none⟩) 1 1] ((u.alloc (.cells #[.int .u8 z] 5 (1, 2))).alloc (.cells #[.slice (some ⟨u.heap.size, 0, none⟩) 1 1] 31)) fun e w' => ∃ X' Z', e = .returned (.int .i64 0) ∧ LT w w' p b S' l' X' Z') := fun u p b S l X Z S' l' z h hz h1 h2 h3 h4 he =>
    lt_add w _ p b S l X Z _ 1 1 [[z]] ((h.past ((Below.refl _ _).alloc (Nat.le_refl _) _)).past ((Below.refl _ _).alloc (Nat.le_refl _) _)) rfl (fun u' _ hk => rows_made u u' z hz X Z h.pd.disk.lt h.pd.log.lt hk) (by omega) h1 h2 h3 h4 S' l' 0 he
  have C4 : Hid (∀ u p b X Z, LT w u p b (oneF 1000 1 [108, 111, 103] (frames [[120]]) 0) ⟨[108, 111, 103], 1, false, [[120]], 0⟩ X Z → Calls Try.prog 17 #[.pointer (some ⟨p, 0, none⟩)] u fun e w' => ∃ X' Z', e = .returned (.int .i64 0) ∧ LT w w' p b (oneF 1000 1 [108, 111, 103] (frames [[120]]) (frames [[120]]).length) ⟨[108, 111, 103], 1, false, [[120]], 1⟩ X' Z') := fun u p b X Z h => lt_sync w u p b _ _ X Z h _ _ 0 e2
  have hz1 : sizeN (oneF 1000 1 [108, 111, 103] (frames [[120], [121]]) (frames [[120]]).length).fs ≤ 1048576 := by simp [oneF, sizeN, frames_size]
  have hz2 : sizeN (oneF 1000 1 [108, 111, 103] (frames [[120]]) (frames [[120]]).length).fs ≤ 1048576 := by simp [oneF, sizeN, frames_size]
  have C5 : Hid (∀ u b X, DT w u b (oneF 1000 1 [108, 111, 103] (frames [[120], [121]]) (frames [[120]]).length) X → Calls Try.prog 16 #[.pointer (some ⟨b, 0, none⟩), .int .i64 0, .int .u8 0] u fun e w' => e = .returned (.tuple #[]) ∧ ∃ X', DT w w' b ((oneF 1000 1 [108, 111, 103] (frames [[120], [121]]) (frames [[120]]).length).crash 0 0) X') := fun u b X h => lt_crash w u b _ X 0 0 h hz1 (by omega) (by omega) (by omega)
  have C6 : Hid (∀ u b X, DT w u b ((oneF 1000 1 [108, 111, 103] (frames [[120], [121]]) (frames [[120]]).length).crash 0 0) X → Calls Try.prog 18 #[.pointer (some ⟨b, 0, none⟩)] u fun e w' => e = .returned (.tuple #[]) ∧ ∃ X', DT w w' b (oneF 1000 2 [108, 111, 103] (frames [[120]]) (frames [[120]]).length) X') := fun u b X h => by rw [← e4]; exact lt_on w u b _ X h (by show (1 : Int) ≤ 1000000000; omega) (by show (0 : Int) ≤ 1; omega)
  have C7 : Hid (∀ u b X, DT w u b (oneF 1000 2 [108, 111, 103] (frames [[120]]) (frames [[120]]).length) X → Calls Try.prog 11 #[.pointer (some ⟨b, 0, none⟩), .string ⟨#[108, 111, 103]⟩] u fun e w' => ∃ p X' Z, e = .returned (.tuple #[.pointer (some ⟨p, 0, none⟩), .int .i64 0]) ∧ LT w w' p b (oneF 1000 2 [108, 111, 103] (frames [[120]]) (frames [[120]]).length) ⟨[108, 111, 103], 2, false, [[120]], 1⟩ X' Z) := fun u b X h => by
    have hc := lt_open w u b _ X [108, 111, 103] h rfl may_log (by simp [oneF, sizeN, frames_size])
    rw [o1, o2] at hc
    exact hc
  have C8 : Hid (∀ u p b S l X Z, LT w u p b S l X Z → Calls Try.prog 13 #[.pointer (some ⟨p, 0, none⟩)] u fun e w' => e = .returned (.int .i64 (l.L.length : Nat)) ∧ LT w w' p b S l X Z ∧ Below u.heap.size u w') := fun u p b S l X Z h => lt_len w u p b S l X Z h
  have C9 : Hid (∀ u p b S l X Z, LT w u p b S l X Z → Calls Try.prog 19 #[.pointer (some ⟨p, 0, none⟩)] u fun e w' => e = .returned (.int .i64 (l.safe : Nat)) ∧ LT w w' p b S l X Z ∧ Below u.heap.size u w') := fun u p b S l X Z h => lt_safe w u p b S l X Z h
  have C10 : Hid (∀ u p b X Z, LT w u p b (oneF 1000 2 [108, 111, 103] (frames [[120]]) (frames [[120]]).length) ⟨[108, 111, 103], 2, false, [[120]], 1⟩ X Z → Calls Try.prog 14 #[.pointer (some ⟨p, 0, none⟩), .int .i64 0] u fun e w' => ∃ a c, e = .returned (.tuple #[.slice a 1 c, .int .i64 0]) ∧ LT w w' p b (oneF 1000 2 [108, 111, 103] (frames [[120]]) (frames [[120]]).length) ⟨[108, 111, 103], 2, false, [[120]], 1⟩ X Z ∧ Row w' a [120]) := fun u p b X Z h => (lt_at w u p b _ _ X Z 0 h (off_one _ _ _ _ _ _ _) (by simp)).mono (by rintro e w' ⟨a, c, rfl, a1, a2, a3, a4, a5⟩; exact ⟨a, c, rfl, a1, a3⟩)
  have hz0 : sizeN (newDS 1000).fs ≤ 1048576 := by simp [newDS, sizeN]
  have HA1 : Hid (addL (newDS 1000) ⟨[108, 111, 103], 1, false, [], 0⟩ [[120]] = (0, oneF 1000 1 [108, 111, 103] (frames [[120]]) 0, ⟨[108, 111, 103], 1, false, [[120]], 0⟩)) := e1
  have HA3 : Hid (addL (oneF 1000 1 [108, 111, 103] (frames [[120]]) (frames [[120]]).length) ⟨[108, 111, 103], 1, false, [[120]], 1⟩ [[121]] = (0, oneF 1000 1 [108, 111, 103] (frames [[120], [121]]) (frames [[120]]).length, ⟨[108, 111, 103], 1, false, [[120], [121]], 1⟩)) := e3
  have HZ2 : Hid (sizeN (oneF 1000 1 [108, 111, 103] (frames [[120]]) (frames [[120]]).length).fs ≤ 1048576) := hz2
  have HZ0 : Hid (sizeN (newDS 1000).fs ≤ 1048576) := hz0
  clear e1 e2 e3 e4 o1 o2 hz1 hz2 hz0
  have hcv := fun (w : World) (C : Array Value) (n c : Nat) => Lib.run_convert_bytes_const (P := Try.prog) w 31 5 C n c Try.underlying31 Try.underlying5
  go_enter Try.func9, Try.ntmps9
  go_wp2_with (first
    | (go_at_call 13; have hgo := R10.out; clear hgo; refine (C8.out _ _ _ _ _ _ _ L10.out).mono ?_; rintro e w11 ⟨rfl, h1, h2⟩; have L11 : Hid (LT w w11 p7 b _ _ X7 Z7) := h1; have R11 : Hid (Row w11 a10 [120]) := R10.out.below h2 (Nat.le_refl _); have s11 := str_at (n := 1) rfl R11.out c10; clear h1 h2)
    | (go_at_call 14; refine (C10.out _ _ _ _ _ L7.out).mono ?_; rintro e w10 ⟨a10, c10, rfl, h1, h2⟩; have L10 : Hid (LT w w10 p7 b _ _ X7 Z7) := h1; have R10 : Hid (Row w10 a10 [120]) := h2; clear h1 h2)
    | (go_at_call 11; have hgo := D6.out; clear hgo; refine (C7.out _ _ _ D6.out).mono ?_; rintro e w7 ⟨p7, X7, Z7, rfl, h1⟩; have L7 : Hid (LT w w7 p7 b _ _ X7 Z7) := h1; clear h1)
    | (go_at_call 18; refine (C6.out _ _ _ D5.out).mono ?_; rintro e w6 ⟨rfl, X6, h1⟩; have D6 : Hid (DT w w6 b _ X6) := h1; clear h1)
    | (go_at_call 16; refine (C5.out _ _ _ L4c.out.dt).mono ?_; rintro e w5 ⟨rfl, X5, h1⟩; have D5 : Hid (DT w w5 b _ X5) := h1; clear h1)
    | (go_at_call 19; refine (C9.out _ _ _ _ _ _ _ L4b.out).mono ?_; rintro e w4c ⟨rfl, h1, h2⟩; have L4c : Hid (LT w w4c p b _ _ X4 Z4) := h1; clear h1 h2)
    | (go_at_call 13; refine (C8.out _ _ _ _ _ _ _ L4.out).mono ?_; rintro e w4b ⟨rfl, h1, h2⟩; have L4b : Hid (LT w w4b p b _ _ X4 Z4) := h1; clear h1 h2)
    | (go_at_call 12; have hgo := L3.out; clear hgo; refine (C3.out _ _ _ _ _ _ _ _ _ 121 L3.out (by omega) HZ2.out (by show (0 : Int) ≤ 1000 ∧ (1000 : Int) ≤ 1048576; omega) (by show 2 ≤ 1000; omega) (by show 2 ≤ 1000000; omega) HA3.out).mono ?_; rintro e w4 ⟨X4, Z4, rfl, h1⟩; have L4 : Hid (LT w w4 p b _ _ X4 Z4) := h1; clear h1)
    | (go_at_call 17; refine (C4.out _ _ _ _ _ L2.out).mono ?_; rintro e w3 ⟨X3, Z3, rfl, h1⟩; have L3 : Hid (LT w w3 p b _ _ X3 Z3) := h1; clear h1)
    | (go_at_call 12; refine (C3.out _ _ _ _ _ _ _ _ _ 120 L1.out (by omega) HZ0.out (by show (0 : Int) ≤ 1000 ∧ (1000 : Int) ≤ 1048576; omega) (by show 1 ≤ 1000; omega) (by show 1 ≤ 1000000; omega) HA1.out).mono ?_; rintro e w2 ⟨X2, Z2, rfl, h1⟩; have L2 : Hid (LT w w2 p b _ _ X2 Z2) := h1; clear h1)
    | (go_at_call 11; refine (C2.out _ _ _ D0.out).mono ?_; rintro e w1 ⟨p, X1, Z1, rfl, h1⟩; have L1 : Hid (LT w w1 p b _ _ X1 Z1) := h1; clear h1)
    | (go_at_call 10; refine C1.out.mono ?_; rintro e w0 ⟨b, X0, rfl, h1⟩; have D0 : Hid (DT w w0 b _ X0) := h1; clear h1))
  have hsx : ((strOfNums [120]).toList == [120]) = true := by decide +kernel
  go_ret
  refine ⟨?_, L11.out.below⟩
  show Ending.returned (Value.bool ((strOfNums [120]).toList == [120])) = _
  rw [hsx]
end Go.Proofs.Ytlfmhdljldbjmaa
