/-
  What package prep makes of one entry: Good, told (its writes copied), kept (each value copied too).
-/
import Derived.Test.YthgkbabikeknlaaPrepT4
import Derived.Test.YthgkbabikeknlaaRefPrep6
import Derived.Test.YthgkbabikeknlaaRegUpto
import Derived.Test.YthgkbabikeknlaaWrtGood
import Derived.Test.YthgkbabikeknlaaStampG
import Derived.Test.YthgkbabikeknlaaShelf
namespace Go.Proofs.Ythgkbabikeknlaa
open Go.RowKit
set_option linter.unusedVariables false

theorem pstr_any (s : ByteArray) (w : World) (hs : s.size ≤ 281474976710656) :
    Calls Try.prog 52 #[.string s] w fun e w' => e = .returned (.string s) ∧ Below w.heap.size w w' := by
  have CC : Hid (Calls Try.prog 63 #[.string s] w fun e w' => e = .returned (.string s) ∧ Below w.heap.size w w') := Go.Proofs.Try.stringslite_Clone s w hs
  go_enter Try.func52, Try.ntmps52
  go_wp2_with (go_at_call 63; refine CC.out.mono ?_; rintro e w1 ⟨rfl, hb1⟩; have HB1 : Hid (Below w.heap.size w w1) := hb1; clear hb1)
  go_ret
  exact ⟨rfl, HB1.out⟩
set_option maxHeartbeats 2000000 in
theorem pclone_any (a : Option Addr) (N c : Nat) (l : List Wrt) (w : World) (hl : l.length = N) (hc : N ≤ c) (hN : N ≤ 1000000) (hat : WrtsAt w a l) :
    Calls Try.prog 57 #[.slice a N c] w fun e w' => (∃ a' c', e = .returned (.slice a' N c') ∧ w'.ownsRow w.heap.size 46 18 (.slice a' N c') N (l.flatMap encW)) ∧ Below w.heap.size w w' := by
  have q : ∀ (w : World) (a : Option Addr) (n c n' c' : Nat), (binOp .eql 29 (.slice a n c) (.slice none n' c')).run Try.prog w = .ok (.bool a.isNone) w := fun w a n c n' c' => Lib.run_eql_slice_nil w _ _ a n c n' c' Try.underlying29
  cases a with
  | none =>
    have hL : l = [] := by
      rcases hat.cells with e | ⟨b, o, e, _⟩
      · exact e
      · cases e
    subst hL
    obtain rfl : N = 0 := hl.symm
    clear hat hl
    go_enter Try.func57, Try.ntmps57
    go_wp2
    go_ret
    exact ⟨⟨none, 0, rfl, World.ownsRow_nil _ _ _ _⟩, Below.refl _ _⟩
  | some ad =>
    have HB : Hid (Below w.heap.size w (w.alloc (.cells #[] 46))) := (Below.refl _ _).alloc (Nat.le_refl _) _
    have HS : Hid (Lies (w.alloc (.cells #[] 46)) (some ad) (l.flatMap encW)) := (hat.past HB.out).lies
    have HO : Hid ((w.alloc (.cells #[] 46)).ownsRow w.heap.size 46 18 (.slice (some ⟨w.heap.size, 0, none⟩) 0 0) 0 []) := World.ownsRow_made w #[] 0 (Nat.le_refl _) (by unfold maxLen; omega) (by simp)
    have HL : Hid ((l.flatMap encW).length = N * 18) := by
      show _ = _
      rw [← hl]
      exact flat_len l (fun W hW => encW_len (hat.oks W hW).key)
    have HZ : Hid (0 + N = N) := Nat.zero_add N
    clear hat hl
    go_enter Try.func57, Try.ntmps57
    go_wp2_with (at_builtin; refine wpList_append_els wrtEl (w0 := w) rfl _ _ rfl HB.out _ 0 [] (l.flatMap encW) rfl HO.out _ N c rfl HL.out HS.out (encWs_one l) (fun h => by cases h) (by omega) ?_; intro a' c' w' h1 h2 h3; rw [HZ.out, List.nil_append] at h1; have H1 : Hid (w'.ownsRow w.heap.size 46 18 (.slice a' N c') N (l.flatMap encW)) := h1; have H3 : Hid (Below w.heap.size w w') := h3; clear h1 h2 h3; rw [HZ.out])
    go_wp2
    go_ret
    exact ⟨⟨a', c', rfl, H1.out⟩, H3.out⟩
/-- An entry in a box, its list of writes laid anew. -/
theorem EntMine.set5 {u : World} {b : Nat} {x : EntM} (h : EntMine u b x) (a' : Option Addr) (c' : Nat) : EntMine (u.setCell ⟨b, 5, none⟩ (.slice a' x.e.l.length c')) b ⟨x.e, a', c'⟩ := by
  obtain ⟨y0, y1, y2, y3, y4, y5⟩ := h.at_.cells
  rw [Nat.zero_add] at y1 y2 y3 y4 y5
  have hother : ∀ o, o ≠ 5 → (u.setCell ⟨b, 5, none⟩ (.slice a' x.e.l.length c')).cell? ⟨b, o, none⟩ = u.cell? ⟨b, o, none⟩ := fun o hne => World.cell?_setCell_other _ _ _ _ (by intro e; injection e with e1 e2; exact hne e2.symm)
  have hsame := World.cell?_setCell_same u ⟨b, 5, none⟩ (.slice a' x.e.l.length c') y5
  refine ⟨⟨lies_of fun j v hj => ?_⟩, fun i hi => by rw [World.frozen?_setCell]; exact h.free i hi⟩
  rw [Nat.zero_add]
  have hj6 : j < 6 := by have := (List.getElem?_eq_some_iff.1 hj).1; rwa [encE_len] at this
  have hj' : j = 0 ∨ j = 1 ∨ j = 2 ∨ j = 3 ∨ j = 4 ∨ j = 5 := by omega
  rcases hj' with rfl | rfl | rfl | rfl | rfl | rfl <;> (injection hj with hj; rw [← hj])
  · rw [hother 0 (by omega)]; exact y0
  · rw [hother 1 (by omega)]; exact y1
  · rw [hother 2 (by omega)]; exact y2
  · rw [hother 3 (by omega)]; exact y3
  · rw [hother 4 (by omega)]; exact y4
  · exact hsame
/-- An entry and an empty one in boxes. -/
theorem two_ents (w : World) (x : EntM) (T T' : TypeId) : EntMine ((w.alloc (.cells (encE x).toArray T)).alloc (.cells (encE zeroE).toArray T')) w.heap.size x ∧ EntMine ((w.alloc (.cells (encE x).toArray T)).alloc (.cells (encE zeroE).toArray T')) (w.heap.size + 1) zeroE ∧ Below w.heap.size w ((w.alloc (.cells (encE x).toArray T)).alloc (.cells (encE zeroE).toArray T')) ∧ ((w.alloc (.cells (encE x).toArray T)).alloc (.cells (encE zeroE).toArray T')).heap.size = w.heap.size + 2 := by
  obtain ⟨u1, h1⟩ : ∃ u, u = w.alloc (.cells (encE x).toArray T) := ⟨_, rfl⟩
  have e1 : u1.heap.size = w.heap.size + 1 := by rw [h1]; simp
  have k1 : EntMine u1 w.heap.size x := by rw [h1]; exact EntMine.made w T x
  have b1 : Below w.heap.size w u1 := by rw [h1]; exact (Below.refl _ _).alloc (Nat.le_refl _) _
  rw [← h1]
  have b2 : Below u1.heap.size u1 (u1.alloc (.cells (encE zeroE).toArray T')) := (Below.refl _ _).alloc (Nat.le_refl _) _
  refine ⟨k1.past b2, ?_, b1.trans (b2.mono b1.size), by simp [e1]⟩
  have := EntMine.made u1 T' zeroE
  rw [e1] at this
  exact this
set_option maxHeartbeats 4000000 in
set_option maxRecDepth 4000 in
theorem ptold_any (x : EntM) (w : World) (hx : EntW w x) :
    Calls Try.prog 36 #[ev x] w fun e w' => ∃ a' c', e = .returned (ev ⟨x.e, a', c'⟩) ∧ w'.ownsRow (w.heap.size + 2) 46 18 (.slice a' x.e.l.length c') x.e.l.length (x.e.l.flatMap encW) ∧ Below w.heap.size w w' := by
  obtain ⟨m1, m2, hb, hsz⟩ := two_ents w x 31 31
  obtain ⟨V0, hV0⟩ : ∃ V, V = (w.alloc (.cells (encE x).toArray 31)).alloc (.cells (encE zeroE).toArray 31) := ⟨_, rfl⟩
  rw [← hV0] at m1 m2 hb hsz
  have CC : Hid (Calls Try.prog 57 #[.slice x.a x.e.l.length x.c] V0 fun e w' => (∃ a' c', e = .returned (.slice a' x.e.l.length c') ∧ w'.ownsRow V0.heap.size 46 18 (.slice a' x.e.l.length c') x.e.l.length (x.e.l.flatMap encW)) ∧ Below V0.heap.size V0 w') := pclone_any x.a x.e.l.length x.c x.e.l V0 rfl hx.room hx.few (hx.wr.past hb)
  have HB : Hid (Below w.heap.size w V0) := hb
  have HSZ : Hid (V0.heap.size = w.heap.size + 2) := hsz
  have HV0 : Hid ((w.alloc (.cells #[.int .i64 x.e.id, .int .i64 x.e.s, .int .u8 x.e.m, .int .i64 x.e.t, .int .u8 x.e.n, .slice x.a x.e.l.length x.c] 31)).alloc (.cells #[.int .i64 0, .int .i64 0, .int .u8 0, .int .i64 0, .int .u8 0, .slice none 0 0] 31) = V0) := hV0.symm
  have HM : Hid (∀ u, Below V0.heap.size V0 u → Hid (EntMine u w.heap.size x ∧ EntMine u (w.heap.size + 1) zeroE) ∧ u.cell? ⟨w.heap.size, 5, none⟩ = some (.slice x.a x.e.l.length x.c) ∧ u.frozen? ⟨w.heap.size, 5, none⟩ = false) := fun u hu => by
    have h1 := m1.past hu
    have h5 := h1.at_.cells.2.2.2.2.2
    have h6 := h1.free 5 (by omega)
    rw [Nat.zero_add] at h5 h6
    exact ⟨⟨h1, m2.past hu⟩, h5, h6⟩
  have HEND : Hid (∀ (u : World) (a' : Option Addr) (c' : Nat), Below V0.heap.size V0 u → EntMine (u.setCell ⟨w.heap.size, 5, none⟩ (.slice a' x.e.l.length c')) w.heap.size ⟨x.e, a', c'⟩ ∧ EntMine (u.setCell ⟨w.heap.size, 5, none⟩ (.slice a' x.e.l.length c')) (w.heap.size + 1) zeroE) := fun u a' c' hu =>
    ⟨(m1.past hu).set5 a' c', (m2.past hu).kept (Below.heap_setCell _ ⟨w.heap.size, 5, none⟩ _ _ (by show w.heap.size + 1 ≠ w.heap.size; omega))⟩
  have HK5 : Hid (∀ (u : World) (v : Value) (k : Nat), k ≠ w.heap.size → (u.setCell ⟨w.heap.size, 5, none⟩ v).heap[k]? = u.heap[k]?) := fun u v k hne => Below.heap_setCell _ ⟨w.heap.size, 5, none⟩ _ k hne
  show Calls Try.prog 36 #[.agg #[.int .i64 x.e.id, .int .i64 x.e.s, .int .u8 x.e.m, .int .i64 x.e.t, .int .u8 x.e.n, .slice x.a x.e.l.length x.c]] w _
  obtain ⟨L1, hL1⟩ : ∃ L, L = x.e.l.length := ⟨_, rfl⟩
  rw [← hL1] at CC HV0 HM HEND ⊢
  clear m1 m2 hb hsz hV0 hx hL1
  go_enter Try.func36, Try.ntmps36
  go_wp2_with (first | (go_at_call 57; rw [HV0.out]; refine CC.out.mono ?_; rintro e w1 ⟨⟨a1, c1, rfl, ho1⟩, hb1⟩; have HO : Hid (w1.ownsRow V0.heap.size 46 18 (.slice a1 L1 c1) L1 (x.e.l.flatMap encW)) := ho1; have B1 : Hid (Below V0.heap.size V0 w1) := hb1; obtain ⟨HMM, y5, f5⟩ := HM.out w1 hb1; obtain ⟨g1, g2⟩ := HEND.out w1 a1 c1 hb1; have HE1 : Hid _ := g1; have HE2 : Hid _ := g2; clear ho1 hb1 g1 g2 CC) | ((with_reducible show wpList _ _ _ (Oper.mk (some 7) _ _ _ _ _ :: _) _ _); refine wpList_load_pent 7 (by rfl) (by rfl) _ (by rfl) w.heap.size 0 (by rfl) ⟨x.e, a1, c1⟩ HE1.out.at_ ?_) | (have hgo := HE2.out; clear hgo; refine wpList_store_pent (.tmp 2) (by rfl) _ (by rfl) (w.heap.size + 1) zeroE ⟨x.e, a1, c1⟩ (by rfl) (by rfl) HE2.out ?_; intro u2 hu; have HM2 : Hid (EntMine u2 (w.heap.size + 1) ⟨x.e, a1, c1⟩) := hu ▸ HE2.out.store; have HU2 : Hid (u2 = (w1.setCell ⟨w.heap.size, 5, none⟩ (.slice a1 L1 c1)).setCells (w.heap.size + 1) 0 (encE ⟨x.e, a1, c1⟩)) := hu; clear hu))
  refine bodyPost_ret (results_pent1 rfl _ _ (w.heap.size + 1) ⟨x.e, a1, c1⟩ rfl HM2.out.at_) rfl ?_
  have hb1 : Below w.heap.size w w1 := HB.out.trans (B1.out.mono HB.out.size)
  have hb2 : Below w.heap.size w u2 := by rw [HU2.out]; exact below_cells (Nat.le_succ _) (hb1.setCell (Nat.le_refl _) _)
  refine ⟨a1, c1, rfl, ?_, hb2⟩
  rw [HSZ.out] at HO
  refine row_keptT HO.out (fun k e => ?_)
  have := (HO.out.lt k e).1
  rw [HU2.out, cells_else (w := w) (by omega), HK5.out _ _ _ (by omega)]
end Go.Proofs.Ythgkbabikeknlaa
