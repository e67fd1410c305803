/-
  What the landed package disk answers and leaves: New, Size, Power, Lives, On, Sync, Read; slices.Clone at bytes.
-/
import Derived.Test.YtlfmhdljldbjmaaDskA
import Derived.Lib.SliceRun
import Derived.BigRegion
namespace Go.Proofs.Ytlfmhdljldbjmaa
open Go.RowKit
set_option linter.unusedVariables false

theorem derr_zero {S : DS} {s : List Int} (h : S.err s = 0) : S.off = false ∧ mayN s = true := by
  unfold DS.err at h
  split at h
  · omega
  · rename_i h0
    split at h
    · omega
    · rename_i h1; exact ⟨by simpa using h0, by simpa using h1⟩
theorem derr_codes (S : DS) (s : List Int) : S.err s = 0 ∨ (S.err s ≠ 0 ∧ (S.err s = 7 ∨ S.err s = 1 ∨ S.err s = 4)) := by
  unfold DS.err
  (repeat' split) <;> simp
theorem derr_find {S : DS} {s : List Int} (h : S.err s = 0) : findN S.fs s ≠ none := by
  obtain ⟨h0, h1⟩ := derr_zero h
  intro hf
  unfold DS.err at h
  rw [h0, h1, hf] at h
  simp at h
theorem DiskI.drew {u : World} {b m : Nat} {S : DS} {X : Foot} {G : ByteArray → Option Nat} {Y : List Int → Foot} (h : DiskI u b S X m G Y) : DiskI u.drew b S X m G Y := h.kept (Nat.le_refl _) (fun _ _ => rfl)
theorem DiskD.drew {u : World} {b : Nat} {S : DS} {X : Foot} (h : DiskD u b S X) : DiskD u.drew b S X := h.kept (Nat.le_refl _) (fun _ _ => rfl)
theorem did_drew {u u' : World} {X X' : Foot} (h : Did u u' X X') : Did u u'.drew X X' := ⟨h.chg.drew, h.new⟩
/-- The file of a name that is there, and the rest of it. -/
theorem DiskI.there {u : World} {b m : Nat} {S : DS} {X : Foot} {G : ByteArray → Option Nat} {Y : List Int → Foot} (h : DiskI u b S X m G Y) (s : List Int) (hs : By s) (h0 : S.err s = 0) :
    ∃ i f g, findN S.fs s = some i ∧ S.fs[i]? = some f ∧ f.name = s ∧ G (strOfNums s) = some g ∧ FileD u g f (Y s) := by
  rcases h.at_name s hs with ⟨h1, _⟩ | h1
  · exact absurd h1 (derr_find h0)
  · exact h1
/-- slices.Clone at bytes: the same bytes in memory of the call's own (nil for nil). -/
theorem bclone_any (a : Option Addr) (n c : Nat) (zs : List Int) (w : World) (hl : zs.length = n) (hrow : Row w a zs) (hnil : a = none → n = 0) (hbig : n ≤ 140737488355328) :
    Calls Try.prog 55 #[.slice a n c] w fun e w' => ∃ a' c', e = .returned (.slice a' n c') ∧ w'.ownsRow w.heap.size 5 1 (.slice a' n c') n (bs zs) ∧ Below w.heap.size w w' := by
  have q : ∀ (w : World) (a : Option Addr) (n c n' c' : Nat), (binOp .eql 31 (.slice a n c) (.slice none n' c')).run Try.prog w = .ok (.bool a.isNone) w := fun w a n c n' c' => Lib.run_eql_slice_nil w _ _ a n c n' c' Try.underlying31
  have HR : Hid (Row w a zs) := hrow
  clear hrow
  cases a with
  | none =>
    obtain rfl := hnil rfl
    obtain rfl : zs = [] := List.eq_nil_of_length_eq_zero hl
    go_enter Try.func55, Try.ntmps55
    go_wp2
    go_ret
    exact ⟨none, 0, rfl, World.ownsRow_nil _ _ _ _, Below.refl _ _⟩
  | some ad =>
    clear hnil
    go_enter Try.func55, Try.ntmps55
    go_wp2_with (at_builtin; refine wpList_append_new rfl _ _ rfl rfl zs _ _ _ rfl HR.out hl (fun h => by cases h) hbig ?_; intro a' c' w1 h1 h2; have O1 : Hid (w1.ownsRow w.heap.size 5 1 (.slice a' n c') n (bs zs)) := h1; have B1 : Hid (Below w.heap.size w w1) := h2; clear h1 h2)
    go_ret
    exact ⟨a', c', rfl, O1.out, B1.out⟩
theorem dsize_any (b : Nat) (S : DS) (X : Foot) (w : World) (h : DiskD w b S X) :
    Calls Try.prog 32 #[.pointer (some ⟨b, 0, none⟩)] w fun e w' => e = .returned (.int .i64 (S.size : Nat)) ∧ w' = w := by
  obtain ⟨m, G, Y, h⟩ := h
  have c2 := h.c2
  have c3 := h.c3
  obtain ⟨Z, hZ⟩ : ∃ Z, Z = sizeN S.fs := ⟨_, rfl⟩
  have e : S.size = if S.off = true then 0 else Z := by rw [hZ]; rfl
  rw [← hZ] at c2
  rw [e]
  clear h hZ e
  cases ho : S.off with
  | true =>
    rw [ho] at c3
    replace c3 : w.cell? ⟨b, 3, none⟩ = some (.bool false) := c3
    go_enter Try.func32, Try.ntmps32
    go_wp2
    go_ret
    exact ⟨rfl, rfl⟩
  | false =>
    rw [ho] at c3
    replace c3 : w.cell? ⟨b, 3, none⟩ = some (.bool true) := c3
    go_enter Try.func32, Try.ntmps32
    go_wp2
    go_ret
    exact ⟨rfl, rfl⟩
theorem dlives_any (b : Nat) (S : DS) (X : Foot) (w : World) (h : DiskD w b S X) :
    Calls Try.prog 34 #[.pointer (some ⟨b, 0, none⟩)] w fun e w' => e = .returned (.int .i64 S.lives) ∧ w' = w := by
  obtain ⟨m, G, Y, h⟩ := h
  have c4 := h.c4
  clear h
  go_enter Try.func34, Try.ntmps34
  go_wp2
  go_ret
  exact ⟨rfl, rfl⟩
theorem dpower_any (b : Nat) (S : DS) (X : Foot) (w : World) (h : DiskD w b S X) :
    Calls Try.prog 59 #[.pointer (some ⟨b, 0, none⟩)] w fun e w' => e = .returned (.bool (!S.off)) ∧ w' = w := by
  obtain ⟨m, G, Y, h⟩ := h
  have c3 := h.c3
  obtain ⟨P, hP⟩ : ∃ P, P = !S.off := ⟨_, rfl⟩
  rw [← hP] at c3 ⊢
  clear h hP
  go_enter Try.func59, Try.ntmps59
  go_wp2
  go_ret
  exact ⟨rfl, rfl⟩
theorem set_other (u : World) (b i j : Nat) (v : Value) (h : j ≠ i) : (u.setCell ⟨b, i, none⟩ v).cell? ⟨b, j, none⟩ = u.cell? ⟨b, j, none⟩ := World.cell?_setCell_other _ _ _ _ (by intro e; injection e with _ e2; omega)
theorem don_any (b : Nat) (S : DS) (X : Foot) (w : World) (h : DiskD w b S X) (hl : S.lives ≤ 1000000000) (hl0 : 0 ≤ S.lives) :
    Calls Try.prog 18 #[.pointer (some ⟨b, 0, none⟩)] w fun e w' => e = .returned (.tuple #[]) ∧ DiskD w' b S.on X ∧ Did w w' X X := by
  obtain ⟨m, G, Y, h⟩ := h
  have c3 := h.c3
  have c4 := h.c4
  have f3 := h.free 3
  have f4 := h.free 4
  have d4 : (w.setCell ⟨b, 3, none⟩ (.bool true)).cell? ⟨b, 4, none⟩ = some (.int .i64 S.lives) := (set_other _ _ _ _ _ (by omega)).trans c4
  have HD : Hid (DiskI w b S X m G Y) := h
  clear h
  go_enter Try.func18, Try.ntmps18
  go_wp2
  go_end0
  have h := HD.out
  have oth : ∀ j, j ≠ 3 → j ≠ 4 → ((w.setCell ⟨b, 3, none⟩ (.bool true)).setCell ⟨b, 4, none⟩ (.int .i64 (S.lives + 1))).cell? ⟨b, j, none⟩ = w.cell? ⟨b, j, none⟩ := fun j h2 h3 => (set_other _ _ _ _ _ h3).trans (set_other _ _ _ _ _ h2)
  have hp := h.power (S' := S.on) (u' := (w.setCell ⟨b, 3, none⟩ (.bool true)).setCell ⟨b, 4, none⟩ (.int .i64 (S.lives + 1))) ⟨rfl, rfl⟩ ((Chg.set (X := fun k => k = b) w ⟨b, 3, none⟩ _ rfl).trans (Chg.set (X := fun k => k = b) _ ⟨b, 4, none⟩ _ rfl) (fun _ _ x => x)) ((oth 0 (by omega) (by omega)).trans h.c0) ((oth 1 (by omega) (by omega)).trans h.c1) ((oth 2 (by omega) (by omega)).trans h.c2) ((set_other _ _ _ _ _ (by omega)).trans (World.cell?_setCell_same _ _ _ c3)) (World.cell?_setCell_same _ _ _ d4) (fun j => by rw [World.frozen?_setCell, World.frozen?_setCell]; exact h.free j)
  exact ⟨rfl, ⟨m, G, Y, hp.1⟩, hp.2⟩
set_option maxHeartbeats 1000000 in
theorem dsync_any (b : Nat) (S : DS) (X : Foot) (s : List Int) (w : World) (h : DiskD w b S X) (hs : By s) (hl : s.length ≤ 1000000) :
    Calls Try.prog 37 #[.pointer (some ⟨b, 0, none⟩), .string (strOfNums s)] w fun e w' => ∃ X', e = .returned (.int .i64 (S.sync s).1) ∧ DiskD w' b (S.sync s).2 X' ∧ Did w w' X X' := by
  obtain ⟨m, G, Y, h⟩ := h
  have CA := dfind_any b m S X G Y s w h hs hl
  rcases derr_codes S s with h0 | ⟨h0, hcode⟩
  · obtain ⟨i, f, g, hf, hif, hfn, hG, hd⟩ := h.there s hs h0
    rw [h0, if_pos rfl, hG] at CA
    replace CA : Hid (Calls Try.prog 54 #[.pointer (some ⟨b, 0, none⟩), .string (strOfNums s)] w fun e w' => e = .returned (.tuple #[.pointer (some ⟨g, 0, none⟩), .int .i64 0]) ∧ w' = w) := CA
    have e : S.sync s = (0, { S with fs := setF S.fs i { f with safe := f.b.length } }) := by unfold DS.sync; rw [if_pos h0, hf]; simp [file_at' hif]
    rw [e]
    have fz := hd.free 1
    have k1 := hd.c1
    obtain ⟨a, c, k0, hown, hq⟩ := hd.c0
    have hsz : sizeN (setF S.fs i { f with safe := f.b.length }) = sizeN S.fs := by have := setF_size (f' := { f with safe := f.b.length }) hif; simp at this; omega
    have hYs : Y s g := hd.own
    have hgb : b ≠ g := fun e => (h.foot _ _ hYs).2.1 e.symm
    have hcg : ∀ j, (w.setCell ⟨g, 1, none⟩ (.int .i64 (f.b.length : Nat))).cell? ⟨b, j, none⟩ = w.cell? ⟨b, j, none⟩ := fun j => cell_kept (Below.heap_setCell _ ⟨g, 1, none⟩ _ b hgb) j
    have HT : Hid (∃ X', DiskD (w.setCell ⟨g, 1, none⟩ (.int .i64 (f.b.length : Nat))) b { S with fs := setF S.fs i { f with safe := f.b.length } } X' ∧ Did w (w.setCell ⟨g, 1, none⟩ (.int .i64 (f.b.length : Nat))) X X') := by
      obtain ⟨X', Y2, t1, t2, _⟩ := h.turn (f' := { f with safe := f.b.length }) (Y' := Y s) (u' := w.setCell ⟨g, 1, none⟩ (.int .i64 (f.b.length : Nat))) hif rfl (by rw [hfn]; exact hG) (Chg.set w ⟨g, 1, none⟩ _ (.inl (by rw [hfn]; exact hYs))) ((hcg 0).trans h.c0) ((hcg 1).trans h.c1) (by rw [hsz]; exact (hcg 2).trans h.c2) ((hcg 3).trans h.c3) ((hcg 4).trans h.c4) (fun j => by rw [World.frozen?_setCell]; exact h.free j)
        ⟨hd.own, fun k x => by rw [World.size_setCell]; exact hd.lt k x, fun j => by rw [World.frozen?_setCell]; exact hd.free j, ⟨a, c, (set_other _ _ _ _ _ (by omega)).trans k0, owns_kept hown (fun q e => Below.heap_setCell _ ⟨g, 1, none⟩ _ q (hq q e).2), hq⟩, World.cell?_setCell_same _ _ _ k1⟩ (fun k x => .inl (by rw [hfn]; exact x)) (Nat.le_refl _) (h.good.bytes f (List.mem_of_getElem? hif))
      exact ⟨X', ⟨m, G, Y2, t1⟩, t2⟩
    obtain ⟨S', hS'⟩ : ∃ S', S' = ({ S with fs := setF S.fs i { f with safe := f.b.length } } : DS) := ⟨_, rfl⟩
    rw [← hS'] at HT ⊢
    obtain ⟨M, hM⟩ : ∃ M, M = f.b.length := ⟨_, rfl⟩
    rw [← hM] at HT k0
    show Calls _ _ _ _ fun e w' => ∃ X', e = .returned (.int .i64 0) ∧ DiskD w' b S' X' ∧ Did w w' X X'
    clear hd hown hq h e hif hM h0 hf hS' hcg hsz hYs hG
    go_enter Try.func37, Try.ntmps37
    go_wp2_with (go_at_call 54; refine CA.out.mono ?_; rintro e w' ⟨rfl, rfl⟩)
    go_ret
    obtain ⟨X', t1, t2⟩ := HT.out
    exact ⟨X', rfl, t1, t2⟩
  · rw [if_neg h0] at CA
    replace CA : Hid (Calls Try.prog 54 #[.pointer (some ⟨b, 0, none⟩), .string (strOfNums s)] w fun e w' => e = .returned (.tuple #[.pointer none, .int .i64 (S.err s)]) ∧ w' = w) := CA
    have e : S.sync s = (S.err s, S) := by unfold DS.sync; rw [if_neg h0]
    rw [e]
    obtain ⟨E, hE⟩ : ∃ E, E = S.err s := ⟨_, rfl⟩
    rw [← hE] at h0 CA ⊢
    have hb : (E != 0) = true := by simpa using h0
    have HD : Hid (DiskD w b S X) := ⟨m, G, Y, h⟩
    clear h e hcode hE
    go_enter Try.func37, Try.ntmps37
    go_wp2_with (go_at_call 54; refine CA.out.mono ?_; rintro e w' ⟨rfl, rfl⟩)
    go_ret
    exact ⟨X, rfl, HD.out, Did.stay (Below.refl _ _) HD.out.lt⟩
set_option maxHeartbeats 1000000 in
theorem dread_err (b : Nat) (S : DS) (X : Foot) (s : List Int) (w : World) (h : DiskD w b S X) (hs : By s) (hl : s.length ≤ 1000000) (h0 : S.err s ≠ 0) :
    Calls Try.prog 29 #[.pointer (some ⟨b, 0, none⟩), .string (strOfNums s)] w fun e w' => e = .returned (.tuple #[.slice none 0 0, .int .i64 (S.err s)]) ∧ w' = w := by
  obtain ⟨m, G, Y, h⟩ := h
  have CA := dfind_any b m S X G Y s w h hs hl
  rw [if_neg h0] at CA
  replace CA : Hid (Calls Try.prog 54 #[.pointer (some ⟨b, 0, none⟩), .string (strOfNums s)] w fun e w' => e = .returned (.tuple #[.pointer none, .int .i64 (S.err s)]) ∧ w' = w) := CA
  obtain ⟨E, hE⟩ : ∃ E, E = S.err s := ⟨_, rfl⟩
  rw [← hE] at h0 CA ⊢
  have hb : (E != 0) = true := by simpa using h0
  clear h hE
  go_enter Try.func29, Try.ntmps29
  go_wp2_with (go_at_call 54; refine CA.out.mono ?_; rintro e w' ⟨rfl, rfl⟩)
  go_returns
  exact ⟨rfl, rfl⟩
set_option maxHeartbeats 1000000 in
theorem dread_any (b : Nat) (S : DS) (X : Foot) (s : List Int) (w : World) (h : DiskD w b S X) (hs : By s) (hl : s.length ≤ 1000000) (hz : sizeN S.fs ≤ 1099511627776) :
    Calls Try.prog 29 #[.pointer (some ⟨b, 0, none⟩), .string (strOfNums s)] w fun e w' => ∃ a c, e = .returned (.tuple #[.slice a (S.read s).2.length c, .int .i64 (S.read s).1]) ∧ w'.ownsRow w.heap.size 5 1 (.slice a (S.read s).2.length c) (S.read s).2.length (bs (S.read s).2) ∧ Below w.heap.size w w' := by
  obtain ⟨m, G, Y, h⟩ := h
  have CA := dfind_any b m S X G Y s w h hs hl
  rcases derr_codes S s with h0 | ⟨h0, hcode⟩
  · obtain ⟨i, f, g, hf, hif, hfn, hG, hd⟩ := h.there s hs h0
    rw [h0, if_pos rfl, hG] at CA
    replace CA : Hid (Calls Try.prog 54 #[.pointer (some ⟨b, 0, none⟩), .string (strOfNums s)] w fun e w' => e = .returned (.tuple #[.pointer (some ⟨g, 0, none⟩), .int .i64 0]) ∧ w' = w) := CA
    have e : S.read s = (0, f.b) := by unfold DS.read; rw [if_pos h0, hf]; simp [file_at' hif]
    rw [e]
    have hby := h.good.bytes f (List.mem_of_getElem? hif)
    have hle := size_one (List.mem_of_getElem? hif)
    obtain ⟨a, c, k0, hown, hq⟩ := hd.c0
    have CC : Hid (Calls Try.prog 55 #[.slice a f.b.length c] w fun e w' => ∃ a' c', e = .returned (.slice a' f.b.length c') ∧ w'.ownsRow w.heap.size 5 1 (.slice a' f.b.length c') f.b.length (bs f.b) ∧ Below w.heap.size w w') := bclone_any a f.b.length c f.b w rfl (own_row hown hby) (fun e => by rcases hown.2 with ⟨_, h⟩ | ⟨g, cap, cur, h, _⟩; exact h; rw [e] at h; cases h) (by omega)
    show Calls _ _ _ _ fun e w' => ∃ a c, e = .returned (.tuple #[.slice a f.b.length c, .int .i64 0]) ∧ w'.ownsRow w.heap.size 5 1 (.slice a f.b.length c) f.b.length (bs f.b) ∧ Below w.heap.size w w'
    obtain ⟨M, hM⟩ : ∃ M, M = f.b.length := ⟨_, rfl⟩
    obtain ⟨B, hB⟩ : ∃ B, B = bs f.b := ⟨_, rfl⟩
    rw [← hM, ← hB] at CC ⊢
    rw [← hM] at k0
    clear hd hown hq h e hif hM hB h0 hf hG hby hle
    go_enter Try.func29, Try.ntmps29
    go_wp2_with (first | (go_at_call 54; refine CA.out.mono ?_; rintro e w' ⟨rfl, hw⟩; obtain rfl := hw.symm; clear hw) | (go_at_call 55; refine CC.out.mono ?_; rintro e w1 ⟨a', c', rfl, h1, h2⟩; have O1 : Hid (w1.ownsRow w.heap.size 5 1 (.slice a' M c') M B) := h1; have B1 : Hid (Below w.heap.size w w1) := h2; clear h1 h2))
    go_returns
    exact ⟨a', c', rfl, O1.out, B1.out⟩
  · rw [if_neg h0] at CA
    replace CA : Hid (Calls Try.prog 54 #[.pointer (some ⟨b, 0, none⟩), .string (strOfNums s)] w fun e w' => e = .returned (.tuple #[.pointer none, .int .i64 (S.err s)]) ∧ w' = w) := CA
    have e : S.read s = (S.err s, []) := by unfold DS.read; rw [if_neg h0]
    rw [e]
    obtain ⟨E, hE⟩ : ∃ E, E = S.err s := ⟨_, rfl⟩
    rw [← hE] at h0 CA ⊢
    have hb : (E != 0) = true := by simpa using h0
    clear h e hcode hE
    go_enter Try.func29, Try.ntmps29
    go_wp2_with (go_at_call 54; refine CA.out.mono ?_; rintro e w' ⟨rfl, rfl⟩)
    go_returns
    exact ⟨none, 0, rfl, World.ownsRow_nil _ _ _ _, Below.refl _ _⟩
set_option maxHeartbeats 1000000 in
theorem dnew_ok (room : Int) (w : World) (h1 : 64 ≤ room) (h2 : room ≤ 1048576) :
    Calls Try.prog 10 #[.int .i64 room] w fun e w' => ∃ b X, e = .returned (.tuple #[.pointer (some ⟨b, 0, none⟩), .int .i64 0]) ∧ DiskD w' b (newDS room) X ∧ Below w.heap.size w w' ∧ ∀ k, X k → w.heap.size ≤ k := by
  have hmm := @run_makeMap Try.prog
  go_enter Try.func10, Try.ntmps10
  go_wp2
  go_returns
  obtain ⟨C, hC⟩ : ∃ C : Array Value, C = #[Value.map (some w.heap.size), Value.int IntKind.i64 room, Value.int IntKind.i64 0, Value.bool true, Value.int IntKind.i64 1] := ⟨_, rfl⟩
  rw [← hC]
  have hb1 : Below w.heap.size w (w.alloc (.map #[] 0)) := (Below.refl _ _).alloc (Nat.le_refl _) _
  have hs1 : (w.alloc (.map #[] 0)).heap.size = w.heap.size + 1 := by simp
  have hm : PMap (w.alloc (.map #[] 0)) w.heap.size 0 (fun _ => none) := PMap.made w
  generalize w.alloc (.map #[] 0) = w1 at hb1 hs1 hm ⊢
  have hnew : (w1.alloc (.cells C 61)).heap[w.heap.size + 1]? = some (.cells C 61 (0, 0)) := by rw [← hs1]; exact heap_alloc_new w1 _
  have hold : ∀ k, k < w1.heap.size → (w1.alloc (.cells C 61)).heap[k]? = w1.heap[k]? := fun k hk => MapKept.heap_alloc w1 _ |>.2 k hk
  have hs2 : (w1.alloc (.cells C 61)).heap.size = w.heap.size + 2 := by simp [hs1]
  have hb2 : Below w.heap.size w (w1.alloc (.cells C 61)) := hb1.alloc (by omega) _
  generalize w1.alloc (.cells C 61) = w2 at hnew hold hs2 hb2 ⊢
  subst hC
  refine ⟨w.heap.size + 1, fun k => k = w.heap.size ∨ k = w.heap.size + 1, rfl, ⟨w.heap.size, fun _ => none, fun _ => noFoot, .inr rfl, fun k hk => by rw [hs2]; omega, .inl rfl, by omega, ?_, ?_, ?_, ?_, ?_, fun j => ?_, hm.kept (hold _ (by omega)), fun x g h => (by cases h), fun f hf => (by cases hf), fun s k h => h.elim, fun s t k h => h.elim, ⟨fun f hf => (by cases hf), fun f hf => (by cases hf), fun f hf => (by cases hf)⟩, List.Pairwise.nil⟩, hb2, fun k hk => by omega⟩
  all_goals simp [World.cell?, World.frozen?, hnew, sizeN, newDS]
end Go.Proofs.Ytlfmhdljldbjmaa
