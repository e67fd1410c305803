/-
  What the landed package disk answers and leaves: cut, Cut.
-/
import Derived.Test.YtlfmhdljldbjmaaDskLay
import Derived.Test.YtlfmhdljldbjmaaMine
import Derived.Lib.MinMax
import Derived.Laws.Rows
import Derived.BigRegion
namespace Go.Proofs.Ytlfmhdljldbjmaa
open Go.RowKit
set_option linter.unusedVariables false

theorem elem5 : Try.prog.elem 31 = 5 := by kernel_rfl
theorem slice_dsk (w : World) (a : Option Addr) (ha : ∀ ad, a = some ad → ∃ bb, ad = ⟨bb, 0, none⟩) (len cap h : Nat) (hh : h ≤ cap) (hn : a = none → cap = 0) (hlen : a = none → len = 0) :
    (Instr.slice 31 (.slice a len cap) none (some (.int .i64 (h : Int))) none).run Try.prog w = .ok (.slice a h cap) w := by
  cases a with
  | none =>
    obtain rfl := hn rfl
    obtain rfl := hlen rfl
    obtain rfl : h = 0 := by omega
    kernel_rfl
  | some ad =>
    obtain ⟨bb, rfl⟩ := ha ad rfl
    obtain ⟨i0, hi, _⟩ := info_parts info5
    rw [run_slice_h w 31 _ len cap (by rw [elem5]; exact Try.underlying31) .i64 (h : Int) (by omega) (by omega), elem5, run_sizeOf w hi]
    simp [sliced, add_plain]
theorem owns_base {u : World} {B B' e size n : Nat} {v : Value} {xs : List Value} (h : u.ownsRow B e size v n xs) (hB : B' ≤ B) : u.ownsRow B' e size v n xs := by
  refine ⟨h.1, h.2.imp id ?_⟩
  rintro ⟨g, cap, cur, e, h1, h2⟩
  exact ⟨g, cap, cur, e, Nat.le_trans hB h1, h2⟩
theorem Row.taken {u : World} {a : Option Addr} {zs : List Int} (h : Row u a zs) (n : Nat) : Row u a (zs.take n) := by
  refine ⟨fun z hz => h.1 z (List.mem_of_mem_take hz), ?_⟩
  rcases h.2 with e | ⟨b, off, e, hc⟩
  · exact .inl (by rw [e]; simp)
  · refine .inr ⟨b, off, e, fun j hj => ?_⟩
    rw [List.length_take] at hj
    rw [hc j (by omega)]
    simp [List.getD, show j < n by omega]
/-- What a list of one's own is. -/
theorem owns_parts {u : World} {a : Option Addr} {n c : Nat} {zs : List Int} (h : u.ownsRow 0 5 1 (.slice a n c) n (bs zs)) : n ≤ c ∧ (a = none → c = 0) ∧ (a = none → n = 0) ∧ ∀ ad, a = some ad → ∃ q, ad = ⟨q, 0, none⟩ := by
  rcases h.2 with ⟨e, e0⟩ | ⟨g, cap, cur, e, _, _, hle, _⟩
  · injection e with e1 e2 e3
    subst e1 e3
    exact ⟨by omega, fun _ => rfl, fun _ => e0, fun ad h => by cases h⟩
  · injection e with e1 e2 e3
    subst e1 e3
    exact ⟨hle, (fun h => by cases h), (fun h => by cases h), fun ad h => ⟨g, by injection h with h; exact h.symm⟩⟩
/-- The file's bytes are new. -/
theorem FileD.anew {u u1 : World} {g n c B : Nat} {f : FileV} {Y : Foot} {zs : List Int} {a : Option Addr} (h : FileD u g f Y) (hb : Below u.heap.size u u1) (hB : u.heap.size ≤ B) (hown : u1.ownsRow B 5 1 (.slice a n c) n (bs zs)) (hn : zs.length = n) :
    FileD (u1.setCell ⟨g, 0, none⟩ (.slice a n c)) g { f with b := zs } (fun k => Y k ∨ (Value.slice a n c).ownBlock = some k) := by
  have hgl := h.lt g h.own
  have gk : u1.heap[g]? = u.heap[g]? := hb.block g hgl
  obtain ⟨aa, cc, k0, _, _⟩ := h.c0
  have hq : ∀ q, (Value.slice a n c).ownBlock = some q → u.heap.size ≤ q := fun q e => Nat.le_trans hB (hown.lt q e).1
  refine ⟨.inl h.own, fun k x => ?_, fun j => by rw [World.frozen?_setCell]; exact (frozen_kept gk j).trans (h.free j), ⟨a, c, ?_, ?_, fun q e => ?_⟩, (set_other _ _ _ _ _ (by omega)).trans ((cell_kept gk 1).trans h.c1)⟩
  · rw [World.size_setCell]
    rcases x with x | x
    · exact Nat.lt_of_lt_of_le (h.lt k x) hb.size
    · exact (hown.lt k x).2
  · show _ = some (Value.slice a zs.length c)
    rw [hn]; exact World.cell?_setCell_same _ _ _ ((cell_kept gk 0).trans k0)
  · show World.ownsRow _ 0 5 1 (Value.slice a zs.length c) zs.length (bs zs)
    rw [hn]
    refine owns_kept (owns_base hown (Nat.zero_le _)) (fun q e => Below.heap_setCell _ ⟨g, 0, none⟩ _ q ?_)
    have := hq q e
    show q ≠ g
    omega
  · rw [show ({ f with b := zs } : FileV).b.length = n from hn] at e
    exact ⟨.inr e, by have := hq q e; omega⟩
theorem FileD.nowsafe {u : World} {g : Nat} {f : FileV} {Y : Foot} (h : FileD u g f Y) (v : Nat) : FileD (u.setCell ⟨g, 1, none⟩ (.int .i64 (v : Int))) g { f with safe := v } Y := by
  obtain ⟨h1, h2, h3, ⟨a, c, h4, h5, h6⟩, h7⟩ := h
  exact ⟨h1, fun k x => by rw [World.size_setCell]; exact h2 k x, fun j => by rw [World.frozen?_setCell]; exact h3 j, ⟨a, c, (set_other _ _ _ _ _ (by omega)).trans h4, owns_kept h5 (fun q e => Below.heap_setCell _ ⟨g, 1, none⟩ _ q (h6 q e).2), h6⟩, World.cell?_setCell_same _ _ _ h7⟩
/-- What 'cut' and 'tear' leave: the file, and the count of all in the disk's own block. -/
structure Turned (w w' : World) (b g : Nat) (f' : FileV) (Y Y' : Foot) (Z : Nat) : Prop where
  file : FileD w' g f' Y'
  new : ∀ k, Y' k → Y k ∨ w.heap.size ≤ k
  chg : Chg w w' (fun k => Y k ∨ k = b)
  c2 : w'.cell? ⟨b, 2, none⟩ = some (.int .i64 (Z : Int))
  oth : ∀ j, j ≠ 2 → w'.cell? ⟨b, j, none⟩ = w.cell? ⟨b, j, none⟩
  fr : ∀ j, w'.frozen? ⟨b, j, none⟩ = w.frozen? ⟨b, j, none⟩
theorem DiskI.of_turned {w w' : World} {b m g i Z : Nat} {S : DS} {X Y' : Foot} {G : ByteArray → Option Nat} {Y : List Int → Foot} {f f' : FileV} (h : DiskI w b S X m G Y) (hi : S.fs[i]? = some f) (hn : f'.name = f.name) (hg : G (strOfNums f.name) = some g) (ht : Turned w w' b g f' (Y f.name) Y' Z) (hZ : Z = sizeN (setF S.fs i f')) (h1 : f'.safe ≤ f'.b.length) (h2 : By f'.b) :
    ∃ X' Y2, DiskI w' b { S with fs := setF S.fs i f' } X' m G Y2 ∧ Did w w' X X' ∧ w'.heap[m]? = w.heap[m]? :=
  h.turn hi hn hg ht.chg ((ht.oth 0 (by omega)).trans h.c0) ((ht.oth 1 (by omega)).trans h.c1) (by rw [← hZ]; exact ht.c2) ((ht.oth 3 (by omega)).trans h.c3) ((ht.oth 4 (by omega)).trans h.c4) (fun j => (ht.fr j).trans (h.free j)) ht.file ht.new h1 h2
set_option maxHeartbeats 2000000 in
set_option maxRecDepth 4000 in
theorem dcut_in (b g n Z : Nat) (f : FileV) (Y : Foot) (w : World) (hd : FileD w g f Y) (hb : ¬ Y b) (hbl : b < w.heap.size) (c2 : w.cell? ⟨b, 2, none⟩ = some (.int .i64 (Z : Int))) (f2 : w.frozen? ⟨b, 2, none⟩ = false) (hn : n ≤ f.b.length) (hZ : f.b.length ≤ Z) (hz : Z ≤ 1099511627776) (hs : f.safe ≤ 1099511627776) (hby : By f.b) :
    Calls Try.prog 58 #[.pointer (some ⟨b, 0, none⟩), .pointer (some ⟨g, 0, none⟩), .int .i64 (n : Int)] w fun e w' => e = .returned (.tuple #[]) ∧ ∃ Y', Turned w w' b g { f with b := f.b.take n, safe := min f.safe n } Y Y' (Z - (f.b.length - n)) := by
  obtain ⟨aa, cc, k0, hown, hq⟩ := hd.c0
  have hgb : g ≠ b := fun e => hb (e ▸ hd.own)
  obtain ⟨o1, o2, o3, o4⟩ := owns_parts hown
  obtain ⟨M, hM⟩ : ∃ M, M = f.b.length := ⟨_, rfl⟩
  rw [← hM] at k0 hn hZ o1 ⊢
  have HMM : Hid (M = f.b.length) := hM
  have HD : Hid (FileD w g f Y) := hd
  have HB : Hid (¬ Y b) := hb
  have q1 : IntKind.i64.wrap ((M : Int) - (n : Int)) = (M : Int) - (n : Int) := by rw [IntKind.wrap_i64]; omega
  have q2 : IntKind.i64.wrap ((Z : Int) - ((M : Int) - (n : Int))) = (Z : Int) - ((M : Int) - (n : Int)) := by rw [IntKind.wrap_i64]; omega
  rw [← hM] at hown hq
  have HW0 : Hid (w.cell? ⟨g, 0, none⟩ = some (.slice aa M cc)) := k0
  have HOW : Hid (w.ownsRow 0 5 1 (.slice aa M cc) M (bs f.b)) := hown
  have HQ : Hid (∀ q, (Value.slice aa M cc).ownBlock = some q → Y q ∧ q ≠ g) := hq
  have HBY : Hid (By f.b) := hby
  have HBL : Hid (b < w.heap.size) := hbl
  have HC2 : Hid (w.cell? ⟨b, 2, none⟩ = some (.int .i64 (Z : Int))) := c2
  have HO : Hid (aa = none → n = 0) := fun e => by have := o3 e; omega
  have HSL : Hid (∀ u, (Instr.slice 31 (.slice aa M cc) none (some (.int .i64 (n : Int))) none).run Try.prog u = .ok (.slice aa n cc) u) := fun u => slice_dsk u aa o4 M cc n (by omega) o2 (fun e => by have := o3 e; omega)
  clear hown hq hd hb o2 o3 o4 hby hM hbl
  go_enter Try.func58, Try.ntmps58
  go_wp2
  go_region
  obtain ⟨U, hU⟩ : ∃ U, U = (w.setCell ⟨b, 2, none⟩ (.int .i64 ((Z : Int) - ((M : Int) - (n : Int))))).drew := ⟨_, rfl⟩
  have HUO : Hid (∀ k, k ≠ b → U.heap[k]? = w.heap[k]?) := fun k hk => by rw [hU]; exact Below.heap_setCell _ ⟨b, 2, none⟩ _ k hk
  have HUS : Hid (U.heap.size = w.heap.size) := by show _ = _; rw [hU]; exact World.size_setCell _ _ _
  have HU2 : Hid (U.cell? ⟨b, 2, none⟩ = some (.int .i64 ((Z : Int) - ((M : Int) - (n : Int))))) := by show _ = _; rw [hU]; exact World.cell?_setCell_same _ _ _ HC2.out
  have HUB : Hid (∀ j, j ≠ 2 → U.cell? ⟨b, j, none⟩ = w.cell? ⟨b, j, none⟩) := fun j hj => by rw [hU]; exact set_other _ _ _ _ _ hj
  have HUF : Hid (∀ j, U.frozen? ⟨b, j, none⟩ = w.frozen? ⟨b, j, none⟩) := fun j => by rw [hU]; exact World.frozen?_setCell _ _ _ _
  have HUC : Hid (Chg w U (fun k => Y k ∨ k = b)) := by rw [hU]; exact (Chg.set w ⟨b, 2, none⟩ _ (.inr rfl)).drew
  rw [← hU]
  clear hU c2 f2 k0
  have HDU : Hid (FileD U g f Y) := HD.out.kept (by rw [HUS.out]; exact Nat.le_refl _) (fun k x => HUO.out k (fun e => HB.out (e ▸ x)))
  have k0 : U.cell? ⟨g, 0, none⟩ = some (.slice aa M cc) := (cell_kept (HUO.out g hgb) 0).trans HW0.out
  have sl := HSL.out U
  have HTL : Hid ((f.b.take n).length = n) := by show _ = _; rw [List.length_take, ← HMM.out]; omega
  have CC : Hid (Calls Try.prog 55 #[.slice aa n cc] U fun e w' => ∃ a' c', e = .returned (.slice a' n c') ∧ w'.ownsRow U.heap.size 5 1 (.slice a' n c') n (bs (f.b.take n)) ∧ Below U.heap.size U w') := by
    have hr : Row U aa f.b := own_row (owns_kept HOW.out (fun q e => HUO.out q (fun e2 => HB.out (e2 ▸ (HQ.out q e).1)))) HBY.out
    exact bclone_any aa n cc (f.b.take n) U HTL.out (hr.taken n) HO.out (by omega)
  have hmin : min (f.safe : Int) (n : Int) = ((min f.safe n : Nat) : Int) := by omega
  obtain ⟨F, hF⟩ : ∃ F, F = f.safe := ⟨_, rfl⟩
  have HF : Hid (F = f.safe) := hF
  rw [← hF] at hmin hs
  have HW : Hid (∀ (u1 : World) (a' : Option Addr) (c' : Nat), u1.ownsRow U.heap.size 5 1 (.slice a' n c') n (bs (f.b.take n)) → Below U.heap.size U u1 → u1.cell? ⟨g, 0, none⟩ = some (.slice aa M cc) ∧ u1.frozen? ⟨g, 0, none⟩ = false ∧ (u1.setCell ⟨g, 0, none⟩ (.slice a' n c')).cell? ⟨g, 1, none⟩ = some (.int .i64 (F : Int)) ∧ u1.frozen? ⟨g, 1, none⟩ = false ∧
      ∃ Y', Turned w ((u1.setCell ⟨g, 0, none⟩ (.slice a' n c')).setCell ⟨g, 1, none⟩ (.int .i64 ((min F n : Nat) : Int))) b g { f with b := f.b.take n, safe := min f.safe n } Y Y' (Z - (M - n))) := by
    intro u1 a' c' h1 h2
    have hgl : g < U.heap.size := HDU.out.lt g HDU.out.own
    have gk := h2.block g hgl
    have bk := h2.block b (by rw [HUS.out]; exact HBL.out)
    refine ⟨(cell_kept gk 0).trans k0, (frozen_kept gk 0).trans (HDU.out.free 0), (set_other _ _ _ _ _ (by omega)).trans ((cell_kept gk 1).trans (by rw [HF.out]; exact HDU.out.c1)), (frozen_kept gk 1).trans (HDU.out.free 1), ?_⟩
    have hf := (HDU.out.anew h2 (Nat.le_refl _) h1 HTL.out).nowsafe (min F n)
    have hbk : ((u1.setCell ⟨g, 0, none⟩ (.slice a' n c')).setCell ⟨g, 1, none⟩ (.int .i64 ((min F n : Nat) : Int))).heap[b]? = U.heap[b]? := (Below.heap_setCell _ ⟨g, 1, none⟩ _ b (Ne.symm hgb)).trans ((Below.heap_setCell _ ⟨g, 0, none⟩ _ b (Ne.symm hgb)).trans bk)
    refine ⟨_, ⟨by rw [HF.out] at hf ⊢; exact hf, fun k x => ?_, ?_, ?_, fun j hj => (cell_kept hbk j).trans (HUB.out j hj), fun j => (frozen_kept hbk j).trans (HUF.out j)⟩⟩
    · rcases x with x | x
      · exact .inl x
      · exact .inr (by rw [← HUS.out]; exact (h1.lt k x).1)
    · exact ((HUC.out.trans (Chg.of_below h2 (fun k => Y k ∨ k = b)) (fun _ _ x => x)).trans (Chg.set u1 ⟨g, 0, none⟩ _ (X := fun k => Y k ∨ k = b) (.inl HDU.out.own)) (fun _ _ x => x)).trans (Chg.set _ ⟨g, 1, none⟩ _ (X := fun k => Y k ∨ k = b) (.inl HDU.out.own)) (fun _ _ x => x)
    · rw [cell_kept hbk, HU2.out]
      have e : (Z : Int) - ((M : Int) - (n : Int)) = ((Z - (M - n) : Nat) : Int) := by omega
      rw [e]
  clear hF
  go_wp2_with (go_at_call 55; refine CC.out.mono ?_; rintro e u1 ⟨a', c', rfl, h1, h2⟩; obtain ⟨e1, e2, e3, e4, e5⟩ := HW.out u1 a' c' h1 h2; have HE : Hid (∃ Y', Turned w ((u1.setCell ⟨g, 0, none⟩ (.slice a' n c')).setCell ⟨g, 1, none⟩ (.int .i64 ((min F n : Nat) : Int))) b g { f with b := f.b.take n, safe := min f.safe n } Y Y' (Z - (M - n))) := e5; clear h1 h2 e5)
  go_end0
  exact ⟨rfl, HE.out⟩
set_option maxHeartbeats 1000000 in
set_option maxRecDepth 4000 in
theorem dkcut_any (b : Nat) (S : DS) (X : Foot) (s : List Int) (n : Int) (w : World) (h : DiskD w b S X) (hs : By s) (hl : s.length ≤ 1000000) (hz : sizeN S.fs ≤ 1099511627776) :
    Calls Try.prog 36 #[.pointer (some ⟨b, 0, none⟩), .string (strOfNums s), .int .i64 n] w fun e w' => ∃ X', e = .returned (.int .i64 (S.cut s n).1) ∧ DiskD w' b (S.cut s n).2 X' ∧ Did w w' X X' := by
  have HDD : Hid (DiskD w b S X) := h
  obtain ⟨m, G, Y, h⟩ := h
  have CA := dfind_any b m S X G Y s w h hs hl
  rcases derr_codes S s with h0 | ⟨h0, hcode⟩
  · obtain ⟨i, f, g, hf, hif, hfn, hG, hd⟩ := h.there s hs h0
    rw [h0, if_pos rfl, hG] at CA
    replace CA : Hid (Calls Try.prog 54 #[.pointer (some ⟨b, 0, none⟩), .string (strOfNums s)] w fun e w' => e = .returned (.tuple #[.pointer (some ⟨g, 0, none⟩), .int .i64 0]) ∧ w' = w) := CA
    have e : S.cut s n = if n < 0 ∨ ((f.b.length : Nat) : Int) < n then (1, S) else (0, { S with fs := setF S.fs i { f with b := f.b.take n.toNat, safe := min f.safe n.toNat } }) := by unfold DS.cut; rw [if_pos h0, hf]; simp [file_at' hif]
    rw [e]
    obtain ⟨aa, cc, k0, _, _⟩ := hd.c0
    have hsz := size_one (List.mem_of_getElem? hif)
    by_cases hb : n < 0 ∨ ((f.b.length : Nat) : Int) < n
    · rw [if_pos hb]
      obtain ⟨M, hM⟩ : ∃ M, M = f.b.length := ⟨_, rfl⟩
      rw [← hM] at hb k0
      clear hd h e hif hM h0 hf hG hsz
      show Calls _ _ _ _ fun e w' => ∃ X', e = .returned (.int .i64 1) ∧ DiskD w' b S X' ∧ Did w w' X X'
      rcases hb with hb | hb
      · have b1 : decide (n < 0) = true := decide_eq_true hb
        go_enter Try.func36, Try.ntmps36
        go_wp2_with (go_at_call 54; refine CA.out.mono ?_; rintro e w' ⟨rfl, hw⟩; obtain rfl := hw.symm; clear hw)
        go_ret
        exact ⟨X, rfl, HDD.out, Did.stay (Below.refl _ _) HDD.out.lt⟩
      · have b1 : decide (n < 0) = false := decide_eq_false (by omega)
        have b2 : decide ((M : Int) < n) = true := decide_eq_true hb
        go_enter Try.func36, Try.ntmps36
        go_wp2_with (go_at_call 54; refine CA.out.mono ?_; rintro e w' ⟨rfl, hw⟩; obtain rfl := hw.symm; clear hw)
        go_ret
        exact ⟨X, rfl, HDD.out, Did.stay (Below.refl _ _) HDD.out.lt⟩
    · rw [if_neg hb]
      obtain ⟨N, rfl⟩ : ∃ N : Nat, n = (N : Int) := ⟨n.toNat, by omega⟩
      rw [Int.toNat_natCast]
      have hN : N ≤ f.b.length := by omega
      have hgood := h.good
      have hfm := List.mem_of_getElem? hif
      have hYb : ¬ Y s b := fun y => (h.foot _ _ y).2.1 rfl
      have CT : Hid (Calls Try.prog 58 #[.pointer (some ⟨b, 0, none⟩), .pointer (some ⟨g, 0, none⟩), .int .i64 (N : Int)] w fun e w' => e = .returned (.tuple #[]) ∧ ∃ X', DiskD w' b { S with fs := setF S.fs i { f with b := f.b.take N, safe := min f.safe N } } X' ∧ Did w w' X X') := by
        refine (dcut_in b g N (sizeN S.fs) f (Y s) w hd hYb (h.lt b h.own) h.c2 (h.free 2) hN hsz hz (by have := hgood.safe f hfm; omega) (hgood.bytes f hfm)).mono ?_
        rintro e w' ⟨rfl, Y', ht⟩
        have hsf := setF_size (f' := { f with b := f.b.take N, safe := min f.safe N }) hif
        simp only [List.length_take] at hsf
        rw [← hfn] at ht
        obtain ⟨X', Y2, t1, t2, _⟩ := h.of_turned (f' := { f with b := f.b.take N, safe := min f.safe N }) (Z := sizeN S.fs - (f.b.length - N)) hif rfl (by rw [hfn]; exact hG) ht (by omega) (by show min f.safe N ≤ (f.b.take N).length; have := hgood.safe f hfm; rw [List.length_take]; omega) (fun z hz => hgood.bytes f hfm z (List.mem_of_mem_take hz))
        exact ⟨rfl, X', ⟨m, G, Y2, t1⟩, t2⟩
      obtain ⟨S', hS'⟩ : ∃ S', S' = ({ S with fs := setF S.fs i { f with b := f.b.take N, safe := min f.safe N } } : DS) := ⟨_, rfl⟩
      rw [← hS'] at CT ⊢
      obtain ⟨M, hM⟩ : ∃ M, M = f.b.length := ⟨_, rfl⟩
      rw [← hM] at hb k0 hN
      have b1 : decide ((N : Int) < 0) = false := decide_eq_false (by omega)
      have b2 : decide ((M : Int) < (N : Int)) = false := decide_eq_false (by omega)
      clear hd h e hif hM h0 hf hG hsz hS' hgood hfm hYb hb
      show Calls _ _ _ _ fun e w' => ∃ X', e = .returned (.int .i64 0) ∧ DiskD w' b S' X' ∧ Did w w' X X'
      go_enter Try.func36, Try.ntmps36
      go_wp2_with (first | (go_at_call 54; refine CA.out.mono ?_; rintro e w' ⟨rfl, hw⟩; obtain rfl := hw.symm; clear hw) | (go_at_call 58; refine CT.out.mono ?_; rintro e w2 ⟨rfl, h1⟩; have HE : Hid (∃ X', DiskD w2 b S' X' ∧ Did w w2 X X') := h1; clear h1))
      go_ret
      obtain ⟨X', t1, t2⟩ := HE.out
      exact ⟨X', rfl, t1, t2⟩
  · rw [if_neg h0] at CA
    replace CA : Hid (Calls Try.prog 54 #[.pointer (some ⟨b, 0, none⟩), .string (strOfNums s)] w fun e w' => e = .returned (.tuple #[.pointer none, .int .i64 (S.err s)]) ∧ w' = w) := CA
    have e : S.cut s n = (S.err s, S) := by unfold DS.cut; rw [if_neg h0]
    rw [e]
    obtain ⟨E, hE⟩ : ∃ E, E = S.err s := ⟨_, rfl⟩
    rw [← hE] at h0 CA ⊢
    have hb : (E != 0) = true := by simpa using h0
    clear h e hcode hE
    go_enter Try.func36, Try.ntmps36
    go_wp2_with (go_at_call 54; refine CA.out.mono ?_; rintro e w' ⟨rfl, hw⟩; obtain rfl := hw.symm; clear hw)
    go_ret
    exact ⟨X, rfl, HDD.out, Did.stay (Below.refl _ _) HDD.out.lt⟩
end Go.Proofs.Ytlfmhdljldbjmaa
