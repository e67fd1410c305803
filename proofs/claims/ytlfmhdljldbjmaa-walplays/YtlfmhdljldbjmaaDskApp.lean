/-
  What the landed package disk answers and leaves: Append.
-/
import Derived.Test.YtlfmhdljldbjmaaDskPut
import Derived.Test.YtlfmhdljldbjmaaDskLay
import Derived.Test.YtlfmhdljldbjmaaMine
namespace Go.Proofs.Ytlfmhdljldbjmaa
open Go.RowKit
set_option linter.unusedVariables false

theorem bad_zero {S : DS} {s : List Int} (h : S.bad s = 0) : S.off = false ∧ mayN s = true := by
  unfold DS.bad at h
  split at h
  · omega
  · rename_i h0
    split at h
    · omega
    · rename_i h1; exact ⟨by simpa using h0, by simpa using h1⟩
theorem Row.turned {u u' : World} {a : Option Addr} {zs : List Int} {m c : Nat} {G : ByteArray → Option Nat} (h : Row u a zs) (hm : PMap u m c G) (hc : Chg u u' (fun k => k = m)) : Row u' a zs := by
  refine ⟨h.1, h.2.imp id ?_⟩
  rintro ⟨b, off, e, hx⟩
  refine ⟨b, off, e, fun j hj => ?_⟩
  have hcell := hx j hj
  have hne : b ≠ m := fun e => by
    obtain ⟨D, ⟨es, clock, hb, _⟩, _⟩ := hm
    subst e
    simp [World.cell?, hb] at hcell
  rw [cell_kept (hc.block b (lt_of_cell hcell) hne)]
  exact hcell
theorem DiskI.appended {U : World} {b m g i M n cc Z : Nat} {S : DS} {X : Foot} {G : ByteArray → Option Nat} {Y : List Int → Foot} {f : FileV} {aa : Option Addr} {zs : List Int} (h : DiskI U b S X m G Y) (hi : S.fs[i]? = some f) (hg : G (strOfNums f.name) = some g) (hd : FileD U g f (Y f.name)) (hM : M = f.b.length)
    (k0 : U.cell? ⟨g, 0, none⟩ = some (.slice aa M cc)) (hq : ∀ q, (Value.slice aa M cc).ownBlock = some q → Y f.name q ∧ q ≠ g) (hz : Z = sizeN S.fs) (hn : zs.length = n) (hby : By (f.b ++ zs)) :
    ∀ (u1 : World) (a' : Option Addr) (c' : Nat), u1.ownsRow 0 5 1 (.slice a' (M + n) c') (M + n) (bs (f.b ++ zs)) → U.grownBy u1 (Value.slice aa M cc).ownBlock → ((Value.slice a' (M + n) c').ownBlock = (Value.slice aa M cc).ownBlock ∨ (Value.slice a' (M + n) c').ownBlock = some U.heap.size) →
      u1.cell? ⟨g, 0, none⟩ = some (.slice aa M cc) ∧ u1.frozen? ⟨g, 0, none⟩ = false ∧ (u1.setCell ⟨g, 0, none⟩ (.slice a' (M + n) c')).cell? ⟨b, 2, none⟩ = some (.int .i64 (Z : Int)) ∧ u1.frozen? ⟨b, 2, none⟩ = false ∧
      ∃ X', DiskD ((u1.setCell ⟨g, 0, none⟩ (.slice a' (M + n) c')).setCell ⟨b, 2, none⟩ (.int .i64 ((Z : Int) + (n : Int)))) b { S with fs := setF S.fs i { f with b := f.b ++ zs } } X' ∧ Did U ((u1.setCell ⟨g, 0, none⟩ (.slice a' (M + n) c')).setCell ⟨b, 2, none⟩ (.int .i64 ((Z : Int) + (n : Int)))) X X' := by
  intro u1 a' c' h1 h2 h3
  have hgb : g ≠ b := (h.foot _ _ hd.own).2.1
  have b1 : u1.heap[b]? = U.heap[b]? := h2.block b (h.lt b h.own) (fun e => (h.foot _ _ (hq b e.symm).1).2.1 rfl)
  have g1 : u1.heap[g]? = U.heap[g]? := h2.block g (hd.lt g hd.own) (fun e => (hq g e.symm).2 rfl)
  have b2 := (Below.heap_setCell u1 ⟨g, 0, none⟩ (.slice a' (M + n) c') b (Ne.symm hgb)).trans b1
  refine ⟨(cell_kept g1 0).trans k0, (frozen_kept g1 0).trans (hd.free 0), ?_, (frozen_kept b1 2).trans (h.free 2), ?_⟩
  · rw [cell_kept b2, h.c2, hz]
  · obtain ⟨X', Y2, t1, t2⟩ := h.wrote (zs := zs) (n := M + n) (M := Z + n) (u1 := u1) (a' := a') (c' := c') (aa := aa) (cc := cc) hi hg hd (by rw [← hM]; exact k0) (by rw [← hM]; exact hq) h1 (by rw [← hM]; exact h2) (by rw [← hM]; exact h3) (by rw [hM, hn]) hby (by rw [hz, hn])
    rw [show ((Z : Int) + (n : Int)) = ((Z + n : Nat) : Int) by simp]
    exact ⟨X', ⟨m, G, Y2, t1⟩, t2⟩
set_option maxHeartbeats 2000000 in
set_option maxRecDepth 4000 in
theorem dappend_any (b : Nat) (S : DS) (X : Foot) (s zs : List Int) (a : Option Addr) (c n : Nat) (w : World) (h : DiskD w b S X) (hs : By s) (hl : s.length ≤ 1000000) (hz : sizeN S.fs ≤ 1099511627776) (hroom : 0 ≤ S.room ∧ S.room ≤ 1099511627776) (hfew : S.fs.length + 1 ≤ 1000000) (hn : zs.length = n) (hrow : Row w a zs) (hnil : a = none → n = 0 ∧ c = 0) (hbig : n ≤ 1099511627776) :
    Calls Try.prog 26 #[.pointer (some ⟨b, 0, none⟩), .string (strOfNums s), .slice a n c] w fun e w' => ∃ X', e = .returned (.int .i64 (S.append s zs).1) ∧ DiskD w' b (S.append s zs).2 X' ∧ Did w w' X X' := by
  have CC : Hid (Calls Try.prog 49 #[.pointer (some ⟨b, 0, none⟩), .string (strOfNums s)] w fun e w' => e = .returned (.int .i64 (S.bad s)) ∧ w' = w) := dcheck_any b S X s w h hs hl
  have HDD : Hid (DiskD w b S X) := h
  obtain ⟨m, G, Y, h⟩ := h
  have c1 := h.c1
  have c2 := h.c2
  obtain ⟨R, hR⟩ : ∃ R, R = S.room := ⟨_, rfl⟩
  obtain ⟨Z, hZ⟩ : ∃ Z, Z = sizeN S.fs := ⟨_, rfl⟩
  have HRR : Hid (R = S.room) := hR
  have HZZ : Hid (Z = sizeN S.fs) := hZ
  have HNN : Hid (zs.length = n) := hn
  have HRW : Hid (Row w a zs) := hrow
  have HNL : Hid (a = none → n = 0 ∧ c = 0) := hnil
  have HD : Hid (DiskI w b S X m G Y) := h
  have HBS : Hid (By s) := hs
  clear hrow hnil hs
  rw [← hR] at c1 hroom
  rw [← hZ] at c2 hz
  by_cases h0 : S.bad s = 0
  · obtain ⟨ho, hm⟩ := bad_zero h0
    rw [h0] at CC
    have HM : Hid (mayN s = true) := hm
    have wsub : IntKind.i64.wrap (R - (Z : Int)) = R - (Z : Int) := by rw [IntKind.wrap_i64]; omega
    by_cases hfull : R - (Z : Int) < (n : Int)
    · have bf : decide (R - (Z : Int) < (n : Int)) = true := decide_eq_true hfull
      have e : S.append s zs = (6, S) := by unfold DS.append; rw [if_neg (by rw [ho]; simp), if_neg (by rw [hm]; simp), ← hZ, ← hR, hn, if_pos hfull]
      rw [e]
      clear e h hR hZ ho hm h0 hfull
      go_enter Try.func26, Try.ntmps26
      go_wp2_with (go_at_call 49; refine CC.out.mono ?_; rintro e wz ⟨rfl, hwz⟩; obtain rfl := hwz.symm; clear hwz)
      go_quiet (fail)
      go_wp2
      go_ret
      exact ⟨X, rfl, HDD.out.past (below_drewN (Below.refl _ _) _), Did.stay (below_drewN (Below.refl _ _) _) HDD.out.lt⟩
    · have bf : decide (R - (Z : Int) < (n : Int)) = false := decide_eq_false hfull
      have e0 : S.append s zs = match findN S.fs s with | none => (0, { S with fs := layN ⟨s, zs, 0⟩ S.fs }) | some i => (0, { S with fs := setF S.fs i { fileAt S.fs i with b := (fileAt S.fs i).b ++ zs } }) := by unfold DS.append; rw [if_neg (by rw [ho]; simp), if_neg (by rw [hm]; simp), ← hZ, ← hR, hn, if_neg hfull]; rfl
      rw [e0]
      rcases h.at_name s HBS.out with ⟨hf, hG⟩ | ⟨i, f, g, hf, hif, hfn, hG, hd⟩
      · rw [hf]
        clear e0 hR hZ ho hm h0 h
        have HF : Hid (findN S.fs s = none ∧ G (strOfNums s) = none) := ⟨hf, hG⟩
        clear hf hG
        show Calls Try.prog 26 #[.pointer (some ⟨b, 0, none⟩), .string (strOfNums s), .slice a n c] w fun e w' => ∃ X', e = .returned (.int .i64 0) ∧ DiskD w' b ({ S with fs := layN ⟨s, zs, 0⟩ S.fs } : DS) X' ∧ Did w w' X X'
        obtain ⟨S', hS'⟩ : ∃ S', S' = ({ S with fs := layN ⟨s, zs, 0⟩ S.fs } : DS) := ⟨_, rfl⟩
        have HS' : Hid (S' = ({ S with fs := layN ⟨s, zs, 0⟩ S.fs } : DS)) := hS'
        rw [← hS']
        clear hS'
        go_enter Try.func26, Try.ntmps26
        go_wp2_with (go_at_call 49; refine CC.out.mono ?_; rintro e wz ⟨rfl, hwz⟩; obtain rfl := hwz.symm; clear hwz)
        go_quiet (fail)
        obtain ⟨U, hU⟩ : ∃ U, U = w.drewN nq := ⟨_, rfl⟩
        have HBU : Hid (Below w.heap.size w U ∧ U.heap.size = w.heap.size) := by rw [hU]; exact ⟨below_drewN (Below.refl _ _) nq, rfl⟩
        rw [← hU]
        clear hU c1 c2
        have HDU : Hid (DiskI U b S X m G Y) := HD.out.past HBU.out.1
        have d0 := HDU.out.c0
        have HL := HDU.out.look s hl
        rw [HF.out.2] at HL
        replace HL : (Instr.lookup 59 (.map (some m)) (.string (strOfNums s)) false).run Try.prog U = .ok (.pointer none) U := HL
        obtain ⟨V, hV⟩ : ∃ V, V = U.alloc (.cells #[.slice none 0 0, .int .i64 0] 81) := ⟨_, rfl⟩
        have HVB : Hid (Below U.heap.size U V) := by rw [hV]; exact (Below.refl _ _).alloc (Nat.le_refl _) _
        have hnew : V.heap[U.heap.size]? = some (.cells #[.slice none 0 0, .int .i64 0] 81 (0, 0)) := by rw [hV]; exact heap_alloc_new U _
        have hVs : V.heap.size = U.heap.size + 1 := by rw [hV]; simp
        have HVI : Hid (DiskI V b S X m G Y) := HDU.out.past HVB.out
        have CP : Hid (Calls Try.prog 50 #[.pointer (some ⟨b, 0, none⟩), .string (strOfNums s), .pointer (some ⟨U.heap.size, 0, none⟩)] V fun e w' => e = .returned (.tuple #[]) ∧ Row w' a zs ∧ w'.cell? ⟨U.heap.size, 0, none⟩ = some (.slice none 0 0) ∧ ∃ X2 Y2, DiskI w' b { S with fs := layN ⟨s, [], 0⟩ S.fs } X2 m (putG G (strOfNums s) (some U.heap.size)) Y2 ∧ Did U w' X X2 ∧ FileD w' U.heap.size ⟨s, [], 0⟩ (Y2 s)) := by
          refine (dput_any b m S.fs.length U.heap.size G (strOfNums s) V HVI.out.c0 HVI.out.map (by omega) (by rw [strOfNums_size]; exact hl)).mono ?_
          rintro e w2 ⟨rfl, hpm, hch⟩
          rw [HF.out.2] at hpm
          replace hpm : PMap w2 m (S.fs.length + 1) (putG G (strOfNums s) (some U.heap.size)) := hpm
          have hgm : U.heap.size ≠ m := by have := HDU.out.lt m HDU.out.xm; omega
          have hgk : w2.heap[U.heap.size]? = some (.cells #[.slice none 0 0, .int .i64 0] 81 (0, 0)) := (hch.block _ (by omega) hgm).trans hnew
          have hd2 : FileD w2 U.heap.size ⟨s, [], 0⟩ (fun k => k = U.heap.size) := ⟨rfl, fun k e => by have := hch.size; omega, fun j => by simp [World.frozen?, hgk], ⟨none, 0, by simp [World.cell?, hgk], World.ownsRow_nil _ _ _ _, fun q e => by cases e⟩, by simp [World.cell?, hgk]⟩
          obtain ⟨X2, Y2, t1, t2, t3⟩ := HDU.out.laid HM.out HF.out.1 ((Chg.of_below HVB.out _).trans hch (fun _ _ x => x)) (Nat.le_refl _) hd2 hpm
          exact ⟨rfl, ((HRW.out.below HBU.out.1 (Nat.le_refl _)).below HVB.out (Nat.le_refl _)).turned HVI.out.map hch, by simp [World.cell?, hgk], X2, Y2, t1, t2, t3⟩
        obtain ⟨M, hM⟩ : ∃ M : Nat, M = 0 := ⟨_, rfl⟩
        have HM0 : Hid (M = 0) := hM
        have HW : Hid (∀ (u1 w2 : World) (a' : Option Addr) (c' : Nat), (∃ X2 Y2, DiskI w2 b { S with fs := layN ⟨s, [], 0⟩ S.fs } X2 m (putG G (strOfNums s) (some U.heap.size)) Y2 ∧ Did U w2 X X2 ∧ FileD w2 U.heap.size ⟨s, [], 0⟩ (Y2 s)) → w2.cell? ⟨U.heap.size, 0, none⟩ = some (.slice none M 0) → u1.ownsRow 0 5 1 (.slice a' (M + n) c') (M + n) (bs ([] ++ zs)) → w2.grownBy u1 (Value.slice none M 0).ownBlock → ((Value.slice a' (M + n) c').ownBlock = (Value.slice none M 0).ownBlock ∨ (Value.slice a' (M + n) c').ownBlock = some w2.heap.size) →
            u1.cell? ⟨U.heap.size, 0, none⟩ = some (.slice none M 0) ∧ u1.frozen? ⟨U.heap.size, 0, none⟩ = false ∧ (u1.setCell ⟨U.heap.size, 0, none⟩ (.slice a' (M + n) c')).cell? ⟨b, 2, none⟩ = some (.int .i64 (Z : Int)) ∧ u1.frozen? ⟨b, 2, none⟩ = false ∧
            ∃ X', DiskD ((u1.setCell ⟨U.heap.size, 0, none⟩ (.slice a' (M + n) c')).setCell ⟨b, 2, none⟩ (.int .i64 ((Z : Int) + (n : Int)))) b S' X' ∧ Did w ((u1.setCell ⟨U.heap.size, 0, none⟩ (.slice a' (M + n) c')).setCell ⟨b, 2, none⟩ (.int .i64 ((Z : Int) + (n : Int)))) X X') := by
          rintro u1 w2 a' c' ⟨X2, Y2, t1, t2, t3⟩ k0 h1 h2 h3
          obtain ⟨i, hi1, hi2⟩ := lay_at ⟨s, [], 0⟩ ⟨s, zs, 0⟩ rfl S.fs
          obtain ⟨e1, e2, e3, e4, X', y1, y2⟩ := t1.appended (zs := zs) (Z := Z) (f := ⟨s, [], 0⟩) hi1 (putG_same _ _ _) t3 HM0.out k0 (fun q e => by cases e) (by show Z = sizeN (layN ⟨s, [], 0⟩ S.fs); rw [lay_size, HZZ.out]; simp) HNN.out (fun z hz => HRW.out.bytes z (by simpa using hz)) u1 a' c' h1 h2 h3
          have he : ({ S with fs := setF (layN ⟨s, [], 0⟩ S.fs) i ⟨s, [] ++ zs, 0⟩ } : DS) = S' := by rw [HS'.out, List.nil_append, hi2]
          have y1' : DiskD ((u1.setCell ⟨U.heap.size, 0, none⟩ (.slice a' (M + n) c')).setCell ⟨b, 2, none⟩ (.int .i64 ((Z : Int) + (n : Int)))) b ({ S with fs := setF (layN ⟨s, [], 0⟩ S.fs) i ⟨s, [] ++ zs, 0⟩ } : DS) X' := y1
          rw [he] at y1'
          have y3 := t2.trans y2
          exact ⟨e1, e2, e3, e4, X', y1', (Chg.of_below HBU.out.1 X).trans y3.chg (fun _ _ x => x), fun k x => ⟨by rcases (y3.new k x).1 with y | y; exact .inl y; exact .inr (by rw [← HBU.out.2]; exact y), (y3.new k x).2⟩⟩
        clear hM hVs hnew
        have HBZ : Hid (∀ z ∈ ([] : List Int), 0 ≤ z ∧ z ≤ 255) := fun z hz => by cases hz
        have HVE : Hid (V = U.alloc (.cells #[.slice none 0 0, .int .i64 0] 81)) := hV
        go_wp2_with (first | (go_at_call 50; rw [← hV]; refine CP.out.mono ?_; rintro e w2 ⟨rfl, r1, r2, r3⟩; have HR2 : Hid (Row w2 a zs) := r1; have H3 : Hid (∃ X2 Y2, DiskI w2 b { S with fs := layN ⟨s, [], 0⟩ S.fs } X2 m (putG G (strOfNums s) (some U.heap.size)) Y2 ∧ Did U w2 X X2 ∧ FileD w2 U.heap.size ⟨s, [], 0⟩ (Y2 s)) := r3; rw [← HM0.out] at r2; have k2 : w2.cell? ⟨U.heap.size, 0, none⟩ = some (.slice none M 0) := (by rw [HM0.out] at r2 ⊢; exact r2); clear r1 r2 r3) | (have hgo := HR2.out; clear hgo; at_builtin; refine wpList_append_at rfl _ _ rfl _ M [] zs rfl (by rw [HM0.out]; exact World.ownsRow_nil _ _ _ _) _ _ _ rfl HR2.out HNN.out HNL.out HBZ.out (by rw [HM0.out]; omega) ?_; intro a' c' u1 h1 h2 h3; obtain ⟨e1, e2, e3, e4, e5⟩ := HW.out u1 _ a' c' H3.out k2 h1 h2 h3; have HE : Hid (∃ X', DiskD ((u1.setCell ⟨U.heap.size, 0, none⟩ (.slice a' (M + n) c')).setCell ⟨b, 2, none⟩ (.int .i64 ((Z : Int) + (n : Int)))) b S' X' ∧ Did w ((u1.setCell ⟨U.heap.size, 0, none⟩ (.slice a' (M + n) c')).setCell ⟨b, 2, none⟩ (.int .i64 ((Z : Int) + (n : Int)))) X X') := e5; clear h1 h2 h3 e5))
        go_ret
        obtain ⟨X', t1, t2⟩ := HE.out
        exact ⟨X', rfl, t1, t2⟩
      · rw [hf]
        show Calls Try.prog 26 #[.pointer (some ⟨b, 0, none⟩), .string (strOfNums s), .slice a n c] w fun e w' => ∃ X', e = .returned (.int .i64 0) ∧ DiskD w' b ({ S with fs := setF S.fs i { fileAt S.fs i with b := (fileAt S.fs i).b ++ zs } } : DS) X' ∧ Did w w' X X'
        rw [file_at' hif]
        clear e0 hR hZ ho hm h0 h
        have HF : Hid (S.fs[i]? = some f ∧ f.name = s ∧ G (strOfNums s) = some g) := ⟨hif, hfn, hG⟩
        have hble : f.b.length ≤ Z := by rw [HZZ.out]; exact size_one (List.mem_of_getElem? hif)
        have HBY : Hid (By f.b) := HD.out.good.bytes f (List.mem_of_getElem? hif)
        clear hf hG hif hfn hd
        obtain ⟨S', hS'⟩ : ∃ S', S' = ({ S with fs := setF S.fs i { f with b := f.b ++ zs } } : DS) := ⟨_, rfl⟩
        have HS' : Hid (S' = ({ S with fs := setF S.fs i { f with b := f.b ++ zs } } : DS)) := hS'
        rw [← hS']
        clear hS'
        go_enter Try.func26, Try.ntmps26
        go_wp2_with (go_at_call 49; refine CC.out.mono ?_; rintro e wz ⟨rfl, hwz⟩; obtain rfl := hwz.symm; clear hwz)
        go_quiet (fail)
        obtain ⟨U, hU⟩ : ∃ U, U = w.drewN nq := ⟨_, rfl⟩
        have HBU : Hid (Below w.heap.size w U ∧ U.heap.size = w.heap.size) := by rw [hU]; exact ⟨below_drewN (Below.refl _ _) nq, rfl⟩
        rw [← hU]
        clear hU c1 c2
        have HDU : Hid (DiskI U b S X m G Y) := HD.out.past HBU.out.1
        have d0 := HDU.out.c0
        have HL := HDU.out.look s hl
        rw [HF.out.2.2] at HL
        replace HL : (Instr.lookup 59 (.map (some m)) (.string (strOfNums s)) false).run Try.prog U = .ok (.pointer (some ⟨g, 0, none⟩)) U := HL
        have HFD : Hid (FileD U g f (Y f.name)) := by
          obtain ⟨q, e1, e2⟩ := HDU.out.file f (List.mem_of_getElem? HF.out.1)
          rw [HF.out.2.1, HF.out.2.2] at e1
          injection e1 with e1
          rw [e1]; exact e2
        obtain ⟨aa, cc, k0, hown, hq⟩ := HFD.out.c0
        obtain ⟨M, hM⟩ : ∃ M, M = f.b.length := ⟨_, rfl⟩
        have HM' : Hid (M = f.b.length) := hM
        rw [← hM] at k0 hown hble
        have HO : Hid (U.ownsRow 0 5 1 (.slice aa M cc) M (bs f.b)) := hown
        have HQ : Hid (∀ q, (Value.slice aa f.b.length cc).ownBlock = some q → Y f.name q ∧ q ≠ g) := hq
        have HRU : Hid (Row U a zs) := HRW.out.below HBU.out.1 (Nat.le_refl _)
        have HW : Hid (∀ (u1 : World) (a' : Option Addr) (c' : Nat), u1.ownsRow 0 5 1 (.slice a' (M + n) c') (M + n) (bs (f.b ++ zs)) → U.grownBy u1 (Value.slice aa M cc).ownBlock → ((Value.slice a' (M + n) c').ownBlock = (Value.slice aa M cc).ownBlock ∨ (Value.slice a' (M + n) c').ownBlock = some U.heap.size) →
            u1.cell? ⟨g, 0, none⟩ = some (.slice aa M cc) ∧ u1.frozen? ⟨g, 0, none⟩ = false ∧ (u1.setCell ⟨g, 0, none⟩ (.slice a' (M + n) c')).cell? ⟨b, 2, none⟩ = some (.int .i64 (Z : Int)) ∧ u1.frozen? ⟨b, 2, none⟩ = false ∧
            ∃ X', DiskD ((u1.setCell ⟨g, 0, none⟩ (.slice a' (M + n) c')).setCell ⟨b, 2, none⟩ (.int .i64 ((Z : Int) + (n : Int)))) b S' X' ∧ Did w ((u1.setCell ⟨g, 0, none⟩ (.slice a' (M + n) c')).setCell ⟨b, 2, none⟩ (.int .i64 ((Z : Int) + (n : Int)))) X X') := by
          intro u1 a' c' h1 h2 h3
          obtain ⟨e1, e2, e3, e4, X', t1, t2⟩ := HDU.out.appended (zs := zs) (Z := Z) HF.out.1 (by rw [HF.out.2.1]; exact HF.out.2.2) HFD.out HM'.out k0 (by rw [HM'.out]; exact HQ.out) HZZ.out HNN.out (fun z hz => by
            rcases List.mem_append.1 hz with x | x
            · exact HBY.out z x
            · exact HRW.out.bytes z x) u1 a' c' h1 h2 h3
          rw [HS'.out]
          exact ⟨e1, e2, e3, e4, X', t1, (Chg.of_below HBU.out.1 X).trans t2.chg (fun _ _ x => x), fun k x => ⟨by rcases (t2.new k x).1 with y | y; exact .inl y; exact .inr (by rw [← HBU.out.2]; exact y), (t2.new k x).2⟩⟩
        clear hown hq hM
        go_wp2_with (at_builtin; refine wpList_append_at rfl _ _ rfl _ M f.b zs rfl HO.out _ _ _ rfl HRU.out HNN.out HNL.out HBY.out (by omega) ?_; intro a' c' u1 h1 h2 h3; obtain ⟨e1, e2, e3, e4, e5⟩ := HW.out u1 a' c' h1 h2 h3; have HE : Hid (∃ X', DiskD ((u1.setCell ⟨g, 0, none⟩ (.slice a' (M + n) c')).setCell ⟨b, 2, none⟩ (.int .i64 ((Z : Int) + (n : Int)))) b S' X' ∧ Did w ((u1.setCell ⟨g, 0, none⟩ (.slice a' (M + n) c')).setCell ⟨b, 2, none⟩ (.int .i64 ((Z : Int) + (n : Int)))) X X') := e5; clear h1 h2 h3 e5)
        go_ret
        obtain ⟨X', t1, t2⟩ := HE.out
        exact ⟨X', rfl, t1, t2⟩
  · have e : S.append s zs = (S.bad s, S) := by
      unfold DS.append DS.bad
      unfold DS.bad at h0
      split
      · rfl
      · rename_i h1
        rw [if_neg h1] at h0
        split
        · rfl
        · rename_i h2
          rw [if_neg h2] at h0
          exact absurd rfl h0
    rw [e]
    obtain ⟨E, hE⟩ : ∃ E, E = S.bad s := ⟨_, rfl⟩
    rw [← hE] at h0 CC ⊢
    have hb : (E != 0) = true := by simpa using h0
    clear h e hE h0
    go_enter Try.func26, Try.ntmps26
    go_wp2_with (go_at_call 49; refine CC.out.mono ?_; rintro e wz ⟨rfl, hwz⟩; obtain rfl := hwz.symm; clear hwz)
    go_ret
    exact ⟨X, rfl, HDD.out, Did.stay (Below.refl _ _) HDD.out.lt⟩
end Go.Proofs.Ytlfmhdljldbjmaa
