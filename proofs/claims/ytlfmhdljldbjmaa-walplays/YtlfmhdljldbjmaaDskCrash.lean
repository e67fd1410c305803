/-
  What the landed package disk leaves: Crash.
-/
import Derived.Test.YtlfmhdljldbjmaaDskTear
namespace Go.Proofs.Ytlfmhdljldbjmaa
open Go.RowKit
set_option linter.unusedVariables false

/-- The files while a crash goes over them, in whatever order: those that are left are as they were. -/
def mixL (K : Nat) (t : Int) (left : ByteArray → Bool) (fs : List FileV) : List FileV := fs.map (fun f => if left (strOfNums f.name) = true then f else crashF K t f)
theorem crash_name (K : Nat) (t : Int) (f : FileV) : (crashF K t f).name = f.name := rfl
theorem crash_len (k : Nat) (t : Int) (f : FileV) (h : f.safe ≤ f.b.length) : (crashF k t f).b.length ≤ f.b.length := by
  unfold crashF
  simp only
  split
  · rename_i h1; simp; omega
  · simp; omega
theorem crash_safe (k : Nat) (t : Int) (f : FileV) : (crashF k t f).safe ≤ (crashF k t f).b.length := Nat.le_refl _
theorem crash_by (k : Nat) (t : Int) (f : FileV) (h : By f.b) (ht : 0 ≤ t ∧ t ≤ 255) : By (crashF k t f).b := by
  unfold crashF
  simp only
  split
  · intro z hz
    rcases List.mem_append.1 hz with x | x
    · exact h z (List.mem_of_mem_take x)
    · simp at x
      rw [x]
      exact xor_range _ _ (by simpa [List.getD] using at_byte h (f.safe + k)) ht
  · intro z hz
    exact h z (List.mem_of_mem_take hz)
theorem mix_len' (K : Nat) (t : Int) (left : ByteArray → Bool) (fs : List FileV) : (mixL K t left fs).length = fs.length := by simp [mixL]
theorem mix_start (K : Nat) (t : Int) (left : ByteArray → Bool) (fs : List FileV) (h : ∀ f ∈ fs, left (strOfNums f.name) = true) : mixL K t left fs = fs := by
  unfold mixL
  conv => rhs; rw [← List.map_id fs]
  exact List.map_congr_left (fun f hf => by rw [if_pos (h f hf)]; rfl)
theorem mix_end (K : Nat) (t : Int) (left : ByteArray → Bool) (fs : List FileV) (h : ∀ x, left x = false) : mixL K t left fs = fs.map (crashF K t) := by
  unfold mixL
  exact List.map_congr_left (fun f hf => by rw [if_neg (by rw [h]; simp)])
theorem mix_size' (K : Nat) (t : Int) (left : ByteArray → Bool) : ∀ (fs : List FileV), (∀ f ∈ fs, f.safe ≤ f.b.length) → sizeN (mixL K t left fs) ≤ sizeN fs
  | [], _ => Nat.le_refl _
  | f :: r, h => by
    have ih := mix_size' K t left r (fun x hx => h x (List.mem_cons_of_mem _ hx))
    have hc := crash_len K t f (h f List.mem_cons_self)
    simp only [mixL, List.map_cons, sizeN] at ih ⊢
    split <;> omega
theorem mix_step {K : Nat} {t : Int} {left : ByteArray → Bool} {fs : List FileV} {i : Nat} {f : FileV} {x : ByteArray} (hd : Dist fs) (hb : ∀ f ∈ fs, By f.name) (hi : (mixL K t left fs)[i]? = some f) (hx : x = strOfNums f.name) (hl : left x = true) :
    fs[i]? = some f ∧ setF (mixL K t left fs) i (crashF K t f) = mixL K t (fun z => left z && !decide (z = x)) fs := by
  have hi0 := hi
  unfold mixL at hi
  rw [List.getElem?_map] at hi
  cases hfi : fs[i]? with
  | none => rw [hfi] at hi; cases hi
  | some f0 =>
    rw [hfi] at hi
    have hi1 : (if left (strOfNums f0.name) = true then f0 else crashF K t f0) = f := Option.some.inj hi
    have hn : f0.name = f.name := by rw [← hi1]; split <;> rfl
    have e0 : f0 = f := by rw [← hi1, hn, ← hx, if_pos hl]
    subst e0
    refine ⟨rfl, ?_⟩
    unfold setF
    apply List.ext_getElem?
    intro j
    by_cases hj : i = j
    · subst hj
      have hlt : i < (mixL K t left fs).length := (List.getElem?_eq_some_iff.1 hi0).1
      rw [List.getElem?_set_self hlt]
      unfold mixL
      rw [List.getElem?_map, hfi]
      simp [hx]
    · rw [List.getElem?_set_ne hj]
      unfold mixL
      rw [List.getElem?_map, List.getElem?_map]
      cases hfj : fs[j]? with
      | none => rfl
      | some y =>
        have hyn : y.name ≠ f0.name := fun e => by
          have hm1 := List.mem_of_getElem? hfi
          have hil : i < fs.length := (List.getElem?_eq_some_iff.1 hfi).1
          have hjl : j < fs.length := (List.getElem?_eq_some_iff.1 hfj).1
          have hnd := dist_names.1 hd
          have e1 : (fs.map (·.name))[i]? = some f0.name := by rw [List.getElem?_map, hfi]; rfl
          have e2 : (fs.map (·.name))[j]? = some f0.name := by rw [List.getElem?_map, hfj]; simp [e]
          exact hj ((List.getElem?_inj (by simpa using hil) hnd).1 (e1.trans e2.symm))
        have hne : strOfNums y.name ≠ x := fun e => hyn (str_inj (hb y (List.mem_of_getElem? hfj)) (hb f0 (List.mem_of_getElem? hfi)) (congrArg ByteArray.toList (e.trans hx)))
        simp [hne]
/-- What a crash over the files has reached. -/
structure Going (w wr : World) (b m r : Nat) (S : DS) (K : Nat) (t : Int) (X : Foot) (G : ByteArray → Option Nat) (left : ByteArray → Bool) (cnt : Nat) : Prop where
  rg : PRange wr m r S.fs.length G left cnt
  st : ∃ X' Y', DiskI wr b { S with off := true, fs := mixL K t left S.fs } X' m G Y' ∧ Did w wr X X' ∧ ¬ X' r
theorem Going.next {w wr w1 : World} {b m r : Nat} {S : DS} {K cnt : Nat} {t : Int} {X : Foot} {G : ByteArray → Option Nat} {left : ByteArray → Bool} (h : Going w wr b m r S K t X G left cnt) (hc : Chg wr w1 (fun k => k = r)) (hw : w.heap.size ≤ r) :
    ∃ X' Y', DiskI w1 b { S with off := true, fs := mixL K t left S.fs } X' m G Y' ∧ Did w w1 X X' ∧ ¬ X' r := by
  obtain ⟨X', Y', h1, h2, h3⟩ := h.st
  refine ⟨X', Y', h1.kept hc.size (fun k x => hc.block k (h1.lt k x) (fun e => h3 (e ▸ x))), ⟨h2.chg.trans hc (fun j hj e => by omega), fun k x => ⟨(h2.new k x).1, Nat.lt_of_lt_of_le (h2.new k x).2 hc.size⟩⟩, h3⟩
set_option maxHeartbeats 2000000 in
set_option maxRecDepth 4000 in
theorem dcrash_any (b : Nat) (S : DS) (X : Foot) (keep torn : Int) (w : World) (h : DiskD w b S X) (hz : sizeN S.fs ≤ 1099511627776) (hk0 : -9223372036854775808 ≤ keep) (hk1 : keep ≤ 9223372036854775807) (ht : 0 ≤ torn ∧ torn ≤ 255) :
    Calls Try.prog 16 #[.pointer (some ⟨b, 0, none⟩), .int .i64 keep, .int .u8 torn] w fun e w' => e = .returned (.tuple #[]) ∧ ∃ X', DiskD w' b (S.crash keep torn) X' ∧ Did w w' X X' := by
  obtain ⟨m, G, Y, h⟩ := h
  have c0 := h.c0
  have c3 := h.c3
  have f3 := h.free 3
  have d0 : (w.setCell ⟨b, 3, none⟩ (.bool false)).cell? ⟨b, 0, none⟩ = some (.map (some m)) := (set_other _ _ _ _ _ (by omega)).trans c0
  have HD : Hid (DiskI w b S X m G Y) := h
  have HS1 : Hid (DiskI (w.setCell ⟨b, 3, none⟩ (.bool false)) b { S with off := true } X m G Y ∧ Did w (w.setCell ⟨b, 3, none⟩ (.bool false)) X X) :=
    h.power (S' := { S with off := true }) (u' := w.setCell ⟨b, 3, none⟩ (.bool false)) ⟨rfl, rfl⟩ (Chg.set (X := fun k => k = b) w ⟨b, 3, none⟩ _ rfl) d0 ((set_other _ _ _ _ _ (by omega)).trans h.c1) ((set_other _ _ _ _ _ (by omega)).trans h.c2) (World.cell?_setCell_same _ _ _ c3) ((set_other _ _ _ _ _ (by omega)).trans h.c4) (fun j => by rw [World.frozen?_setCell]; exact h.free j)
  obtain ⟨P, hP⟩ : ∃ P, P = !S.off := ⟨_, rfl⟩
  rw [← hP] at c3
  obtain ⟨N, hN⟩ : ∃ N, N = S.fs.length := ⟨_, rfl⟩
  have HN : Hid (N = S.fs.length) := hN
  have HPM : Hid (PMap (w.setCell ⟨b, 3, none⟩ (.bool false)) m N G) := by rw [hN]; exact HS1.out.1.map
  have HG0 : Hid (∀ f ∈ S.fs, (G (strOfNums f.name)).isSome = true) := fun f hf => by obtain ⟨g, e, _⟩ := h.file f hf; rw [e]; rfl
  have HLT : Hid (∀ k, X k → k < w.heap.size) := h.lt
  have HNM : Hid (∀ f ∈ S.fs, By f.name) := fun f hf => may_by _ (h.good.names f hf)
  have HDI : Hid (Dist S.fs) := h.dist
  have HSF : Hid (∀ f ∈ S.fs, f.safe ≤ f.b.length) := h.good.safe
  obtain ⟨K, hK⟩ : ∃ K, K = keep.toNat := ⟨_, rfl⟩
  have HK : Hid (K = keep.toNat) := hK
  clear h hP hN hK
  go_enter Try.func16, Try.ntmps16
  go_wp2_with (first | (at_range; refine wpList_range_ptr rfl _ _ rfl 73 Try.underlying59 m N G rfl HPM.out ?_; intro w0 hr0 hb0 hs0) | go_in)
  go_frame
  obtain ⟨r, hr⟩ : ∃ r, r = (w.setCell ⟨b, 3, none⟩ (.bool false)).heap.size := ⟨_, rfl⟩
  have HR : Hid (r = w.heap.size) := by show _ = _; rw [hr]; exact World.size_setCell _ _ _
  have HB0 : Hid (Below r (w.setCell ⟨b, 3, none⟩ (.bool false)) w0) := by rw [hr]; exact hb0
  rw [← hr] at hr0 ⊢
  have HG : Hid (Going w w0 b m r S K torn X G (fun x => (G x).isSome) N) := by
    refine ⟨by rw [← HN.out]; exact hr0, X, Y, ?_, ?_, fun x => by have := HLT.out r x; have := HR.out; omega⟩
    · rw [mix_start K torn (fun x => (G x).isSome) S.fs HG0.out]
      exact HS1.out.1.past (by rw [← hr]; exact HB0.out)
    · exact HS1.out.2.trans (Did.stay (by rw [← hr]; exact HB0.out) HS1.out.1.lt)
  clear hr hb0 hs0 hr0
  go_loopw [7] (fun _ wr => Hid (∃ left cnt, Going w wr b m r S K torn X G left cnt)) (fun _ wr => wr.rangeLeft m r)
  case atStart => exact ⟨_, _, HG.out⟩
  case round =>
    obtain ⟨left, cnt, hg⟩ := hrel
    have HGO : Hid (Going w wr b m r S K torn X G left cnt) := hg
    have HRG : Hid (PRange wr m r N G left cnt) := by rw [HN.out]; exact hg.rg
    clear hg
    go_wp2_with (first | (at_next; refine wpList_next_ptr rfl _ rfl m r N G left cnt rfl HRG.out ?_ ?_) | go_in)
    · intro hl0
      have HL0 : Hid (∀ x, left x = false) := hl0
      clear hl0
      go_wp2
      go_end0
      obtain ⟨X', Y', h1, h2, _⟩ := HGO.out.st
      rw [mix_end K torn left S.fs HL0.out, HK.out] at h1
      exact ⟨rfl, X', ⟨m, G, Y', h1⟩, h2⟩
    · intro x g w1 cnt1 hlx hgx hrg1 hlt hch1 hs1 hen
      have HX : Hid (left x = true ∧ G x = some g ∧ PRange w1 m r N G (fun z => left z && !decide (z = x)) cnt1 ∧ cnt1 < cnt) := ⟨hlx, hgx, hrg1, hlt⟩
      have CT : Hid (Calls Try.prog 42 #[.pointer (some ⟨b, 0, none⟩), .pointer (some ⟨g, 0, none⟩), .int .i64 keep, .int .u8 torn] w1 fun e w' => e = .returned (.tuple #[]) ∧ Going w w' b m r S K torn X G (fun z => left z && !decide (z = x)) cnt1) := by
        obtain ⟨X', Y', h1, h2, h3⟩ := HGO.out.next hch1 (by rw [HR.out]; exact Nat.le_refl _)
        obtain ⟨f, hf, hxf⟩ := h1.only x g hgx
        obtain ⟨i, hi⟩ := List.getElem?_of_mem hf
        obtain ⟨hi0, hstep⟩ := mix_step HDI.out HNM.out hi hxf hlx
        obtain ⟨g', hg', hfd⟩ := h1.file f hf
        rw [← hxf, hgx] at hg'
        obtain rfl : g = g' := Option.some.inj hg'
        have hsz : sizeN (mixL K torn left S.fs) ≤ 1099511627776 := Nat.le_trans (mix_size' K torn left S.fs HSF.out) hz
        have hfz : f.b.length ≤ sizeN (mixL K torn left S.fs) := size_one hf
        refine (dtear_any b g (sizeN (mixL K torn left S.fs)) f (Y' f.name) keep torn w1 hfd (fun y => (h1.foot _ _ y).2.1 rfl) (h1.lt b h1.own) h1.c2 (h1.free 2) hfz hsz (h1.good.safe f hf) (h1.good.bytes f hf) ht hk0 hk1).mono ?_
        rintro e w2 ⟨rfl, Y2, ht2⟩
        rw [← HK.out] at ht2
        have hss : sizeN (setF (mixL K torn left S.fs) i (crashF K torn f)) + f.b.length = sizeN (mixL K torn left S.fs) + (crashF K torn f).b.length := setF_size (f' := crashF K torn f) hi
        obtain ⟨X2, Y3, t1, t2, t3⟩ := h1.of_turned hi (crash_name K torn f) (by rw [← hxf]; exact hgx) ht2 (by show _ = sizeN (setF (mixL K torn left S.fs) i (crashF K torn f)); omega) (crash_safe K torn f) (crash_by K torn f (h1.good.bytes f hf) ht)
        have t1' : DiskI w2 b { S with off := true, fs := setF (mixL K torn left S.fs) i (crashF K torn f) } X2 m G Y3 := t1
        rw [hstep] at t1'
        have hrl : r < w1.heap.size := hrg1.lt
        refine ⟨rfl, ⟨by rw [← HN.out]; exact hrg1.kept t3 (t2.chg.block r hrl h3), X2, Y3, t1', h2.trans t2, fun y => ?_⟩⟩
        rcases (t2.new r y).1 with z | z
        · exact h3 z
        · omega
      clear hlx hgx hrg1 hlt hch1 hs1
      go_wp2_with (first | (go_at_call 42; refine CT.out.mono ?_; rintro e w2 ⟨rfl, hg2⟩; have HG2 : Hid (Going w w2 b m r S K torn X G (fun z => left z && !decide (z = x)) cnt1) := hg2; clear hg2) | go_in)
      exact ⟨⟨_, _, HG2.out⟩, by rw [HG2.out.rg.left_eq, HGO.out.rg.left_eq]; exact HX.out.2.2.2⟩
end Go.Proofs.Ytlfmhdljldbjmaa
