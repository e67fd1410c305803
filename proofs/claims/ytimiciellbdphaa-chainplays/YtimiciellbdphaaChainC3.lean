/-
  What Trim of the landed chains answers and leaves.
-/
import Derived.Test.YtimiciellbdphaaChainC2
namespace Go.Proofs.Ytimiciellbdphaa
open Go.RowKit
set_option linter.unusedVariables false

theorem set_ty {w : World} {p o : Nat} {cs : Array Value} {T : TypeId} {fz : Nat × Nat} {v : Value} (h : w.heap[p]? = some (.cells cs T fz)) : (w.setCell ⟨p, o, none⟩ v).heap[p]? = some (.cells (cs.setIfInBounds o v) T fz) := by
  simp [World.setCell, Array.getElem?_modify, h]
/-- A chain whose list has turned. -/
theorem ChD.turn {u w4 : World} {p N' c' : Nat} {L M : List Ver} {X : Foot} {v : Value} {a' : Option Addr} (h : ChD u p L X) (hv : ∀ k, v.ownBlock = some k → X k ∧ k ≠ p) (hg : u.grownBy w4 v.ownBlock) (hM : Chn M) (hN : M.length = N')
    (hrow : w4.ownsRow 0 31 4 (.slice a' N' c') N' (M.flatMap encC)) (hblk : ∀ k, (Value.slice a' N' c').ownBlock = some k → v.ownBlock = some k ∨ u.heap.size ≤ k) :
    ∃ X', ChD (w4.setCell ⟨p, 0, none⟩ (.slice a' N' c')) p M X' ∧ Did u (w4.setCell ⟨p, 0, none⟩ (.slice a' N' c')) X X' := by
  subst hN
  have hp := h.lt p h.own
  have hpk : w4.heap[p]? = u.heap[p]? := hg.block p hp (fun e => (hv p e.symm).2 rfl)
  obtain ⟨a, c, h1, h2, h3⟩ := h.list
  refine ⟨fun k => (X k ∨ u.heap.size ≤ k) ∧ k < w4.heap.size, ⟨⟨.inl h.own, Nat.lt_of_lt_of_le hp hg.size⟩, fun k hk => by rw [World.size_setCell]; exact hk.2, hM, ⟨a', c', ?_, ?_, ?_⟩, ?_, ?_⟩, ?_⟩
  · exact World.cell?_setCell_same _ _ _ ((cell_kept hpk 0).trans h1)
  · refine crow_kept hrow (fun k e => Below.heap_setCell _ _ _ k (fun e2 => ?_))
    rcases hblk k e with e3 | e3
    · exact (hv k e3).2 e2
    · have : k = p := e2
      omega
  · intro k e
    have hlt := (hrow.lt k e).2
    rcases hblk k e with e3 | e3
    · exact ⟨⟨.inl (hv k e3).1, hlt⟩, (hv k e3).2⟩
    · exact ⟨⟨.inr e3, hlt⟩, by omega⟩
  · rw [World.frozen?_setCell]
    exact (frozen_kept hpk 0).trans h.free
  · obtain ⟨cs, fz, hcs⟩ := h.ty
    exact ⟨_, _, set_ty (hpk.trans hcs)⟩
  · refine ⟨(Chg.of_grown hg (X := X) (fun k e => (hv k e).1)).trans (Chg.set w4 ⟨p, 0, none⟩ _ h.own) (fun _ _ x => x), fun k hk => ⟨hk.1, by rw [World.size_setCell]; exact hk.2⟩⟩
set_option maxHeartbeats 4000000 in
theorem ctrim_any (p : Nat) (L : List Ver) (X : Foot) (t n : Int) (w : World) (h : ChD w p L X) :
    Calls Try.prog 12 #[.pointer (some ⟨p, 0, none⟩), .agg #[.int .i64 t, .int .u8 n]] w fun e w' => e = .returned (.int .i64 ((L.length : Int) - ((restV L t n).length : Int))) ∧ ∃ X', ChD w' p (restV L t n) X' ∧ Did w w' X X' := by
  obtain ⟨W0, hW0⟩ : ∃ W0, W0 = w.alloc (.cells #[.int .i64 t, .int .u8 n] 28) := ⟨_, rfl⟩
  have HB0 : Hid (Below w.heap.size w W0) := by rw [hW0]; exact (Below.refl _ _).alloc (Nat.le_refl _) _
  obtain ⟨k, hk⟩ : ∃ k, k = upN L t n := ⟨_, rfl⟩
  have hkl : k ≤ L.length := by rw [hk]; exact (up_facts h.chn.ups t n).1
  have hfew := h.chn.few
  have CU : Hid (∀ u, Below w.heap.size w u → Calls Try.prog 30 #[.pointer (some ⟨p, 0, none⟩), .agg #[.int .i64 t, .int .u8 n]] u fun e w' => e = .returned (.int .i64 (k : Nat)) ∧ Below u.heap.size u w') := fun u hb => by rw [hk]; exact cupto_any p L X t n u (h.past hb)
  obtain ⟨hr0, hr1⟩ := rest_up h.chn.one h.chn.ups t n
  rw [← hk] at hr0 hr1
  have HC : Hid (ChD w p L X) := h
  have HRC : Hid (Chn (restV L t n)) := h.chn.rest t n
  by_cases h0 : k = 0
  · have CL : Hid (∀ u, Below w.heap.size w u → Calls Try.prog 31 #[.pointer (some ⟨p, 0, none⟩), .int .i64 k] u fun e w' => e = .returned (.tuple #[.agg #[.int .i64 0, .int .u8 0, .string ⟨#[]⟩, .bool false], .bool false]) ∧ Below u.heap.size u w') := fun u hb => by
      have := clast_any p L X k u (h.past hb) hkl
      rw [h0] at this ⊢
      exact this
    rw [hr0 h0, Int.sub_self]
    have HE : Hid (∀ u, Below w.heap.size w u → ∃ X', ChD u p L X' ∧ Did w u X X') := fun u hb => ⟨X, HC.out.past hb, Did.stay hb HC.out.lt⟩
    rw [hW0] at HB0
    clear hk hr0 hr1 hW0 h h0 HC HRC hkl
    go_enter Try.func12, Try.ntmps12
    go_wp2_with (first | (go_at_call 30; refine (CU.out _ HB0.out).mono ?_; rintro e w1 ⟨rfl, hb1⟩; have HB1 : Hid (Below w.heap.size w w1) := HB0.out.trans (hb1.mono HB0.out.size); clear hb1) | (go_at_call 31; refine (CL.out _ HB1.out).mono ?_; rintro e w2 ⟨rfl, hb2⟩; have HM2 : Hid (CMine (w2.alloc (.cells (encC zeroV).toArray 31)) w2.heap.size zeroV) := CMine.made w2 31 zeroV; have HB2 : Hid (Below w.heap.size w w2) := HB1.out.trans (hb2.mono HB1.out.size); have HB3 : Hid (Below w.heap.size w (w2.alloc (.cells (encC zeroV).toArray 31))) := HB2.out.alloc HB2.out.size _; rw [zeroC_cells] at HM2 HB3; clear hb2) | (have hgo := HM2.out; clear hgo; refine wpList_store_cver (.tmp 6) (by rfl) _ (by rfl) w2.heap.size zeroV zeroV (by rfl) (by rfl) HM2.out ?_; intro u hu; have HBU : Hid (Below w.heap.size w u) := hu ▸ below_cells HB2.out.size HB3.out; clear hu))
    go_ret
    exact ⟨rfl, HE.out _ HBU.out⟩
  · obtain ⟨V1, hV1⟩ : ∃ V1, lastN L k = some V1 := by
      unfold lastN
      rw [if_neg h0]
      exact ⟨_, List.getElem?_eq_getElem (by omega)⟩
    obtain ⟨g1, hg1⟩ : ∃ g1, V1.g = g1 := ⟨_, rfl⟩
    obtain ⟨t1, n1, S1, e1, e2, e3⟩ : ∃ t1 n1 S1, t1 = V1.t ∧ n1 = V1.n ∧ S1 = strOfNums V1.v := ⟨_, _, _, rfl, rfl, rfl⟩
    have CL : Hid (∀ u, Below w.heap.size w u → Calls Try.prog 31 #[.pointer (some ⟨p, 0, none⟩), .int .i64 k] u fun e w' => e = .returned (.tuple #[.agg #[.int .i64 t1, .int .u8 n1, .string S1, .bool g1], .bool true]) ∧ Below u.heap.size u w') := fun u hb => by
      have := clast_any p L X k u (h.past hb) hkl
      rw [hV1] at this
      rw [e1, e2, e3, ← hg1]
      exact this
    obtain ⟨a, c, hc1, hcr, hc3⟩ := h.list
    have hc2 : w.ownsRow 0 31 4 (.slice a L.length c) L.length (L.flatMap encC) := hcr
    clear hcr
    obtain ⟨N, hN⟩ : ∃ N, N = L.length := ⟨_, rfl⟩
    rw [← hN] at hc1 hc2 hc3 hkl hfew
    have HCE : Hid (∀ u, Below w.heap.size w u → u.cell? ⟨p, 0, none⟩ = some (.slice a N c) ∧ u.frozen? ⟨p, 0, none⟩ = false) := fun u hb => ⟨(hb.cell (p := ⟨p, 0, none⟩) (h.lt p h.own)).trans hc1, (hb.frozen (p := ⟨p, 0, none⟩) (h.lt p h.own)).trans h.free⟩
    obtain ⟨m, hm⟩ : ∃ m, m = k - if g1 = true then 0 else 1 := ⟨_, rfl⟩
    have hmk : m ≤ k := by omega
    have HR : Hid (restV L t n = L.drop m) := by show _ = _; rw [hr1 V1 hV1, hg1, ← hm]
    have HRET : Hid ((N : Int) - ((restV L t n).length : Int) = (m : Int)) := by show _ = _; rw [HR.out, List.length_drop, ← hN]; omega
    have HFIN : Hid (∀ u w4, Below w.heap.size w u → Deld u w4 a N c m (L.drop m) → w4.cell? ⟨p, 0, none⟩ = some (.slice a N c) ∧ w4.frozen? ⟨p, 0, none⟩ = false ∧ Hid (∃ X', ChD (w4.setCell ⟨p, 0, none⟩ (.slice a (N - m) c)) p (restV L t n) X' ∧ Did w (w4.setCell ⟨p, 0, none⟩ (.slice a (N - m) c)) X X')) := fun u w4 hb hd => by
      have hcu := HC.out.past hb
      have hpk : w4.heap[p]? = u.heap[p]? := hd.grown.block p (hcu.lt p hcu.own) (fun e => (hc3 p e.symm).2 rfl)
      refine ⟨(cell_kept hpk 0).trans (HCE.out u hb).1, (frozen_kept hpk 0).trans (HCE.out u hb).2, ?_⟩
      obtain ⟨X', h1, h2⟩ := hcu.turn (v := .slice a N c) (M := restV L t n) (N' := N - m) hc3 hd.grown HRC.out (by rw [HR.out, List.length_drop, ← hN]) (by rw [HR.out]; exact hd.row) (fun j e => .inl (by cases a <;> exact e))
      exact ⟨X', h1, (Did.stay hb HC.out.lt).trans h2⟩
    have CD : Hid (∀ u, Below w.heap.size w u → Calls Try.prog 32 #[.slice a N c, .int .i64 0, .int .i64 (m : Nat)] u fun e w' => e = .returned (.slice a (N - m) c) ∧ Deld u w' a N c m (L.drop m)) := fun u hb => cdel_any a c N m L u hN.symm (by omega) (by omega) (own_below hc2 hb (Nat.le_refl _))
    rw [← hN]
    rw [hW0] at HB0
    cases g1 with
    | true =>
      have hm2 : m = k := by rw [hm]; rfl
      subst hm2
      clear hk hr0 hr1 hW0 h h0 hV1 hc1 hc2 hc3 hg1 hm hN hmk e1 e2 e3
      go_enter Try.func12, Try.ntmps12
      go_wp2_with (first | (go_at_call 30; refine (CU.out _ HB0.out).mono ?_; rintro e w1 ⟨rfl, hb1⟩; have HB1 : Hid (Below w.heap.size w w1) := HB0.out.trans (hb1.mono HB0.out.size); clear hb1) | (go_at_call 31; refine (CL.out _ HB1.out).mono ?_; rintro e w2 ⟨rfl, hb2⟩; have HB2 : Hid (Below w.heap.size w w2) := HB1.out.trans (hb2.mono HB1.out.size); have HB3 : Hid (Below w.heap.size w (w2.alloc (.cells #[.int .i64 t1, .int .u8 n1, .string S1, .bool true] 31))) := HB2.out.alloc HB2.out.size _; obtain ⟨q0, q1⟩ := HCE.out _ HB3.out; clear hb2) | (go_at_call 32; refine (CD.out _ HB3.out).mono ?_; rintro e w4 ⟨rfl, hd⟩; obtain ⟨q2, q3, HE⟩ := HFIN.out _ w4 HB3.out hd; clear hd))
      go_ret
      exact ⟨by rw [HRET.out]; rfl, HE.out⟩
    | false =>
      have hm2 : k = m + 1 := by
        have : m = k - 1 := hm
        omega
      subst hm2
      have hm3 : ((m + 1 : Nat) : Int) - 1 = (m : Int) := by omega
      clear hk hr0 hr1 hW0 h h0 hV1 hc1 hc2 hc3 hg1 hm hN hmk e1 e2 e3
      go_enter Try.func12, Try.ntmps12
      go_wp2_with (first | (go_at_call 30; refine (CU.out _ HB0.out).mono ?_; rintro e w1 ⟨rfl, hb1⟩; have HB1 : Hid (Below w.heap.size w w1) := HB0.out.trans (hb1.mono HB0.out.size); clear hb1) | (go_at_call 31; refine (CL.out _ HB1.out).mono ?_; rintro e w2 ⟨rfl, hb2⟩; have HB2 : Hid (Below w.heap.size w w2) := HB1.out.trans (hb2.mono HB1.out.size); have HB3 : Hid (Below w.heap.size w (w2.alloc (.cells #[.int .i64 t1, .int .u8 n1, .string S1, .bool false] 31))) := HB2.out.alloc HB2.out.size _; obtain ⟨q0, q1⟩ := HCE.out _ HB3.out; clear hb2) | (go_at_call 32; refine (CD.out _ HB3.out).mono ?_; rintro e w4 ⟨rfl, hd⟩; obtain ⟨q2, q3, HE⟩ := HFIN.out _ w4 HB3.out hd; clear hd))
      go_ret
      exact ⟨by rw [HRET.out]; rfl, HE.out⟩
end Go.Proofs.Ytimiciellbdphaa
