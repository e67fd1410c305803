/-
  The landed ckpt: getChains, Get.
-/
import Derived.Test.YtpnjcflfnoamoaaGreatCkptG1
import Derived.Test.YtpnjcflfnoamoaaGreatAu22
import Derived.Test.YtpnjcflfnoamoaaGreatStA
import Derived.Test.YtpnjcflfnoamoaaGreatAu29
namespace Go.Proofs.YtpnjcflfnoamoaaGreat
open Go.RowKit
set_option linter.unusedVariables false
set_option linter.unusedSimpArgs false

theorem keyMine_zero (w : World) : KeyMine (w.alloc (.cells #[.int .u8 0, .int .u8 0, .int .u8 0, .int .u8 0, .int .u8 0, .int .u8 0, .int .u8 0, .int .u8 0, .int .u8 0, .int .u8 0, .int .u8 0, .int .u8 0, .int .u8 0, .int .u8 0, .int .u8 0, .int .u8 0] 57)) w.heap.size 0 zeroK := by
  have := KeyMine.made w 57 zeroK zeroK_ky
  rw [zero_cells] at this
  exact this
theorem KeyMine.keptG {w w' : World} {b : Nat} {k : List Int} (h : KeyMine w b 0 k) (hb : w'.heap[b]? = w.heap[b]?) : KeyMine w' b 0 k :=
  ⟨⟨fun z hz => (cell_of_block hb _).1.trans (h.lies.cell z hz)⟩, fun i hi => (cell_of_block hb _).2.trans (h.free i hi), h.ky⟩
/-- What getChains leaves. -/
structure GsR (w w' : World) (g p : Nat) (X : Foot) (zs : List Int) (r : Bool) : Prop where
  chg : Chg w w' (fun q => q = g ∨ X q)
  yes : r = true → ∃ (M' : List Ver) (zs' : List Int) (X' : Foot), LR w' g zs' false ∧ StD w' p M' X' ∧ (∀ q, X' q → X q ∨ w.heap.size ≤ q) ∧ (zs' = [] → getS zs = some M') ∧ (zs' ≠ [] → getS zs = none)
  no : r = false → getS zs = none
/-- What its rounds hold: K is what lies in the box of the last key. -/
structure GsL (w u : World) (g p : Nat) (X : Foot) (zs : List Int) (N i : Nat) (K : List Int) : Prop where
  ex : ∃ (M' : List Ver) (zs' : List Int) (b' : Bool) (X' : Foot) (pk : Option (List Int)), LR u g zs' b' ∧ StD u p M' X' ∧ (∀ j, X' j → X j ∨ w.heap.size + 1 ≤ j) ∧ CkS M' i pk ∧ getS zs = resK M' (N - i) pk (stL zs' b') ∧ ((pk = none ∧ K = zeroK) ∨ pk = some K)
  chg : Chg w u (fun j => j = g ∨ X j)
  last : KeyMine u w.heap.size 0 K
theorem GsL.start {w u : World} {g p N : Nat} {X : Foot} {zs zs1 : List Int} {b1 : Bool} (hs : StD w p [] X) (hX : ∀ q, X q → g < q) (hg : g < w.heap.size) (hc : Chg (w.alloc (.cells #[.int .u8 0, .int .u8 0, .int .u8 0, .int .u8 0, .int .u8 0, .int .u8 0, .int .u8 0, .int .u8 0, .int .u8 0, .int .u8 0, .int .u8 0, .int .u8 0, .int .u8 0, .int .u8 0, .int .u8 0, .int .u8 0] 57)) u (fun j => j = g)) (hl : LR u g zs1 b1) (D : Rds (countP 200) (stL zs false) (stL zs1 b1) (N : Int)) : GsL w u g p X zs N 0 zeroK := by
  have hm := keyMine_zero w
  obtain ⟨A, hA⟩ : ∃ A, A = w.alloc (.cells #[.int .u8 0, .int .u8 0, .int .u8 0, .int .u8 0, .int .u8 0, .int .u8 0, .int .u8 0, .int .u8 0, .int .u8 0, .int .u8 0, .int .u8 0, .int .u8 0, .int .u8 0, .int .u8 0, .int .u8 0, .int .u8 0] 57) := ⟨_, rfl⟩
  have hb : Below w.heap.size w A := by rw [hA]; exact (Below.refl _ _).alloc (Nat.le_refl _) _
  have sz : A.heap.size = w.heap.size + 1 := by rw [hA]; exact World.size_alloc _ _
  rw [← hA] at hc hm
  have hcw : Chg w u (fun j => j = g) := (Chg.of_below hb (fun j => j = g)).trans hc (fun _ _ x => x)
  refine ⟨⟨[], zs1, b1, X, none, hl, hs.kept hcw.size (fun j hj => hcw.block j (hs.lt j hj) (fun e => by have := hX j hj; omega)), fun j e => .inl e, CkS.start, ?_, .inl ⟨rfl, rfl⟩⟩, hcw.mono (fun _ _ e => .inl e), hm.keptG (hc.block _ (by omega) (by omega))⟩
  rw [Nat.sub_zero, resS_start D, Int.toNat_natCast]
/-- A round: the key that was read lies in a box of its own. -/
structure GB (w wr u : World) (g p kb : Nat) (M : List Ver) (X' : Foot) (zs1 : List Int) (b1 : Bool) (kk K : List Int) : Prop where
  lr : LR u g zs1 b1
  sto : StD u p M X'
  chg : Chg wr u (fun j => j = g)
  last : KeyMine u w.heap.size 0 K
  box : KeyMine u kb 0 kk
  hkb : wr.heap.size ≤ kb
theorem GB.past {w wr u u' : World} {g p kb : Nat} {M : List Ver} {X' : Foot} {zs1 kk K : List Int} {b1 : Bool} (h : GB w wr u g p kb M X' zs1 b1 kk K) (hb : Below u.heap.size u u') : GB w wr u' g p kb M X' zs1 b1 kk K :=
  ⟨h.lr.past hb, h.sto.past hb, h.chg.trans (Chg.of_below hb (fun j => j = g)) (fun _ _ x => x), h.last.keptG (hb.block _ h.last.lies.lt), h.box.keptG (hb.block _ h.box.lies.lt), h.hkb⟩
theorem gb_made {w wr w1 u : World} {g p : Nat} {M : List Ver} {X' : Foot} {zs1 kk K : List Int} {b1 : Bool} (hg : g < w.heap.size) (hw : w.heap.size < wr.heap.size) (hX : ∀ q, X' q → g < q) (hs : StD wr p M X') (hl : KeyMine wr w.heap.size 0 K) (hk : Ky kk) (L1 : LR w1 g zs1 b1) (C1 : Chg wr w1 (fun j => j = g))
    (hu : u = (w1.alloc (.cells #[.int .u8 0, .int .u8 0, .int .u8 0, .int .u8 0, .int .u8 0, .int .u8 0, .int .u8 0, .int .u8 0, .int .u8 0, .int .u8 0, .int .u8 0, .int .u8 0, .int .u8 0, .int .u8 0, .int .u8 0, .int .u8 0] 57)).setCells w1.heap.size 0 (kk.map (Value.int .u8))) : GB w wr u g p w1.heap.size M X' zs1 b1 kk K := by
  have hm := keyMine_zero w1
  obtain ⟨A, hA⟩ : ∃ A, A = w1.alloc (.cells #[.int .u8 0, .int .u8 0, .int .u8 0, .int .u8 0, .int .u8 0, .int .u8 0, .int .u8 0, .int .u8 0, .int .u8 0, .int .u8 0, .int .u8 0, .int .u8 0, .int .u8 0, .int .u8 0, .int .u8 0, .int .u8 0] 57) := ⟨_, rfl⟩
  have hb : Below w1.heap.size w1 A := by rw [hA]; exact (Below.refl _ _).alloc (Nat.le_refl _) _
  rw [← hA] at hm hu
  have cu : Chg A u (fun j => j = w1.heap.size) := by rw [hu]; exact chg_cells w1.heap.size _ 0 A
  have hbu : Below w1.heap.size w1 u := hb.trans (cu.below hb.size (fun k e => Nat.le_of_eq e.symm))
  have hsz := C1.size
  have cw : Chg wr u (fun j => j = g) := C1.trans (Chg.of_below hbu (fun j => j = g)) (fun _ _ x => x)
  refine ⟨L1.past hbu, hs.kept cw.size (fun j hj => cw.block j (hs.lt j hj) (fun e => by have := hX j hj; omega)), cw, hl.keptG (cw.block _ hw (by omega)), ?_, hsz⟩
  rw [hu]
  exact hm.store hk
/-- Not above the last one: no store. -/
theorem GsL.low {pk : Option (List Int)} {K kk : List Int} {zs zs' zs1 : List Int} {b' b1 : Bool} {N i : Nat} {M' : List Ver} (hk : Ky kk) (hlt : i < N) (hres : getS zs = resK M' (N - i) pk (stL zs' b')) (hpk : (pk = none ∧ K = zeroK) ∨ pk = some K) (D1 : Rds (bytesP 16) (stL zs' b') (stL zs1 b1) kk) (hc : lexC kk K ≤ 0) : getS zs = none := by
  obtain ⟨Q, hQ⟩ : ∃ Q, N - i = Q + 1 := ⟨N - i - 1, by omega⟩
  obtain ⟨o2, m, D2⟩ := rds_some (countP 50) (stL zs1 b1)
  rw [hres, hQ]
  refine resK_bad D1 D2 ?_
  unfold mayKey
  rcases hpk with ⟨rfl, rfl⟩ | rfl
  · rw [key_low hk hc]; rfl
  · have : aboveK (some K) kk = false := decide_eq_false (by omega)
    rw [this, Bool.and_false, Bool.false_and]
theorem above_of {pk : Option (List Int)} {K kk : List Int} (hpk : (pk = none ∧ K = zeroK) ∨ pk = some K) (hc : ¬ lexC kk K ≤ 0) : aboveK pk kk = true := by
  rcases hpk with ⟨rfl, rfl⟩ | rfl
  · rfl
  · exact decide_eq_true (by omega)
theorem GsL.stop {w w3 w4 : World} {g p : Nat} {X' : Foot} {pk : Option (List Int)} {K kk : List Int} {zs zs' zs1 : List Int} {b' b1 : Bool} {N i : Nat} {M' : List Ver} (hlt : i < N) (hres : getS zs = resK M' (N - i) pk (stL zs' b')) (D1 : Rds (bytesP 16) (stL zs' b') (stL zs1 b1) kk) (hr : GcR w3 w4 g p M' X' kk (i + 1) zs1 b1 false) : getS zs = none := by
  obtain ⟨Q, hQ⟩ : ∃ Q, N - i = Q + 1 := ⟨N - i - 1, by omega⟩
  obtain ⟨m, o2, D2, hno⟩ := hr.no rfl
  rw [hres, hQ]
  cases hm : mayKey pk kk m with
  | false => exact resK_bad D1 D2 hm
  | true =>
    rw [resK_next D1 D2 hm]
    unfold mayKey at hm
    simp only [Bool.and_eq_true, decide_eq_true_eq] at hm
    rcases hno with e | e | e
    · rw [e] at hm; exact absurd hm.1.1 (by decide)
    · exact absurd e hm.2
    · exact e Q
theorem GsL.next {w wr w3 w4 u : World} {g p kb : Nat} {X X' : Foot} {pk : Option (List Int)} {K kk : List Int} {zs zs' zs1 : List Int} {b' b1 : Bool} {N i : Nat} {M' : List Ver} (hg : g < w.heap.size) (hw : w.heap.size < wr.heap.size) (hXw : ∀ j, X j → j < w.heap.size) (hlt : i < N) (hchg : Chg w wr (fun j => j = g ∨ X j)) (hst : ∀ j, X' j → j < wr.heap.size) (hsub : ∀ j, X' j → X j ∨ w.heap.size + 1 ≤ j) (hres : getS zs = resK M' (N - i) pk (stL zs' b')) (D1 : Rds (bytesP 16) (stL zs' b') (stL zs1 b1) kk) (ha : aboveK pk kk = true) (hb : GB w wr w3 g p kb M' X' zs1 b1 kk K) (hr : GcR w3 w4 g p M' X' kk (i + 1) zs1 b1 true)
    (hu : u = w4.setCells w.heap.size 0 (kk.map (Value.int .u8))) : GsL w u g p X zs N (i + 1) kk := by
  obtain ⟨Q, hQ⟩ : ∃ Q, N - i = Q + 1 := ⟨N - i - 1, by omega⟩
  have hQ2 : N - (i + 1) = Q := by omega
  obtain ⟨m, o2, M2, zs2, X2, hgd, hm0, D2, hv, L4, S4, sub4, C4⟩ := hr.yes rfl
  have hm : mayKey pk kk m = true := by unfold mayKey; rw [hgd, ha, decide_eq_true hm0]; rfl
  have s3 := hb.chg.size
  have hl3 : w.heap.size < w3.heap.size := by omega
  have hl4 : KeyMine w4 w.heap.size 0 K := hb.last.keptG (hr.chg.block _ hl3 (fun e => by
    rcases e with e | e
    · omega
    · rcases hsub _ e with e | e
      · have := hXw _ e; omega
      · omega))
  have cu : Chg w4 u (fun j => j = w.heap.size) := by rw [hu]; exact chg_cells w.heap.size _ 0 w4
  have hn2 : ∀ j, X2 j → X j ∨ w.heap.size + 1 ≤ j := fun j e => by
    rcases sub4 j e with e | e
    · exact hsub j e
    · exact .inr (by omega)
  refine ⟨⟨M2, zs2, false, X2, some kk, L4.above cu (fun j e => by omega), S4.kept cu.size (fun j hj => cu.block j (S4.lt j hj) (fun e => ?_)), hn2, C4, ?_, .inr rfl⟩, ?_, ?_⟩
  · rcases hn2 j hj with e2 | e2
    · have := hXw j e2; omega
    · omega
  · rw [hres, hQ, hQ2, resK_next D1 D2 hm, hv]; rfl
  · refine ((hchg.trans hb.chg (fun j hj e => .inl e)).trans hr.chg (fun j hj e => ?_)).trans cu (fun j hj e => by omega)
    rcases e with e | e
    · exact .inl e
    · rcases hsub j e with e | e
      · exact .inr e
      · omega
  · rw [hu]
    exact hl4.store hb.box.ky
theorem GsL.done {w wr : World} {g p N : Nat} {X : Foot} {zs K : List Int} {M' : List Ver} {zs' : List Int} {b' : Bool} {X' : Foot} {pk : Option (List Int)} (hchg : Chg w wr (fun j => j = g ∨ X j)) (h1 : LR wr g zs' b') (h2 : StD wr p M' X') (h3 : ∀ j, X' j → X j ∨ w.heap.size + 1 ≤ j) (h5 : getS zs = resK M' (N - N) pk (stL zs' b')) : GsR w wr g p X zs (!b') := by
  rw [Nat.sub_self] at h5
  refine ⟨hchg, fun e => ?_, fun e => ?_⟩
  · cases b' with
    | true => cases e
    | false =>
      refine ⟨M', zs', X', h1, h2, fun q e => (h3 q e).imp id (fun e => by omega), fun e => ?_, fun e => ?_⟩
      · rw [h5]; exact (resK_end M' pk _).1 (by rw [e]; rfl)
      · rw [h5]; exact (resK_end M' pk _).2 (fun e2 => e (by injection e2))
  · cases b' with
    | true => rw [h5]; rfl
    | false => cases e
set_option maxHeartbeats 8000000 in
set_option maxRecDepth 8000 in
theorem lgetcs_any (g p : Nat) (X : Foot) (zs : List Int) (w : World) (h : LR w g zs false) (hs : StD w p [] X) (hX : ∀ q, X q → g < q) :
    Calls Tryz.prog 33 #[.pointer (some ⟨g, 0, none⟩), .pointer (some ⟨p, 0, none⟩)] w fun e w' => ∃ r : Bool, e = .returned (.bool r) ∧ GsR w w' g p X zs r := by
  have hg := h.lt
  have HG : Hid (g < w.heap.size) := hg
  have HXG : Hid (∀ q, X q → g < q) := hX
  have HXW : Hid (∀ q, X q → q < w.heap.size) := hs.lt
  have HST : Hid (∀ u zs1 b1 (N : Nat), Chg (w.alloc (.cells #[.int .u8 0, .int .u8 0, .int .u8 0, .int .u8 0, .int .u8 0, .int .u8 0, .int .u8 0, .int .u8 0, .int .u8 0, .int .u8 0, .int .u8 0, .int .u8 0, .int .u8 0, .int .u8 0, .int .u8 0, .int .u8 0] 57)) u (fun j => j = g) → LR u g zs1 b1 → Rds (countP 200) (stL zs false) (stL zs1 b1) (N : Int) → GsL w u g p X zs N 0 zeroK) := fun u zs1 b1 N h1 h2 h3 => GsL.start hs hX hg h1 h2 h3
  have HL : Hid (LR (w.alloc (.cells #[.int .u8 0, .int .u8 0, .int .u8 0, .int .u8 0, .int .u8 0, .int .u8 0, .int .u8 0, .int .u8 0, .int .u8 0, .int .u8 0, .int .u8 0, .int .u8 0, .int .u8 0, .int .u8 0, .int .u8 0, .int .u8 0] 57)) g zs false) := h.past ((Below.refl _ _).alloc (Nat.le_refl _) _)
  clear h hs hX hg
  go_enter Tryz.func33, Tryz.ntmps33
  go_wp2_with (first | (go_at_call 66; refine (lupto_any g zs false 200 (by omega) (by omega) _ HL.out).mono ?_; rintro e w0 ⟨n, rfl, n0, n1, ⟨zs0, b0, L0, C0, D0⟩⟩; obtain ⟨N, rfl⟩ : ∃ N : Nat, n = N := ⟨n.toNat, by omega⟩; have HN : Hid (N ≤ 200) := (by show N ≤ 200; omega); have HS0 : Hid (GsL w w0 g p X zs N 0 zeroK) := HST.out _ _ _ N C0 L0 D0; clear L0 C0 D0 HL HST))
  go_loopw [9] (fun iv wr => ∃ (i : Nat) (K : List Int), i ≤ N ∧ iv = .int .i64 i ∧ Hid (GsL w wr g p X zs N i K)) (fun iv _ => N - (intOf iv).toNat)
  case atStart => exact ⟨0, zeroK, Nat.zero_le _, rfl, HS0⟩
  case round =>
    obtain ⟨i, K, hiN, rfl, HL⟩ := hrel
    have hi0 : (0 : Int) ≤ (i : Int) := by omega
    have hi1 : (i : Int) ≤ 200 := by have := HN.out; omega
    clear HS0
    obtain ⟨M', zs', b', X', pk, h1, h2, h3, h4, h5, h6⟩ := HL.out.ex
    by_cases hlt : i < N
    · have hltI : (i : Int) < (N : Int) := by omega
      have HW : Hid (w.heap.size < wr.heap.size) := HL.out.last.lies.lt
      have HXR : Hid (∀ q, X' q → g < q) := fun j e => by
        rcases h3 j e with e | e
        · exact HXG.out j e
        · have := HG.out; omega
      have CK : Hid (Calls Tryz.prog 67 #[.pointer (some ⟨g, 0, none⟩)] wr fun e w' => ∃ l : List Int, e = .returned (kv l) ∧ Ky l ∧ LRed wr w' g zs' b' (bytesP 16) l) := lkey_any g zs' b' wr h1
      have HGB : Hid (∀ w1 u zs1 b1 kk, Ky kk → LR w1 g zs1 b1 → Chg wr w1 (fun j => j = g) → u = (w1.alloc (.cells #[.int .u8 0, .int .u8 0, .int .u8 0, .int .u8 0, .int .u8 0, .int .u8 0, .int .u8 0, .int .u8 0, .int .u8 0, .int .u8 0, .int .u8 0, .int .u8 0, .int .u8 0, .int .u8 0, .int .u8 0, .int .u8 0] 57)).setCells w1.heap.size 0 (kk.map (Value.int .u8)) → GB w wr u g p w1.heap.size M' X' zs1 b1 kk K) := fun w1 u zs1 b1 kk a1 a2 a3 a4 => gb_made HG.out HW.out HXR.out h2 HL.out.last a1 a2 a3 a4
      have KK0 : Hid (Ky K) := HL.out.last.ky
      have HLOW : Hid (∀ zs1 b1 kk, Ky kk → Rds (bytesP 16) (stL zs' b') (stL zs1 b1) kk → lexC kk K ≤ 0 → getS zs = none) := fun zs1 b1 kk a1 a2 a3 => GsL.low a1 hlt h5 h6 a2 a3
      have HABV : Hid (∀ kk, ¬ lexC kk K ≤ 0 → aboveK pk kk = true) := fun kk a => above_of h6 a
      have HSTP : Hid (∀ w3 w4 zs1 b1 kk, Rds (bytesP 16) (stL zs' b') (stL zs1 b1) kk → GcR w3 w4 g p M' X' kk (i + 1) zs1 b1 false → getS zs = none) := fun w3 w4 zs1 b1 kk a1 a2 => GsL.stop (w := w) (K := K) hlt h5 a1 a2
      have HNXT : Hid (∀ w3 w4 u kb zs1 b1 kk, Rds (bytesP 16) (stL zs' b') (stL zs1 b1) kk → aboveK pk kk = true → GB w wr w3 g p kb M' X' zs1 b1 kk K → GcR w3 w4 g p M' X' kk (i + 1) zs1 b1 true → u = w4.setCells w.heap.size 0 (kk.map (Value.int .u8)) → GsL w u g p X zs N (i + 1) kk) := fun w3 w4 u kb zs1 b1 kk a1 a2 a3 a4 a5 => GsL.next HG.out HW.out HXW.out hlt HL.out.chg h2.lt h3 h5 a1 a2 a3 a4 a5
      have HLST : Hid (∀ w3 w4 kb zs1 b1 kk r, GB w wr w3 g p kb M' X' zs1 b1 kk K → GcR w3 w4 g p M' X' kk (i + 1) zs1 b1 r → KeyMine w4 w.heap.size 0 K ∧ KeyMine w4 kb 0 kk ∧ Chg w w4 (fun q => q = g ∨ X q)) := fun w3 w4 kb zs1 b1 kk r a1 a2 => by
        have hs3 := a1.chg.size
        have hkb := a1.hkb
        have hwr := HW.out
        have hgw := HG.out
        refine ⟨a1.last.keptG (a2.chg.block _ (by omega) (fun e => ?_)), a1.box.keptG (a2.chg.block _ a1.box.lies.lt (fun e => ?_)), (HL.out.chg.trans a1.chg (fun j hj e => .inl e)).trans a2.chg (fun j hj e => ?_)⟩
        · rcases e with e | e
          · omega
          · rcases h3 _ e with e | e
            · have := HXW.out _ e; omega
            · omega
        · rcases e with e | e
          · omega
          · have := h2.lt _ e; omega
        · rcases e with e | e
          · exact .inl e
          · rcases h3 j e with e | e
            · exact .inr e
            · omega
      have CG : Hid (∀ u kb zs1 b1 kk, GB w wr u g p kb M' X' zs1 b1 kk K → Ky kk → aboveK pk kk = true → Calls Tryz.prog 68 #[.pointer (some ⟨g, 0, none⟩), .pointer (some ⟨p, 0, none⟩), kv kk] u fun e w' => ∃ r : Bool, e = .returned (.bool r) ∧ GcR u w' g p M' X' kk (i + 1) zs1 b1 r) := fun u kb zs1 b1 kk a1 a2 a3 => lgetc_any g p (i + 1) M' X' kk zs1 b1 u a1.lr a1.sto HXR.out a2 (h4.key a3) (by have := HN.out; omega)
      have HCW : Hid (Chg w wr (fun j => j = g ∨ X j)) := HL.out.chg
      clear h1 h2 h3 h4 h5 h6 HL
      go_wp2_with (first
        | (have hgo := HM4.out; clear hgo; (with_reducible show wpList _ _ _ (Oper.mk none _ _ _ _ _ :: _) _ _); refine wpList_store_keyU (by rfl) _ _ (by rfl) w.heap.size 0 K kk (by rfl) (by rfl) HKK.out HM4.out.1 ?_; intro u5 hu5; have H5 : Hid (GsL w u5 g p X zs N (i + 1) kk) := HNXT.out _ _ u5 _ zs1 b1 kk HD1.out (HABV.out kk (by have := HC.out; omega)) H3.out HR.out hu5; clear hu5 HM4)
        | (have hgo := HM4.out; clear hgo; (with_reducible show wpList _ _ _ (Oper.mk (some 24) _ _ _ _ _ :: _) _ _); refine wpList_load_keyN 24 (by rfl) (by rfl) _ (by rfl) w1.heap.size 0 (by rfl) kk HKK.out HM4.out.2.1.lies ?_)
        | (have hgo := H3.out; clear hgo; go_at_call 68; refine (CG.out _ _ zs1 b1 kk H3.out HKK.out (HABV.out kk (by have := HC.out; omega))).mono ?_; rintro e w4 ⟨r, rfl, hr⟩; have HR : Hid (GcR w3 w4 g p M' X' kk (i + 1) zs1 b1 r) := hr; have HM4 : Hid (KeyMine w4 w.heap.size 0 K ∧ KeyMine w4 w1.heap.size 0 kk ∧ Chg w w4 (fun q => q = g ∨ X q)) := HLST.out w3 w4 _ zs1 b1 kk r H3.out hr; clear hr; cases r)
        | (have hgo := H3.out; clear hgo; (with_reducible show wpList _ _ _ (Oper.mk (some 20) _ _ _ _ _ :: _) _ _); refine wpList_load_keyD 20 (by rfl) (by rfl) _ (by rfl) w1.heap.size 0 (by rfl) kk HKK.out H3.out.box.lies ?_)
        | (have hgo := H2.out; clear hgo; go_at_call 58; refine (CC.out _).mono ?_; rintro e w3 ⟨rfl, hb⟩; have H3 : Hid (GB w wr w3 g p w1.heap.size M' X' zs1 b1 kk K) := H2.out.past hb; clear hb H2; by_cases hcz : c ≤ 0; rotate_left; have bq : decide (c ≤ 0) = false := decide_eq_false hcz; rotate_right)
        | (have hgo := H2.out; clear hgo; (with_reducible show wpList _ _ _ (Oper.mk (some 14) _ _ _ _ _ :: _) _ _); refine wpList_load_keyN 14 (by rfl) (by rfl) _ (by rfl) w.heap.size 0 (by rfl) K KK0.out H2.out.last.lies ?_)
        | (have hgo := H2.out; clear hgo; (with_reducible show wpList _ _ _ (Oper.mk (some 13) _ _ _ _ _ :: _) _ _); refine wpList_load_keyN 13 (by rfl) (by rfl) _ (by rfl) w1.heap.size 0 (by rfl) kk HKK.out H2.out.box.lies ?_)
        | (have hgo := HP.out; clear hgo; (with_reducible show wpList _ _ _ (Oper.mk none _ _ _ _ _ :: _) _ _); refine wpList_store_keyU (by rfl) _ _ (by rfl) w1.heap.size 0 zeroK kk (by rfl) (by rfl) HKK.out (keyMine_zero w1) ?_; intro u2 hu2; have H2 : Hid (GB w wr u2 g p w1.heap.size M' X' zs1 b1 kk K) := HGB.out w1 u2 zs1 b1 kk HKK.out HP.out.1 HP.out.2 hu2; clear hu2 HP)
        | (go_at_call 67; refine CK.out.mono ?_; rintro e w1 ⟨kk, rfl, ky, ⟨⟨zs1, b1, L1, C1, D1⟩⟩⟩; have HKK : Hid (Ky kk) := ky; have HP : Hid (LR w1 g zs1 b1 ∧ Chg wr w1 (fun j => j = g)) := ⟨L1, C1⟩; have HD1 : Hid (Rds (bytesP 16) (stL zs' b') (stL zs1 b1) kk) := D1; obtain ⟨c, hc⟩ : ∃ c, c = lexC kk K := ⟨_, rfl⟩; have HC : Hid (c = lexC kk K) := hc; have CC : Hid (∀ u, Calls Tryz.prog 58 #[kv kk, kv K] u fun e w' => e = .returned (.int .i64 c) ∧ Below u.heap.size u w') := (fun u => by rw [hc]; exact kcmp_any kk K ky KK0.out u); clear ky L1 C1 D1 CK hc))
      · have hN : getS zs = none := HLOW.out zs1 b1 kk HKK.out HD1.out (by have := HC.out; omega)
        have hch : Chg w w3 (fun q => q = g ∨ X q) := HCW.out.trans H3.out.chg (fun j hj e => .inl e)
        go_ret
        exact ⟨false, rfl, ⟨hch, fun e => by (cases e), fun _ => hN⟩⟩
      · have hN : getS zs = none := HSTP.out w3 w4 zs1 b1 kk HD1.out HR.out
        go_ret
        exact ⟨false, rfl, ⟨HM4.out.2.2, fun e => by (cases e), fun _ => hN⟩⟩
      · go_roundw
        case rel => exact ⟨i + 1, kk, by omega, by go_num, H5⟩
        case measure => simp [intOf]; omega
    · obtain rfl : i = N := by omega
      have HE : Hid (GsR w wr g p X zs (!b') ∧ LR wr g zs' b') := ⟨GsL.done (K := K) HL.out.chg h1 h2 h3 h5, h1⟩
      clear HL h1 h2 h3 h4 h5 h6
      go_wp2_with (first | (have hgo := HE.out; clear hgo; go_at_call 69; refine (lbad_any g zs' b' _ HE.out.2).mono ?_; rintro e u1 ⟨rfl, hu⟩; obtain rfl := hu.symm; clear hu))
      go_ret
      first | exact ⟨!b', rfl, HE.out.1⟩ | trace_state
/-- Get. -/
theorem gs_get {w w1 w2 w3 : World} {p : Nat} {X : Foot} {zs : List Int} {r : Bool} (hb1 : Below w.heap.size w w1) (hg : w.heap.size < w1.heap.size) (hb2 : Below w1.heap.size w1 w2) (hX : ∀ k, X k → w1.heap.size ≤ k) (h : GsR w2 w3 w.heap.size p X zs r) : Below w.heap.size w w3 ∧ (r = false → getS zs = none) ∧ (r = true → ∃ (M' : List Ver) (zs' : List Int), LR w3 w.heap.size zs' false ∧ StX w w3 p M' ∧ (zs' = [] → getS zs = some M') ∧ (zs' ≠ [] → getS zs = none)) := by
  have h12 : Below w.heap.size w w2 := hb1.trans (hb2.mono hb1.size)
  have s12 := hb2.size
  have hbel : Below w.heap.size w w3 := h12.trans (h.chg.below (by omega) (fun k e => by
    rcases e with e | e
    · omega
    · have := hX k e; omega))
  refine ⟨hbel, h.no, fun e => ?_⟩
  obtain ⟨M', zs', X', h1, h2, h3, h4, h5⟩ := h.yes e
  refine ⟨M', zs', h1, ⟨X', h2, hbel, fun k e => ?_⟩, h4, h5⟩
  rcases h3 k e with e | e
  · have := hX k e; omega
  · omega
set_option maxHeartbeats 4000000 in
set_option maxRecDepth 4000 in
theorem ckget_any (a : Option Addr) (cap len : Nat) (zs : List Int) (w : World) (hr : Row w a zs) (hl : zs.length = len) (hc : len ≤ cap) (hm : len ≤ 1000000) :
    Calls Tryz.prog 11 #[.slice a len cap] w fun e w' => ((∃ (q : Nat) (M : List Ver), getS zs = some M ∧ e = .returned (.tuple #[.pointer (some ⟨q, 0, none⟩), .int .i64 0]) ∧ StX w w' q M) ∨ (getS zs = none ∧ e = .returned (.tuple #[.pointer none, .int .i64 3]))) ∧ Below w.heap.size w w' := by
  have CO : Hid (Calls Tryz.prog 32 #[.slice a len cap] w fun e w' => e = .returned (.pointer (some ⟨w.heap.size, 0, none⟩)) ∧ LR w' w.heap.size zs false ∧ Below w.heap.size w w') := lover_any a cap len zs w hr hl hc (by omega)
  clear hr hl hc hm
  go_enter Tryz.func11, Tryz.ntmps11
  go_wp2_with (first
    | (have hgo := HY.out; clear hgo; go_at_call 34; refine (lleft_any _ zs2 false _ HY.out.1).mono ?_; rintro e u1 ⟨rfl, hu⟩; obtain rfl := hu.symm; clear hu; obtain ⟨Q, hQ⟩ : ∃ Q, Q = zs2.length := ⟨_, rfl⟩; have HQ : Hid (Q = zs2.length) := hQ; rw [← hQ]; clear hQ)
    | (have hgo := H2.out; clear hgo; go_at_call 33; refine (lgetcs_any w.heap.size p X zs _ H2.out.1 H2.out.2.1 H2.out.2.2.1).mono ?_; rintro e w3 ⟨r, rfl, hr⟩; have H3 : Hid (Below w.heap.size w w3 ∧ (r = false → getS zs = none) ∧ (r = true → ∃ (M' : List Ver) (zs' : List Int), LR w3 w.heap.size zs' false ∧ StX w w3 p M' ∧ (zs' = [] → getS zs = some M') ∧ (zs' ≠ [] → getS zs = none))) := gs_get H2.out.2.2.2.1 H2.out.2.2.2.2.1 H2.out.2.2.2.2.2.1 H2.out.2.2.2.2.2.2 hr; clear hr; cases r; rotate_left; obtain ⟨M', zs2, y1, y2, y3, y4⟩ := H3.out.2.2 rfl; have HY : Hid (LR w3 w.heap.size zs2 false ∧ StX w w3 p M' ∧ (zs2 = [] → getS zs = some M') ∧ (zs2 ≠ [] → getS zs = none)) := ⟨y1, y2, y3, y4⟩; clear y1 y2 y3 y4; rotate_right)
    | (have hgo := H1.out; clear hgo; go_at_call 19; refine (snew_any _).mono ?_; rintro e w2 ⟨p, X, rfl, hs, hb, hx⟩; have H2 : Hid (LR w2 w.heap.size zs false ∧ StD w2 p [] X ∧ (∀ q, X q → w.heap.size < q) ∧ Below w.heap.size w w1 ∧ w.heap.size < w1.heap.size ∧ Below w1.heap.size w1 w2 ∧ ∀ k, X k → w1.heap.size ≤ k) := ⟨H1.out.1.past hb, hs, fun q e => Nat.lt_of_lt_of_le H1.out.1.lt (hx q e), H1.out.2, H1.out.1.lt, hb, hx⟩; clear hs hb hx)
    | (go_at_call 32; refine CO.out.mono ?_; rintro e w1 ⟨rfl, hL, hB⟩; have H1 : Hid (LR w1 w.heap.size zs false ∧ Below w.heap.size w w1) := ⟨hL, hB⟩; clear hL hB CO))
  · have hN : getS zs = none := by first | exact H3.out.2.1 rfl | exact H3.out.2.1 trivial
    go_returns
    exact ⟨.inr ⟨hN, rfl⟩, H3.out.1⟩
  · rename_i hq
    have hz : zs2 ≠ [] := fun e => by
      have h1 := HQ.out
      rw [e] at h1
      simp at h1
      omega
    have hN := HY.out.2.2.2 hz
    go_returns
    exact ⟨.inr ⟨hN, rfl⟩, H3.out.1⟩
  · rename_i hq
    have hz : zs2 = [] := List.eq_nil_of_length_eq_zero (by have := HQ.out; omega)
    have hS := HY.out.2.2.1 hz
    go_returns
    exact ⟨.inl ⟨p, M', hS, rfl, HY.out.2.1⟩, H3.out.1⟩
end Go.Proofs.YtpnjcflfnoamoaaGreat
