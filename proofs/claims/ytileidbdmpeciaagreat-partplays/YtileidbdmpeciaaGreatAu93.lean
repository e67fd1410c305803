/-
  May a version be; the newest one of a key (hourglassref10: MayVersion, Store.Newest).
  The last version of a key not above a stamp (hourglassref10: Store.At).
-/
import Derived.Test.YtileidbdmpeciaaGreatRefStore
import Derived.Test.YtileidbdmpeciaaGreatAu100
import Derived.Test.YtileidbdmpeciaaGreatAu96
namespace Go.Proofs.YtileidbdmpeciaaGreat
open Go.RowKit
set_option linter.unusedVariables false

theorem VerAt.made (w : World) (T : TypeId) (V : Ver) : VerAt (w.alloc (.cells (encV V).toArray T)) w.heap.size 0 V := by
  have h := lies_made w (encV V).toArray T
  exact ⟨h⟩
theorem VerAt.cells0 {w : World} {b : Nat} {V : Ver} (h : VerAt w b 0 V) (hk : Ky V.k) : w.cell? ⟨b, 16, none⟩ = some (.int .i64 V.t) ∧ w.cell? ⟨b, 17, none⟩ = some (.int .u8 V.n) ∧ w.cell? ⟨b, 18, none⟩ = some (.string (strOfNums V.v)) ∧ w.cell? ⟨b, 19, none⟩ = some (.bool V.g) := by
  have := h.cells hk
  simpa using this
set_option maxHeartbeats 1000000 in
theorem rmayv_any (V : Ver) (hV : VerOk V) (w : World) :
    Calls Tryz.prog 148 #[vv V] w fun e w' => e = .returned (.bool (mayV V)) ∧ Below w.heap.size w w' := by
  obtain ⟨k, t, n, v, g⟩ := V
  obtain ⟨U, hU⟩ : ∃ U, U = w.alloc (.cells (encV ⟨k, t, n, v, g⟩).toArray 127) := ⟨_, rfl⟩
  have HUB : Hid (Below w.heap.size w U) := by rw [hU]; exact (Below.refl _ _).alloc (Nat.le_refl _) _
  have HAT : Hid (∀ u, Below U.heap.size U u → u.cell? ⟨w.heap.size, 16, none⟩ = some (.int .i64 t) ∧ u.cell? ⟨w.heap.size, 17, none⟩ = some (.int .u8 n) ∧ u.cell? ⟨w.heap.size, 18, none⟩ = some (.string (strOfNums v)) ∧ u.cell? ⟨w.heap.size, 19, none⟩ = some (.bool g)) := fun u hb => by
    have h : VerAt U w.heap.size 0 ⟨k, t, n, v, g⟩ := by rw [hU]; exact VerAt.made w 127 _
    exact (h.past hb).cells0 hV.key
  have HVE : Hid (w.alloc (.cells (encV ⟨k, t, n, v, g⟩).toArray 127) = U) := hU.symm
  have CG : Hid (∀ u, Calls Tryz.prog 67 #[.agg #[.int .i64 t, .int .u8 n]] u fun e w' => e = .returned (.bool (decide (okS t))) ∧ Below u.heap.size u w') := fun u => rgood6_any t n u
  have hsz : (strOfNums v).size = v.length := strOfNums_size v
  obtain ⟨X, hX⟩ : ∃ X, X = strOfNums v := ⟨_, rfl⟩
  obtain ⟨m, hm⟩ : ∃ m, m = v.length := ⟨_, rfl⟩
  have hfew : m ≤ 1000000 := by rw [hm]; exact hV.few
  have hemp : X.toList.isEmpty = decide (v = []) := by
    rw [hX, ByteArray.toList_eq, strOfNums_data]
    cases v with
    | nil => rfl
    | cons z r => simp
  have hmay : mayV ⟨k, t, n, v, g⟩ = (decide (okS t) && decide (m ≤ 200) && (!g || decide (v = []))) := by rw [hm]; rfl
  obtain ⟨R, hR⟩ : ∃ R, R = mayV ⟨k, t, n, v, g⟩ := ⟨_, rfl⟩
  rw [← hR] at hmay ⊢
  rw [← hX, ← hm] at hsz
  rw [← hX] at HAT
  obtain ⟨q0, q1, q2, q3⟩ := HAT.out U (Below.refl _ _)
  clear hV hU hX hm hR
  by_cases h1 : okS t
  · have d1 : decide (okS t) = true := decide_eq_true h1
    rw [d1] at CG hmay
    by_cases h2 : m ≤ 200
    · have d2 : decide ((m : Int) ≤ 200) = true := decide_eq_true (by omega)
      have d2n : decide (m ≤ 200) = true := decide_eq_true h2
      cases g with
      | true =>
        by_cases h3 : v = []
        · have hR : R = true := by rw [hmay, d2n, decide_eq_true h3]; rfl
          rw [hR]
          rw [decide_eq_true h3] at hemp
          clear hmay hR h1 h3 d1 d2n
          go_enter Tryz.func148, Tryz.ntmps148
          go_wp2_with (first | (have hgo := HVE.out; (with_reducible show wpList _ _ _ (Oper.mk (some 3) _ _ _ _ _ :: _) _ _); clear hgo; rw [HVE.out]; clear HVE) | (go_at_call 67; refine (CG.out _).mono ?_; rintro e w1 ⟨rfl, hb1⟩; have B1 : Hid (Below U.heap.size U w1) := hb1; obtain ⟨r0, r1, r2, r3⟩ := HAT.out w1 hb1; clear hb1))
          go_ret
          exact ⟨rfl, HUB.out.trans (B1.out.mono HUB.out.size)⟩
        · have hR : R = false := by rw [hmay, d2n, decide_eq_false h3]; rfl
          rw [hR]
          rw [decide_eq_false h3] at hemp
          clear hmay hR h1 h3 d1 d2n
          go_enter Tryz.func148, Tryz.ntmps148
          go_wp2_with (first | (have hgo := HVE.out; (with_reducible show wpList _ _ _ (Oper.mk (some 3) _ _ _ _ _ :: _) _ _); clear hgo; rw [HVE.out]; clear HVE) | (go_at_call 67; refine (CG.out _).mono ?_; rintro e w1 ⟨rfl, hb1⟩; have B1 : Hid (Below U.heap.size U w1) := hb1; obtain ⟨r0, r1, r2, r3⟩ := HAT.out w1 hb1; clear hb1))
          go_ret
          exact ⟨rfl, HUB.out.trans (B1.out.mono HUB.out.size)⟩
      | false =>
        have hR : R = true := by rw [hmay, d2n]; rfl
        rw [hR]
        clear hmay hR h1 d1 d2n hemp
        go_enter Tryz.func148, Tryz.ntmps148
        go_wp2_with (first | (have hgo := HVE.out; (with_reducible show wpList _ _ _ (Oper.mk (some 3) _ _ _ _ _ :: _) _ _); clear hgo; rw [HVE.out]; clear HVE) | (go_at_call 67; refine (CG.out _).mono ?_; rintro e w1 ⟨rfl, hb1⟩; have B1 : Hid (Below U.heap.size U w1) := hb1; obtain ⟨r0, r1, r2, r3⟩ := HAT.out w1 hb1; clear hb1))
        go_ret
        exact ⟨rfl, HUB.out.trans (B1.out.mono HUB.out.size)⟩
    · have d2 : decide ((m : Int) ≤ 200) = false := decide_eq_false (by omega)
      have hR : R = false := by rw [hmay, decide_eq_false h2]; rfl
      rw [hR]
      clear hmay hR h1 d1 hemp
      go_enter Tryz.func148, Tryz.ntmps148
      go_wp2_with (first | (have hgo := HVE.out; (with_reducible show wpList _ _ _ (Oper.mk (some 3) _ _ _ _ _ :: _) _ _); clear hgo; rw [HVE.out]; clear HVE) | (go_at_call 67; refine (CG.out _).mono ?_; rintro e w1 ⟨rfl, hb1⟩; have B1 : Hid (Below U.heap.size U w1) := hb1; obtain ⟨r0, r1, r2, r3⟩ := HAT.out w1 hb1; clear hb1))
      go_ret
      exact ⟨rfl, HUB.out.trans (B1.out.mono HUB.out.size)⟩
  · have d1 : decide (okS t) = false := decide_eq_false h1
    rw [d1] at CG hmay
    have hR : R = false := by rw [hmay]; rfl
    rw [hR]
    clear hmay hR h1 d1 hemp
    go_enter Tryz.func148, Tryz.ntmps148
    go_wp2_with (first | (have hgo := HVE.out; (with_reducible show wpList _ _ _ (Oper.mk (some 3) _ _ _ _ _ :: _) _ _); clear hgo; rw [HVE.out]; clear HVE) | (go_at_call 67; refine (CG.out _).mono ?_; rintro e w1 ⟨rfl, hb1⟩; have B1 : Hid (Below U.heap.size U w1) := hb1; obtain ⟨r0, r1, r2, r3⟩ := HAT.out w1 hb1; clear hb1))
    go_ret
    exact ⟨rfl, HUB.out.trans (B1.out.mono HUB.out.size)⟩
/-- A key and an empty stamp, each in a block of its own. -/
structure KeyNil (w u : World) (k : List Int) : Prop where
  key : KeyAt u w.heap.size 0 k
  c0 : u.cell? ⟨w.heap.size + 1, 0, none⟩ = some (.int .i64 0)
  c1 : u.cell? ⟨w.heap.size + 1, 1, none⟩ = some (.int .u8 0)
  free : ∀ j, u.frozen? ⟨w.heap.size + 1, j, none⟩ = false
  below : Below w.heap.size w u
  lt : w.heap.size + 1 < u.heap.size
theorem KeyNil.made (w : World) (k : List Int) (hk : Ky k) (T T' : TypeId) : KeyNil w ((w.alloc (.cells (kcs k) T)).alloc (.cells #[.int .i64 0, .int .u8 0] T')) k := by
  obtain ⟨u1, h1⟩ : ∃ u, u = w.alloc (.cells (kcs k) T) := ⟨_, rfl⟩
  have e1 : u1.heap.size = w.heap.size + 1 := by rw [h1]; simp
  have b1 : Below w.heap.size w u1 := by rw [h1]; exact (Below.refl _ _).alloc (Nat.le_refl _) _
  have k1 : KeyAt u1 w.heap.size 0 k := by rw [h1]; exact KeyAt.made w T k hk
  rw [← h1]
  refine ⟨k1.past ((Below.refl _ _).alloc (Nat.le_refl _) _), ?_, ?_, fun j => ?_, b1.alloc (by omega) _, by simp; omega⟩
  · rw [← e1, World.cell?_alloc_new]; rfl
  · rw [← e1, World.cell?_alloc_new]; rfl
  · rw [← e1]; exact World.frozen?_alloc_new _ _ _ _
theorem KeyNil.step {w u v : World} {k : List Int} (h : KeyNil w u k) (hb : Below u.heap.size u v) : KeyNil w v k := by
  have hl := h.lt
  exact ⟨h.key.past hb, (hb.cell (p := ⟨w.heap.size + 1, 0, none⟩) hl).trans h.c0, (hb.cell (p := ⟨w.heap.size + 1, 1, none⟩) hl).trans h.c1, fun j => (hb.frozen (p := ⟨w.heap.size + 1, j, none⟩) hl).trans (h.free j), h.below.trans (hb.mono h.below.size), Nat.lt_of_lt_of_le hl hb.size⟩
theorem newest_none {L : List Ver} {k : List Int} (h : kMany L k = 0) : newestV L k = none := by
  have : chainV L k = [] := List.eq_nil_of_length_eq_zero (by rw [chain_len, h])
  unfold newestV
  rw [this]
  rfl
theorem newest_some {L : List Ver} {k : List Int} {m : Nat} {V : Ver} (h : kMany L k = m + 1) (hV : L[kFrom L k + m]? = some V) : newestV L k = some V := by
  unfold newestV
  rw [List.getLast?_eq_getElem?, chain_len, h, Nat.add_sub_cancel, chain_at L k m (by omega), hV]
theorem set2 {u : World} {b : Nat} {x y : Value} (x' y' : Value) (h0 : u.cell? ⟨b, 0, none⟩ = some x) (h1 : u.cell? ⟨b, 1, none⟩ = some y) : ((u.setCell ⟨b, 0, none⟩ x').setCell ⟨b, 1, none⟩ y').cell? ⟨b, 0, none⟩ = some x' ∧ ((u.setCell ⟨b, 0, none⟩ x').setCell ⟨b, 1, none⟩ y').cell? ⟨b, 1, none⟩ = some y' := by
  refine ⟨(World.cell?_setCell_other _ _ _ _ (by intro e; injection e with _ e2; omega)).trans (World.cell?_setCell_same _ _ _ h0), World.cell?_setCell_same _ _ _ ((World.cell?_setCell_other _ _ _ _ (by intro e; injection e with _ e2; omega)).trans h1)⟩
def newT (o : Option Ver) : Int := match o with | none => 0 | some V => V.t
def newN (o : Option Ver) : Int := match o with | none => 0 | some V => V.n
set_option maxHeartbeats 1000000 in
theorem rnewest_any (B p : Nat) (L : List Ver) (k : List Int) (hk : Ky k) (w : World) (h : StoreR w B p L) :
    Calls Tryz.prog 62 #[.pointer (some ⟨p, 0, none⟩), kv k] w fun e w' => e = .returned (.tuple #[.agg #[.int .i64 (newT (newestV L k)), .int .u8 (newN (newestV L k))], .bool (newestV L k).isSome]) ∧ Below w.heap.size w w' := by
  have H0 : Hid (KeyNil w ((w.alloc (.cells (kcs k) 38)).alloc (.cells #[.int .i64 0, .int .u8 0] 28)) k) := KeyNil.made w k hk 38 28
  obtain ⟨i, hi⟩ : ∃ i, i = kFrom L k := ⟨_, rfl⟩
  obtain ⟨m, hm⟩ : ∃ m, m = kMany L k := ⟨_, rfl⟩
  have hle := kMany_le L k
  have hfew := h.few
  obtain ⟨N, hN⟩ : ∃ N, N = L.length := ⟨_, rfl⟩
  obtain ⟨a0, c0, hcap, hcell, hs⟩ := h.open
  rw [← hN] at hcap hcell hle hfew
  rw [← hi, ← hm] at hle
  have CH : Hid (∀ u, Below w.heap.size w u → Calls Tryz.prog 112 #[.pointer (some ⟨p, 0, none⟩), kv k] u fun e w' => e = .returned (.tuple #[.int .i64 (i : Nat), .int .i64 ((i + m : Nat) : Int)]) ∧ Below u.heap.size u w') := fun u hb => by
    rw [hi, hm]; exact rchain_any B p L k hk u (h.past hb)
  have HCE : Hid (∀ v, Below w.heap.size w v → v.cell? ⟨p, 0, none⟩ = some (.slice a0 N c0)) := hcell
  have HKK : Hid (Ky k) := hk
  by_cases h0 : m = 0
  · have e : newestV L k = none := newest_none (by rw [← hm]; exact h0)
    rw [e]
    subst h0
    have bq : (((i : Nat) : Int) == ((i + 0 : Nat) : Int)) = true := by simp
    clear h hs hcell hk hi hm hN e
    show Calls _ _ _ _ fun e w' => e = .returned (.tuple #[.agg #[.int .i64 0, .int .u8 0], .bool false]) ∧ Below w.heap.size w w'
    go_enter Tryz.func62, Tryz.ntmps62
    go_wp2_with (first | (refine wpList_load_keyD 10 (by rfl) (by rfl) _ (by rfl) w.heap.size 0 (by rfl) k HKK.out H0.out.key ?_) | (go_at_call 112; refine (CH.out _ H0.out.below).mono ?_; rintro e w1 ⟨rfl, hb1⟩; have H1 : Hid (KeyNil w w1 k) := H0.out.step hb1; have z0 := H1.out.c0; have z1 := H1.out.c1; have f0 := H1.out.free 0; have f1 := H1.out.free 1; clear hb1))
    obtain ⟨r1, r2⟩ := set2 (.int .i64 0) (.int .u8 0) z0 z1
    (try simp only [Exit.inBlock, Exit.then])
    refine bodyPost_ret (v := .tuple #[.agg #[.int .i64 0, .int .u8 0], .bool false]) (by simp [results, Tryz.results62, go_sem, r1, r2]) rfl ?_
    exact ⟨rfl, (H1.out.below.setCell (by show w.heap.size ≤ w.heap.size + 1; omega) _).setCell (by show w.heap.size ≤ w.heap.size + 1; omega) _⟩
  · obtain ⟨q, rfl⟩ : ∃ q, m = q + 1 := ⟨m - 1, by omega⟩
    obtain ⟨V, hV⟩ : ∃ V, L[i + q]? = some V := ⟨_, List.getElem?_eq_getElem (by rw [← hN]; omega)⟩
    have e : newestV L k = some V := newest_some hm.symm (by rw [← hi]; exact hV)
    rw [e]
    have hVk := (h.oks V (List.mem_of_getElem? hV)).key
    obtain ⟨g, e1, _, _, e4⟩ : ∃ g, a0 = some ⟨g, 0, none⟩ ∧ g < w.heap.size ∧ B ≤ g ∧ ∀ v, Below w.heap.size w v → ∀ i V, L[i]? = some V → VerAt v g (i * 20) V := by
      rcases hs with hs | hs
      · rw [hs] at hV; simp at hV
      · exact hs
    subst e1
    have HVA : Hid (∀ v, Below w.heap.size w v → v.cell? ⟨g, (i + q) * 20 + 16, none⟩ = some (.int .i64 V.t) ∧ v.cell? ⟨g, (i + q) * 20 + 17, none⟩ = some (.int .u8 V.n)) := fun v hb => by
      have := (e4 v hb _ _ hV).cells hVk
      exact ⟨this.1, this.2.1⟩
    obtain ⟨t, n, ht, hn⟩ : ∃ t n, t = V.t ∧ n = V.n := ⟨_, _, rfl, rfl⟩
    rw [← ht, ← hn] at HVA
    show Calls _ _ _ _ fun e w' => e = .returned (.tuple #[.agg #[.int .i64 V.t, .int .u8 V.n], .bool true]) ∧ Below w.heap.size w w'
    rw [← ht, ← hn]
    obtain ⟨J, hJ⟩ : ∃ J, J = i + q := ⟨_, rfl⟩
    rw [← hJ] at HVA
    have e5 : ((i + (q + 1) : Nat) : Int) = (J : Int) + 1 := by omega
    rw [e5] at CH
    have bq : (((i : Nat) : Int) == (J : Int) + 1) = false := by simp; omega
    have hJN : J < N := by omega
    clear h hs hcell hk hi hm hN e e4 hV hVk ht hn h0 e5 hJ hle
    go_enter Tryz.func62, Tryz.ntmps62
    go_wp2_with (first | (refine wpList_load_keyD 10 (by rfl) (by rfl) _ (by rfl) w.heap.size 0 (by rfl) k HKK.out H0.out.key ?_) | (go_at_call 112; refine (CH.out _ H0.out.below).mono ?_; rintro e w1 ⟨rfl, hb1⟩; have H1 : Hid (KeyNil w w1 k) := H0.out.step hb1; have z0 := H1.out.c0; have z1 := H1.out.c1; have f0 := H1.out.free 0; have f1 := H1.out.free 1; have y0 := HCE.out w1 H1.out.below; obtain ⟨y1, y2⟩ := HVA.out w1 H1.out.below; clear hb1))
    obtain ⟨r1, r2⟩ := set2 (.int .i64 t) (.int .u8 n) z0 z1
    (try simp only [Exit.inBlock, Exit.then])
    refine bodyPost_ret (v := .tuple #[.agg #[.int .i64 t, .int .u8 n], .bool true]) (by simp [results, Tryz.results62, go_sem, r1, r2]) rfl ?_
    exact ⟨rfl, (H1.out.below.setCell (by show w.heap.size ≤ w.heap.size + 1; omega) _).setCell (by show w.heap.size ≤ w.heap.size + 1; omega) _⟩
end Go.Proofs.YtileidbdmpeciaaGreat

namespace Go.Proofs.YtileidbdmpeciaaGreat
open Go.RowKit
set_option linter.unusedVariables false

/-- A key, a stamp, an empty version, each in a block of its own. -/
structure KeyStV (w u : World) (k : List Int) (t n : Int) (V : Ver) : Prop where
  key : KeyAt u w.heap.size 0 k
  s0 : u.cell? ⟨w.heap.size + 1, 0, none⟩ = some (.int .i64 t)
  s1 : u.cell? ⟨w.heap.size + 1, 1, none⟩ = some (.int .u8 n)
  ver : VerMine u (w.heap.size + 2) 0 V
  below : Below w.heap.size w u
theorem KeyStV.made (w : World) (k : List Int) (hk : Ky k) (t n : Int) (T T' T'' : TypeId) : KeyStV w (((w.alloc (.cells (kcs k) T)).alloc (.cells #[.int .i64 t, .int .u8 n] T')).alloc (.cells (encV zeroV).toArray T'')) k t n zeroV := by
  obtain ⟨u1, h1⟩ : ∃ u, u = w.alloc (.cells (kcs k) T) := ⟨_, rfl⟩
  have e1 : u1.heap.size = w.heap.size + 1 := by rw [h1]; simp
  have b1 : Below w.heap.size w u1 := by rw [h1]; exact (Below.refl _ _).alloc (Nat.le_refl _) _
  have k1 : KeyAt u1 w.heap.size 0 k := by rw [h1]; exact KeyAt.made w T k hk
  rw [← h1]
  obtain ⟨u2, h2⟩ : ∃ u, u = u1.alloc (.cells #[.int .i64 t, .int .u8 n] T') := ⟨_, rfl⟩
  have e2 : u2.heap.size = w.heap.size + 2 := by rw [h2]; simp; omega
  have b2 : Below u1.heap.size u1 u2 := by rw [h2]; exact (Below.refl _ _).alloc (Nat.le_refl _) _
  have c0 : u2.cell? ⟨w.heap.size + 1, 0, none⟩ = some (.int .i64 t) := by rw [h2, ← e1, World.cell?_alloc_new]; rfl
  have c1 : u2.cell? ⟨w.heap.size + 1, 1, none⟩ = some (.int .u8 n) := by rw [h2, ← e1, World.cell?_alloc_new]; rfl
  rw [← h2]
  have b3 : Below u2.heap.size u2 (u2.alloc (.cells (encV zeroV).toArray T'')) := (Below.refl _ _).alloc (Nat.le_refl _) _
  refine ⟨(k1.past b2).past b3, (b3.cell (p := ⟨w.heap.size + 1, 0, none⟩) (by rw [e2]; exact Nat.lt_succ_self _)).trans c0, (b3.cell (p := ⟨w.heap.size + 1, 1, none⟩) (by rw [e2]; exact Nat.lt_succ_self _)).trans c1, ?_, b1.trans ((b2.trans (b3.mono b2.size)).mono b1.size)⟩
  rw [← e2]
  exact VerMine.made u2 T'' zeroV zeroV_ky
theorem KeyStV.step {w u v : World} {k : List Int} {t n : Int} {V : Ver} (h : KeyStV w u k t n V) (hb : Below u.heap.size u v) : KeyStV w v k t n V :=
  ⟨h.key.past hb, (hb.cell (p := ⟨w.heap.size + 1, 0, none⟩) (cell_lt h.s0)).trans h.s0, (hb.cell (p := ⟨w.heap.size + 1, 1, none⟩) (cell_lt h.s1)).trans h.s1, h.ver.past hb, h.below.trans (hb.mono h.below.size)⟩
theorem at_none {L : List Ver} {k : List Int} {t n : Int} (h : ∀ j V, j < kMany L k → L[kFrom L k + j]? = some V → ¬ cmpS V.t V.n t n ≤ 0) : atV L k t n = none := by
  unfold atV
  rw [List.find?_eq_none]
  intro V hV
  rw [List.mem_reverse] at hV
  obtain ⟨j, hj, e⟩ := List.getElem_of_mem hV
  rw [chain_len] at hj
  have e2 : (chainV L k)[j]? = some V := by rw [List.getElem?_eq_getElem (by rw [chain_len]; exact hj), e]
  rw [chain_at L k j hj] at e2
  simpa using h j V hj e2
theorem find_last {α : Type} {p : α → Bool} : ∀ (l : List α) (j : Nat) (V : α), l[j]? = some V → p V = true → (∀ i X, j < i → l[i]? = some X → p X = false) → l.reverse.find? p = some V := by
  intro l
  induction l with
  | nil => intro j V h; simp at h
  | cons Y r ih =>
    intro j V h hp hx
    rw [List.reverse_cons, List.find?_append]
    cases j with
    | zero =>
      simp at h
      subst h
      have : r.reverse.find? p = none := by
        rw [List.find?_eq_none]
        intro X hX
        rw [List.mem_reverse] at hX
        obtain ⟨i, hi, e⟩ := List.getElem_of_mem hX
        have := hx (i + 1) X (by omega) (by simp [hi, e])
        simp [this]
      rw [this]
      simp [hp]
    | succ j =>
      rw [ih j V (by simpa using h) hp (fun i X hi hX => hx (i + 1) X (by omega) (by simpa using hX))]
      rfl
theorem at_some {L : List Ver} {k : List Int} {t n : Int} {j : Nat} {V : Ver} (hj : j < kMany L k) (hV : L[kFrom L k + j]? = some V) (hc : cmpS V.t V.n t n ≤ 0) (h : ∀ i X, j < i → i < kMany L k → L[kFrom L k + i]? = some X → ¬ cmpS X.t X.n t n ≤ 0) : atV L k t n = some V := by
  unfold atV
  refine find_last _ j V (by rw [chain_at L k j hj]; exact hV) (decide_eq_true hc) (fun i X hi hX => decide_eq_false ?_)
  have hil : i < kMany L k := by
    have := (List.getElem?_eq_some_iff.1 hX).1
    rwa [chain_len] at this
  rw [chain_at L k i hil] at hX
  exact h i X hi hil hX
def orZero (o : Option Ver) : Ver := match o with | none => zeroV | some V => V
set_option maxHeartbeats 4000000 in
set_option maxRecDepth 4000 in
theorem rat10_any (B p : Nat) (L : List Ver) (k : List Int) (t n : Int) (hk : Ky k) (w : World) (h : StoreR w B p L) :
    Calls Tryz.prog 73 #[.pointer (some ⟨p, 0, none⟩), kv k, .agg #[.int .i64 t, .int .u8 n]] w fun e w' => e = .returned (.tuple #[vv (orZero (atV L k t n)), .bool (atV L k t n).isSome]) ∧ Below w.heap.size w w' := by
  have H0 : Hid (KeyStV w (((w.alloc (.cells (kcs k) 38)).alloc (.cells #[.int .i64 t, .int .u8 n] 28)).alloc (.cells (encV zeroV).toArray 127)) k t n zeroV) := KeyStV.made w k hk t n 38 28 127
  rw [zeroV_cells] at H0
  obtain ⟨i, hi⟩ : ∃ i, i = kFrom L k := ⟨_, rfl⟩
  obtain ⟨m, hm⟩ : ∃ m, m = kMany L k := ⟨_, rfl⟩
  have hle := kMany_le L k
  have hfew := h.few
  obtain ⟨N, hN⟩ : ∃ N, N = L.length := ⟨_, rfl⟩
  obtain ⟨a0, c0, hcap, hcell, hs⟩ := h.open
  rw [← hN] at hcap hcell hle hfew
  rw [← hi, ← hm] at hle
  have CH : Hid (∀ u, Below w.heap.size w u → Calls Tryz.prog 112 #[.pointer (some ⟨p, 0, none⟩), kv k] u fun e w' => e = .returned (.tuple #[.int .i64 (i : Nat), .int .i64 ((i + m : Nat) : Int)]) ∧ Below u.heap.size u w') := fun u hb => by
    rw [hi, hm]; exact rchain_any B p L k hk u (h.past hb)
  have HCE : Hid (∀ v, Below w.heap.size w v → v.cell? ⟨p, 0, none⟩ = some (.slice a0 N c0)) := hcell
  have HKK : Hid (Ky k) := hk
  have HOK : Hid (OkL L) := h.oks
  have HN : Hid (L.length = N) := hN.symm
  have HI : Hid (kFrom L k = i) := hi.symm
  have HM : Hid (kMany L k = m) := hm.symm
  have HS : Hid (L ≠ [] → ∃ g, a0 = some ⟨g, 0, none⟩ ∧ Hid (∀ v, Below w.heap.size w v → ∀ i V, L[i]? = some V → VerAt v g (i * 20) V)) := fun hne => by
    rcases hs with e | ⟨g, e1, _, _, e4⟩
    · exact absurd e hne
    · exact ⟨g, e1, e4⟩
  obtain ⟨R, hR⟩ : ∃ R, R = atV L k t n := ⟨_, rfl⟩
  have HR : Hid (R = atV L k t n) := hR
  rw [← hR]
  have CC : Hid (∀ t1 n1 u, Calls Tryz.prog 39 #[.agg #[.int .i64 t1, .int .u8 n1], .agg #[.int .i64 t, .int .u8 n]] u fun e w' => e = .returned (.int .i64 (cmpS t1 n1 t n)) ∧ Below u.heap.size u w') := fun t1 n1 u => rcmp6_any t1 n1 t n u
  clear h hs hcell hk hi hm hN hR
  go_enter Tryz.func73, Tryz.ntmps73
  go_wp2_with (first | (refine wpList_load_keyD 13 (by rfl) (by rfl) _ (by rfl) w.heap.size 0 (by rfl) k HKK.out H0.out.key ?_) | (go_at_call 112; refine (CH.out _ H0.out.below).mono ?_; rintro e w1 ⟨rfl, hb1⟩; have H1 : Hid (KeyStV w w1 k t n zeroV) := H0.out.step hb1; clear hb1))
  go_loopw [10] (fun jv wr => ∃ q : Nat, jv = .int .i64 ((i : Int) + (q : Int) - 1) ∧ q ≤ m ∧ Hid (KeyStV w wr k t n zeroV) ∧ Hid (∀ j X, q ≤ j → j < m → L[i + j]? = some X → ¬ cmpS X.t X.n t n ≤ 0)) (fun jv _ => (intOf jv - i + 1).toNat)
  case atStart => exact ⟨m, by push_cast; rfl, Nat.le_refl _, H1.out, fun j X h1 h2 => by omega⟩
  case round =>
    obtain ⟨q, rfl, hq, HW, HX⟩ := hrel
    by_cases h0 : q = 0
    · have HRN : Hid (R = none) := by
        show R = none
        rw [HR.out]
        exact at_none (fun j V hj hV => by rw [HM.out] at hj; rw [HI.out] at hV; exact HX.out j V (by omega) hj hV)
      subst h0
      have bq : decide ((i : Int) ≤ (i : Int) + ((0 : Nat) : Int) - 1) = false := decide_eq_false (by omega)
      have HVM : Hid (VerMine wr (w.heap.size + 2) 0 zeroV) := HW.out.ver
      clear HX
      go_wp2_with (refine wpList_store_ver (.tmp 6) (by rfl) _ (by rfl) (w.heap.size + 2) 0 zeroV zeroV (by rfl) (by rfl) zeroV_ky HVM.out ?_; intro u hu; have HD : Hid (VerMine u (w.heap.size + 2) 0 zeroV) := hu ▸ HVM.out.store zeroV_ky; have HBU : Hid (Below w.heap.size w u) := hu ▸ below_cells (by omega) HW.out.below; clear hu)
      (try simp only [Exit.inBlock, Exit.then])
      refine bodyPost_ret (results_ver rfl _ _ (w.heap.size + 2) 0 zeroV rfl zeroV_ky HD.out.at_) rfl ?_
      rw [HRN.out]
      exact ⟨rfl, HBU.out⟩
    · obtain ⟨J, hJ⟩ : ∃ J : Nat, (i : Int) + (q : Int) - 1 = (J : Int) := ⟨i + q - 1, by omega⟩
      rw [hJ]
      have hJN : J < N := by omega
      have bq : decide ((i : Int) ≤ (J : Int)) = true := decide_eq_true (by omega)
      obtain ⟨V1, hV1⟩ : ∃ V, L[J]? = some V := ⟨_, List.getElem?_eq_getElem (by rw [HN.out]; exact hJN)⟩
      have HV : Hid (L[J]? = some V1) := hV1
      have HVK : Hid (Ky V1.k) := (HOK.out V1 (List.mem_of_getElem? hV1)).key
      obtain ⟨g, hag, HG⟩ := HS.out (by intro e; rw [e] at hV1; simp at hV1)
      have HC0 : Hid (∀ u, Below wr.heap.size wr u → u.cell? ⟨p, 0, none⟩ = some (.slice (some ⟨g, 0, none⟩) N c0)) := fun u hb => by rw [← hag]; exact HCE.out u (HW.out.below.trans (hb.mono HW.out.below.size))
      have FV : Hid (∀ u, Below wr.heap.size wr u → VerAt u g (J * 20) V1) := fun u hb => HG.out u (HW.out.below.trans (hb.mono HW.out.below.size)) _ _ hV1
      obtain ⟨t1, n1, ht1, hn1⟩ : ∃ t1 n1, t1 = V1.t ∧ n1 = V1.n := ⟨_, _, rfl, rfl⟩
      have HTN : Hid (t1 = V1.t ∧ n1 = V1.n) := ⟨ht1, hn1⟩
      have FZ : Hid (∀ u, Below wr.heap.size wr u → u.cell? ⟨g, J * 20 + 16, none⟩ = some (.int .i64 t1) ∧ u.cell? ⟨g, J * 20 + 17, none⟩ = some (.int .u8 n1)) := fun u hb => by
        have := (FV.out u hb).cells HVK.out
        rw [ht1, hn1]
        exact ⟨this.1, this.2.1⟩
      have FT : Hid (∀ u, Below wr.heap.size wr u → u.cell? ⟨w.heap.size + 1, 0, none⟩ = some (.int .i64 t) ∧ u.cell? ⟨w.heap.size + 1, 1, none⟩ = some (.int .u8 n)) := fun u hb => ⟨(HW.out.step hb).s0, (HW.out.step hb).s1⟩
      obtain ⟨c1, hc1⟩ : ∃ c, c = cmpS t1 n1 t n := ⟨_, rfl⟩
      have HC1 : Hid (c1 = cmpS V1.t V1.n t n) := by show c1 = _; rw [hc1, ht1, hn1]
      have CC1 : Hid (∀ u, Calls Tryz.prog 39 #[.agg #[.int .i64 t1, .int .u8 n1], .agg #[.int .i64 t, .int .u8 n]] u fun e w' => e = .returned (.int .i64 c1) ∧ Below u.heap.size u w') := fun u => by rw [hc1]; exact CC.out t1 n1 u
      clear hV1 hag ht1 hn1 hc1
      by_cases hle1 : c1 ≤ 0
      · have bc : decide (c1 ≤ 0) = true := decide_eq_true hle1
        have HRN : Hid (R = some V1) := by
          show R = _
          rw [HR.out]
          refine at_some (j := q - 1) (by rw [HM.out]; omega) (by rw [HI.out, show i + (q - 1) = J by omega]; exact HV.out) (by rw [← HC1.out]; exact hle1) (fun j X h1 h2 h3 => ?_)
          rw [HM.out] at h2
          rw [HI.out] at h3
          exact HX.out j X (by omega) h2 h3
        clear HX
        go_wp2
        refine wp_region_noPanic ?_
        refine wp_region_held_drew (S := fun u => Below wr.heap.size wr u) (by kernel_rfl) ?_ (fun hHeld => ?_)
        · exact (Below.refl _ _).drew
        refine wpAnyH_take (i := 0) (v := ?_) rfl (by kernel_rfl) (by kernel_rfl) (by kernel_rfl) (fun _ _ _ h => h) (Or.inl ⟨by rfl, ?_⟩) hHeld ?_
        rotate_left
        · intro u hSu
          (go_simp) <;> (with_reducible rfl)
        change wpAnyH _ _ _ _ _ _ _ (Act.put _ (some 24) _) _
        simp only [Act.put, List.setIfInBounds_toArray, List.set_cons_zero, List.set_cons_succ]
        refine wpAnyH_take (i := 1) (v := ?_) rfl (by kernel_rfl) (by kernel_rfl) (by kernel_rfl) (fun _ _ _ h => h) (Or.inl ⟨by rfl, ?_⟩) hHeld ?_
        rotate_left
        · intro u hSu
          (go_simp) <;> (with_reducible rfl)
        change wpAnyH _ _ _ _ _ _ _ (Act.put _ (some 25) _) _
        simp only [Act.put, List.setIfInBounds_toArray, List.set_cons_zero, List.set_cons_succ]
        refine wpAnyH_take (i := 2) (v := ?_) rfl (by kernel_rfl) (by kernel_rfl) (by kernel_rfl) (fun _ _ _ h => h) (Or.inl ⟨by rfl, ?_⟩) hHeld ?_
        rotate_left
        · intro u hSu
          (go_simp) <;> (with_reducible rfl)
        change wpAnyH _ _ _ _ _ _ _ (Act.put _ (some 26) _) _
        simp only [Act.put, List.setIfInBounds_toArray, List.set_cons_zero, List.set_cons_succ]
        refine wpAnyH_take (i := 3) (v := ?_) rfl (by kernel_rfl) (by kernel_rfl) (by kernel_rfl) (fun _ _ _ h => h) (Or.inl ⟨by rfl, ?_⟩) hHeld ?_
        rotate_left
        · intro u hSu
          have q0 := HC0.out u hSu
          (go_simp) <;> (with_reducible rfl)
        change wpAnyH _ _ _ _ _ _ _ (Act.put _ (some 27) _) _
        simp only [Act.put, List.setIfInBounds_toArray, List.set_cons_zero, List.set_cons_succ]
        refine wpAnyH_take (i := 4) (v := ?_) rfl (by kernel_rfl) (by kernel_rfl) (by kernel_rfl) (fun _ _ _ h => h) (Or.inl ⟨by rfl, ?_⟩) hHeld ?_
        rotate_left
        · intro u hSu
          (go_simp) <;> (with_reducible rfl)
        change wpAnyH _ _ _ _ _ _ _ (Act.put _ (some 28) _) _
        simp only [Act.put, List.setIfInBounds_toArray, List.set_cons_zero, List.set_cons_succ]
        refine wpAnyH_take (i := 5) (v := ?_) rfl (by kernel_rfl) (by kernel_rfl) (by kernel_rfl) (fun _ _ _ h => h) (Or.inl ⟨by rfl, ?_⟩) hHeld ?_
        rotate_left
        · intro u hSu
          (go_simp) <;> (with_reducible rfl)
        change wpAnyH _ _ _ _ _ _ _ (Act.put _ (some 29) _) _
        simp only [Act.put, List.setIfInBounds_toArray, List.set_cons_zero, List.set_cons_succ]
        refine wpAnyH_take (i := 6) (v := ?_) rfl (by kernel_rfl) (by kernel_rfl) (by kernel_rfl) (fun _ _ _ h => h) (Or.inl ⟨by rfl, ?_⟩) hHeld ?_
        rotate_left
        · intro u hSu
          (go_simp) <;> (with_reducible rfl)
        change wpAnyH _ _ _ _ _ _ _ (Act.put _ (some 30) _) _
        simp only [Act.put, List.setIfInBounds_toArray, List.set_cons_zero, List.set_cons_succ]
        refine wpAnyH_take (i := 7) (v := ?_) rfl (by kernel_rfl) (by kernel_rfl) (by kernel_rfl) (fun _ _ _ h => h) (Or.inl ⟨by rfl, ?_⟩) hHeld ?_
        rotate_left
        · intro u hSu
          obtain ⟨y1, y2⟩ := FZ.out u hSu
          (go_simp) <;> (with_reducible rfl)
        change wpAnyH _ _ _ _ _ _ _ (Act.put _ (some 31) _) _
        simp only [Act.put, List.setIfInBounds_toArray, List.set_cons_zero, List.set_cons_succ]
        refine wpAnyH_take (i := 8) (v := ?_) rfl (by kernel_rfl) (by kernel_rfl) (by kernel_rfl) (fun _ _ _ h => h) (Or.inl ⟨by rfl, ?_⟩) hHeld ?_
        rotate_left
        · intro u hSu
          obtain ⟨y1, y2⟩ := FT.out u hSu
          (go_simp) <;> (with_reducible rfl)
        change wpAnyH _ _ _ _ _ _ _ (Act.put _ (some 32) _) _
        simp only [Act.put, List.setIfInBounds_toArray, List.set_cons_zero, List.set_cons_succ]
        refine wpAnyH_ready (rs := [9]) (by kernel_rfl) (by simp) ?_
        refine AllReadyH.cons rfl (fun K hK => ?_) AllReadyH.nil
        go_simp
        go_at_call 39
        refine (CC1.out _).mono ?_
        rintro e x1 ⟨rfl, hbx1⟩
        have B1 : Hid (Below wr.heap.size wr x1) := hHeld.trans (hbx1.mono hHeld.size)
        clear hbx1
        refine hK.out _ _ ?_ (fun hHeld2 => ?_)
        · exact B1.out
        clear hK K hHeld
        have hHeld := hHeld2
        clear hHeld2
        refine wpAnyH_take (i := 10) (v := ?_) rfl (by kernel_rfl) (by kernel_rfl) (by kernel_rfl) (fun _ _ _ h => h) (Or.inl ⟨by rfl, ?_⟩) hHeld ?_
        rotate_left
        · intro u hSu
          (go_simp) <;> (with_reducible rfl)
        change wpAnyH _ _ _ _ _ _ _ (Act.put _ (some 34) _) _
        simp only [Act.put, List.setIfInBounds_toArray, List.set_cons_zero, List.set_cons_succ]
        refine wpAnyH_done (by kernel_rfl) ?_ _
        refine NoPanic.normal ?_
        have HVM : Hid (VerMine x1 (w.heap.size + 2) 0 zeroV) := (HW.out.step B1.out).ver
        have HVA : Hid (VerAt x1 g (J * 20) V1) := FV.out x1 B1.out
        have q0 := HC0.out x1 B1.out
        go_wp2_with (first | (refine wpList_load_ver 41 (by rfl) (by rfl) _ (by rfl) g (J * 20) (by rfl) V1 HVK.out HVA.out ?_) | (refine wpList_store_ver (.tmp 6) (by rfl) _ (by rfl) (w.heap.size + 2) 0 zeroV V1 (by rfl) (by rfl) HVK.out HVM.out ?_; intro u hu; have HD : Hid (VerMine u (w.heap.size + 2) 0 V1) := hu ▸ HVM.out.store HVK.out; have HBU : Hid (Below w.heap.size w u) := hu ▸ below_cells (by omega) (HW.out.step B1.out).below; clear hu))
        (try simp only [Exit.inBlock, Exit.then])
        refine bodyPost_ret (results_ver rfl _ _ (w.heap.size + 2) 0 V1 rfl HVK.out HD.out.at_) rfl ?_
        rw [HRN.out]
        exact ⟨rfl, HBU.out⟩
      · have bc : decide (c1 ≤ 0) = false := decide_eq_false hle1
        go_wp2
        refine wp_region_noPanic ?_
        refine wp_region_held_drew (S := fun u => Below wr.heap.size wr u) (by kernel_rfl) ?_ (fun hHeld => ?_)
        · exact (Below.refl _ _).drew
        refine wpAnyH_take (i := 0) (v := ?_) rfl (by kernel_rfl) (by kernel_rfl) (by kernel_rfl) (fun _ _ _ h => h) (Or.inl ⟨by rfl, ?_⟩) hHeld ?_
        rotate_left
        · intro u hSu
          (go_simp) <;> (with_reducible rfl)
        change wpAnyH _ _ _ _ _ _ _ (Act.put _ (some 24) _) _
        simp only [Act.put, List.setIfInBounds_toArray, List.set_cons_zero, List.set_cons_succ]
        refine wpAnyH_take (i := 1) (v := ?_) rfl (by kernel_rfl) (by kernel_rfl) (by kernel_rfl) (fun _ _ _ h => h) (Or.inl ⟨by rfl, ?_⟩) hHeld ?_
        rotate_left
        · intro u hSu
          (go_simp) <;> (with_reducible rfl)
        change wpAnyH _ _ _ _ _ _ _ (Act.put _ (some 25) _) _
        simp only [Act.put, List.setIfInBounds_toArray, List.set_cons_zero, List.set_cons_succ]
        refine wpAnyH_take (i := 2) (v := ?_) rfl (by kernel_rfl) (by kernel_rfl) (by kernel_rfl) (fun _ _ _ h => h) (Or.inl ⟨by rfl, ?_⟩) hHeld ?_
        rotate_left
        · intro u hSu
          (go_simp) <;> (with_reducible rfl)
        change wpAnyH _ _ _ _ _ _ _ (Act.put _ (some 26) _) _
        simp only [Act.put, List.setIfInBounds_toArray, List.set_cons_zero, List.set_cons_succ]
        refine wpAnyH_take (i := 3) (v := ?_) rfl (by kernel_rfl) (by kernel_rfl) (by kernel_rfl) (fun _ _ _ h => h) (Or.inl ⟨by rfl, ?_⟩) hHeld ?_
        rotate_left
        · intro u hSu
          have q0 := HC0.out u hSu
          (go_simp) <;> (with_reducible rfl)
        change wpAnyH _ _ _ _ _ _ _ (Act.put _ (some 27) _) _
        simp only [Act.put, List.setIfInBounds_toArray, List.set_cons_zero, List.set_cons_succ]
        refine wpAnyH_take (i := 4) (v := ?_) rfl (by kernel_rfl) (by kernel_rfl) (by kernel_rfl) (fun _ _ _ h => h) (Or.inl ⟨by rfl, ?_⟩) hHeld ?_
        rotate_left
        · intro u hSu
          (go_simp) <;> (with_reducible rfl)
        change wpAnyH _ _ _ _ _ _ _ (Act.put _ (some 28) _) _
        simp only [Act.put, List.setIfInBounds_toArray, List.set_cons_zero, List.set_cons_succ]
        refine wpAnyH_take (i := 5) (v := ?_) rfl (by kernel_rfl) (by kernel_rfl) (by kernel_rfl) (fun _ _ _ h => h) (Or.inl ⟨by rfl, ?_⟩) hHeld ?_
        rotate_left
        · intro u hSu
          (go_simp) <;> (with_reducible rfl)
        change wpAnyH _ _ _ _ _ _ _ (Act.put _ (some 29) _) _
        simp only [Act.put, List.setIfInBounds_toArray, List.set_cons_zero, List.set_cons_succ]
        refine wpAnyH_take (i := 6) (v := ?_) rfl (by kernel_rfl) (by kernel_rfl) (by kernel_rfl) (fun _ _ _ h => h) (Or.inl ⟨by rfl, ?_⟩) hHeld ?_
        rotate_left
        · intro u hSu
          (go_simp) <;> (with_reducible rfl)
        change wpAnyH _ _ _ _ _ _ _ (Act.put _ (some 30) _) _
        simp only [Act.put, List.setIfInBounds_toArray, List.set_cons_zero, List.set_cons_succ]
        refine wpAnyH_take (i := 7) (v := ?_) rfl (by kernel_rfl) (by kernel_rfl) (by kernel_rfl) (fun _ _ _ h => h) (Or.inl ⟨by rfl, ?_⟩) hHeld ?_
        rotate_left
        · intro u hSu
          obtain ⟨y1, y2⟩ := FZ.out u hSu
          (go_simp) <;> (with_reducible rfl)
        change wpAnyH _ _ _ _ _ _ _ (Act.put _ (some 31) _) _
        simp only [Act.put, List.setIfInBounds_toArray, List.set_cons_zero, List.set_cons_succ]
        refine wpAnyH_take (i := 8) (v := ?_) rfl (by kernel_rfl) (by kernel_rfl) (by kernel_rfl) (fun _ _ _ h => h) (Or.inl ⟨by rfl, ?_⟩) hHeld ?_
        rotate_left
        · intro u hSu
          obtain ⟨y1, y2⟩ := FT.out u hSu
          (go_simp) <;> (with_reducible rfl)
        change wpAnyH _ _ _ _ _ _ _ (Act.put _ (some 32) _) _
        simp only [Act.put, List.setIfInBounds_toArray, List.set_cons_zero, List.set_cons_succ]
        refine wpAnyH_ready (rs := [9]) (by kernel_rfl) (by simp) ?_
        refine AllReadyH.cons rfl (fun K hK => ?_) AllReadyH.nil
        go_simp
        go_at_call 39
        refine (CC1.out _).mono ?_
        rintro e x1 ⟨rfl, hbx1⟩
        have B1 : Hid (Below wr.heap.size wr x1) := hHeld.trans (hbx1.mono hHeld.size)
        clear hbx1
        refine hK.out _ _ ?_ (fun hHeld2 => ?_)
        · exact B1.out
        clear hK K hHeld
        have hHeld := hHeld2
        clear hHeld2
        refine wpAnyH_take (i := 10) (v := ?_) rfl (by kernel_rfl) (by kernel_rfl) (by kernel_rfl) (fun _ _ _ h => h) (Or.inl ⟨by rfl, ?_⟩) hHeld ?_
        rotate_left
        · intro u hSu
          (go_simp) <;> (with_reducible rfl)
        change wpAnyH _ _ _ _ _ _ _ (Act.put _ (some 34) _) _
        simp only [Act.put, List.setIfInBounds_toArray, List.set_cons_zero, List.set_cons_succ]
        refine wpAnyH_done (by kernel_rfl) ?_ _
        refine NoPanic.normal ?_
        go_wp2
        go_roundw
        case rel =>
          refine ⟨q - 1, ?_, by omega, HW.out.step B1.out, fun j X h1 h2 h3 => ?_⟩
          · congr 1
            omega
          · by_cases h4 : q ≤ j
            · have := HX.out j X h4 h2 h3
              omega
            · have e : i + j = J := by omega
              rw [e, HV.out] at h3
              injection h3 with h3
              rw [← h3, ← HC1.out]
              omega
        case measure => simp [intOf]; omega
end Go.Proofs.YtileidbdmpeciaaGreat

