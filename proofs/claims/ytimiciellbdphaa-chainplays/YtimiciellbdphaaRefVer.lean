/-
  May a version be; the newest one of a key (hourglassref10: MayVersion, Store.Newest).
-/
import Derived.Test.YtimiciellbdphaaRefStore
import Derived.Test.YtimiciellbdphaaRefStampA
namespace Go.Proofs.Ytimiciellbdphaa
open Go.RowKit
set_option linter.unusedVariables false

theorem VerAt.made (w : World) (T : TypeId) (V : Ver) : VerAt (w.alloc (.cells (encV V).toArray T)) w.heap.size 0 V := by
  have h := lies_made w (encV V).toArray T
  exact ⟨h⟩
theorem VerAt.cells0 {w : World} {b : Nat} {V : Ver} (h : VerAt w b 0 V) (hk : Ky V.k) : w.cell? ⟨b, 16, none⟩ = some (.int .i64 V.t) ∧ w.cell? ⟨b, 17, none⟩ = some (.int .u8 V.n) ∧ w.cell? ⟨b, 18, none⟩ = some (.string (strOfNums V.v)) ∧ w.cell? ⟨b, 19, none⟩ = some (.bool V.g) := by
  have := h.cells hk
  simpa using this
set_option maxHeartbeats 1000000 in
theorem rmayv_any (V : Ver) (hV : VerOk V) (w : World) :
    Calls Try.prog 34 #[vv V] w fun e w' => e = .returned (.bool (mayV V)) ∧ Below w.heap.size w w' := by
  obtain ⟨k, t, n, v, g⟩ := V
  obtain ⟨U, hU⟩ : ∃ U, U = w.alloc (.cells (encV ⟨k, t, n, v, g⟩).toArray 47) := ⟨_, rfl⟩
  have HUB : Hid (Below w.heap.size w U) := by rw [hU]; exact (Below.refl _ _).alloc (Nat.le_refl _) _
  have HAT : Hid (∀ u, Below U.heap.size U u → u.cell? ⟨w.heap.size, 16, none⟩ = some (.int .i64 t) ∧ u.cell? ⟨w.heap.size, 17, none⟩ = some (.int .u8 n) ∧ u.cell? ⟨w.heap.size, 18, none⟩ = some (.string (strOfNums v)) ∧ u.cell? ⟨w.heap.size, 19, none⟩ = some (.bool g)) := fun u hb => by
    have h : VerAt U w.heap.size 0 ⟨k, t, n, v, g⟩ := by rw [hU]; exact VerAt.made w 47 _
    exact (h.past hb).cells0 hV.key
  have HVE : Hid (w.alloc (.cells (encV ⟨k, t, n, v, g⟩).toArray 47) = U) := hU.symm
  have CG : Hid (∀ u, Calls Try.prog 43 #[.agg #[.int .i64 t, .int .u8 n]] u fun e w' => e = .returned (.bool (decide (okS t))) ∧ Below u.heap.size u w') := fun u => rgood6_any t n u
  have hsz : (strOfNums v).size = v.length := strOfNums_size v
  obtain ⟨X, hX⟩ : ∃ X, X = strOfNums v := ⟨_, rfl⟩
  obtain ⟨m, hm⟩ : ∃ m, m = v.length := ⟨_, rfl⟩
  have hfew : m ≤ 1000000 := by rw [hm]; exact hV.few
  have hemp : X.toList.isEmpty = decide (v = []) := by
    rw [hX, ByteArray.toList_eq, strOfNums_data]
    cases v with
    | nil => rfl
    | cons z r => simp
  have hmay : mayV ⟨k, t, n, v, g⟩ = (decide (okS t) && decide (m ≤ 200) && (!g || decide (v = []))) := by rw [hm]; rfl
  obtain ⟨R, hR⟩ : ∃ R, R = mayV ⟨k, t, n, v, g⟩ := ⟨_, rfl⟩
  rw [← hR] at hmay ⊢
  rw [← hX, ← hm] at hsz
  rw [← hX] at HAT
  obtain ⟨q0, q1, q2, q3⟩ := HAT.out U (Below.refl _ _)
  clear hV hU hX hm hR
  by_cases h1 : okS t
  · have d1 : decide (okS t) = true := decide_eq_true h1
    rw [d1] at CG hmay
    by_cases h2 : m ≤ 200
    · have d2 : decide ((m : Int) ≤ 200) = true := decide_eq_true (by omega)
      have d2n : decide (m ≤ 200) = true := decide_eq_true h2
      cases g with
      | true =>
        by_cases h3 : v = []
        · have hR : R = true := by rw [hmay, d2n, decide_eq_true h3]; rfl
          rw [hR]
          rw [decide_eq_true h3] at hemp
          clear hmay hR h1 h3 d1 d2n
          go_enter Try.func34, Try.ntmps34
          go_wp2_with (first | (have hgo := HVE.out; (with_reducible show wpList _ _ _ (Oper.mk (some 3) _ _ _ _ _ :: _) _ _); clear hgo; rw [HVE.out]; clear HVE) | (go_at_call 43; refine (CG.out _).mono ?_; rintro e w1 ⟨rfl, hb1⟩; have B1 : Hid (Below U.heap.size U w1) := hb1; obtain ⟨r0, r1, r2, r3⟩ := HAT.out w1 hb1; clear hb1))
          go_ret
          exact ⟨rfl, HUB.out.trans (B1.out.mono HUB.out.size)⟩
        · have hR : R = false := by rw [hmay, d2n, decide_eq_false h3]; rfl
          rw [hR]
          rw [decide_eq_false h3] at hemp
          clear hmay hR h1 h3 d1 d2n
          go_enter Try.func34, Try.ntmps34
          go_wp2_with (first | (have hgo := HVE.out; (with_reducible show wpList _ _ _ (Oper.mk (some 3) _ _ _ _ _ :: _) _ _); clear hgo; rw [HVE.out]; clear HVE) | (go_at_call 43; refine (CG.out _).mono ?_; rintro e w1 ⟨rfl, hb1⟩; have B1 : Hid (Below U.heap.size U w1) := hb1; obtain ⟨r0, r1, r2, r3⟩ := HAT.out w1 hb1; clear hb1))
          go_ret
          exact ⟨rfl, HUB.out.trans (B1.out.mono HUB.out.size)⟩
      | false =>
        have hR : R = true := by rw [hmay, d2n]; rfl
        rw [hR]
        clear hmay hR h1 d1 d2n hemp
        go_enter Try.func34, Try.ntmps34
        go_wp2_with (first | (have hgo := HVE.out; (with_reducible show wpList _ _ _ (Oper.mk (some 3) _ _ _ _ _ :: _) _ _); clear hgo; rw [HVE.out]; clear HVE) | (go_at_call 43; refine (CG.out _).mono ?_; rintro e w1 ⟨rfl, hb1⟩; have B1 : Hid (Below U.heap.size U w1) := hb1; obtain ⟨r0, r1, r2, r3⟩ := HAT.out w1 hb1; clear hb1))
        go_ret
        exact ⟨rfl, HUB.out.trans (B1.out.mono HUB.out.size)⟩
    · have d2 : decide ((m : Int) ≤ 200) = false := decide_eq_false (by omega)
      have hR : R = false := by rw [hmay, decide_eq_false h2]; rfl
      rw [hR]
      clear hmay hR h1 d1 hemp
      go_enter Try.func34, Try.ntmps34
      go_wp2_with (first | (have hgo := HVE.out; (with_reducible show wpList _ _ _ (Oper.mk (some 3) _ _ _ _ _ :: _) _ _); clear hgo; rw [HVE.out]; clear HVE) | (go_at_call 43; refine (CG.out _).mono ?_; rintro e w1 ⟨rfl, hb1⟩; have B1 : Hid (Below U.heap.size U w1) := hb1; obtain ⟨r0, r1, r2, r3⟩ := HAT.out w1 hb1; clear hb1))
      go_ret
      exact ⟨rfl, HUB.out.trans (B1.out.mono HUB.out.size)⟩
  · have d1 : decide (okS t) = false := decide_eq_false h1
    rw [d1] at CG hmay
    have hR : R = false := by rw [hmay]; rfl
    rw [hR]
    clear hmay hR h1 d1 hemp
    go_enter Try.func34, Try.ntmps34
    go_wp2_with (first | (have hgo := HVE.out; (with_reducible show wpList _ _ _ (Oper.mk (some 3) _ _ _ _ _ :: _) _ _); clear hgo; rw [HVE.out]; clear HVE) | (go_at_call 43; refine (CG.out _).mono ?_; rintro e w1 ⟨rfl, hb1⟩; have B1 : Hid (Below U.heap.size U w1) := hb1; obtain ⟨r0, r1, r2, r3⟩ := HAT.out w1 hb1; clear hb1))
    go_ret
    exact ⟨rfl, HUB.out.trans (B1.out.mono HUB.out.size)⟩
/-- A key and an empty stamp, each in a block of its own. -/
structure KeyNil (w u : World) (k : List Int) : Prop where
  key : KeyAt u w.heap.size 0 k
  c0 : u.cell? ⟨w.heap.size + 1, 0, none⟩ = some (.int .i64 0)
  c1 : u.cell? ⟨w.heap.size + 1, 1, none⟩ = some (.int .u8 0)
  free : ∀ j, u.frozen? ⟨w.heap.size + 1, j, none⟩ = false
  below : Below w.heap.size w u
  lt : w.heap.size + 1 < u.heap.size
theorem KeyNil.made (w : World) (k : List Int) (hk : Ky k) (T T' : TypeId) : KeyNil w ((w.alloc (.cells (kcs k) T)).alloc (.cells #[.int .i64 0, .int .u8 0] T')) k := by
  obtain ⟨u1, h1⟩ : ∃ u, u = w.alloc (.cells (kcs k) T) := ⟨_, rfl⟩
  have e1 : u1.heap.size = w.heap.size + 1 := by rw [h1]; simp
  have b1 : Below w.heap.size w u1 := by rw [h1]; exact (Below.refl _ _).alloc (Nat.le_refl _) _
  have k1 : KeyAt u1 w.heap.size 0 k := by rw [h1]; exact KeyAt.made w T k hk
  rw [← h1]
  refine ⟨k1.past ((Below.refl _ _).alloc (Nat.le_refl _) _), ?_, ?_, fun j => ?_, b1.alloc (by omega) _, by simp; omega⟩
  · rw [← e1, World.cell?_alloc_new]; rfl
  · rw [← e1, World.cell?_alloc_new]; rfl
  · rw [← e1]; exact World.frozen?_alloc_new _ _ _ _
theorem KeyNil.step {w u v : World} {k : List Int} (h : KeyNil w u k) (hb : Below u.heap.size u v) : KeyNil w v k := by
  have hl := h.lt
  exact ⟨h.key.past hb, (hb.cell (p := ⟨w.heap.size + 1, 0, none⟩) hl).trans h.c0, (hb.cell (p := ⟨w.heap.size + 1, 1, none⟩) hl).trans h.c1, fun j => (hb.frozen (p := ⟨w.heap.size + 1, j, none⟩) hl).trans (h.free j), h.below.trans (hb.mono h.below.size), Nat.lt_of_lt_of_le hl hb.size⟩
theorem newest_none {L : List Ver} {k : List Int} (h : kMany L k = 0) : newestV L k = none := by
  have : chainV L k = [] := List.eq_nil_of_length_eq_zero (by rw [chain_len, h])
  unfold newestV
  rw [this]
  rfl
theorem newest_some {L : List Ver} {k : List Int} {m : Nat} {V : Ver} (h : kMany L k = m + 1) (hV : L[kFrom L k + m]? = some V) : newestV L k = some V := by
  unfold newestV
  rw [List.getLast?_eq_getElem?, chain_len, h, Nat.add_sub_cancel, chain_at L k m (by omega), hV]
theorem set2 {u : World} {b : Nat} {x y : Value} (x' y' : Value) (h0 : u.cell? ⟨b, 0, none⟩ = some x) (h1 : u.cell? ⟨b, 1, none⟩ = some y) : ((u.setCell ⟨b, 0, none⟩ x').setCell ⟨b, 1, none⟩ y').cell? ⟨b, 0, none⟩ = some x' ∧ ((u.setCell ⟨b, 0, none⟩ x').setCell ⟨b, 1, none⟩ y').cell? ⟨b, 1, none⟩ = some y' := by
  refine ⟨(World.cell?_setCell_other _ _ _ _ (by intro e; injection e with _ e2; omega)).trans (World.cell?_setCell_same _ _ _ h0), World.cell?_setCell_same _ _ _ ((World.cell?_setCell_other _ _ _ _ (by intro e; injection e with _ e2; omega)).trans h1)⟩
def newT (o : Option Ver) : Int := match o with | none => 0 | some V => V.t
def newN (o : Option Ver) : Int := match o with | none => 0 | some V => V.n
set_option maxHeartbeats 1000000 in
theorem rnewest_any (B p : Nat) (L : List Ver) (k : List Int) (hk : Ky k) (w : World) (h : StoreR w B p L) :
    Calls Try.prog 20 #[.pointer (some ⟨p, 0, none⟩), kv k] w fun e w' => e = .returned (.tuple #[.agg #[.int .i64 (newT (newestV L k)), .int .u8 (newN (newestV L k))], .bool (newestV L k).isSome]) ∧ Below w.heap.size w w' := by
  have H0 : Hid (KeyNil w ((w.alloc (.cells (kcs k) 42)).alloc (.cells #[.int .i64 0, .int .u8 0] 28)) k) := KeyNil.made w k hk 42 28
  obtain ⟨i, hi⟩ : ∃ i, i = kFrom L k := ⟨_, rfl⟩
  obtain ⟨m, hm⟩ : ∃ m, m = kMany L k := ⟨_, rfl⟩
  have hle := kMany_le L k
  have hfew := h.few
  obtain ⟨N, hN⟩ : ∃ N, N = L.length := ⟨_, rfl⟩
  obtain ⟨a0, c0, hcap, hcell, hs⟩ := h.open
  rw [← hN] at hcap hcell hle hfew
  rw [← hi, ← hm] at hle
  have CH : Hid (∀ u, Below w.heap.size w u → Calls Try.prog 35 #[.pointer (some ⟨p, 0, none⟩), kv k] u fun e w' => e = .returned (.tuple #[.int .i64 (i : Nat), .int .i64 ((i + m : Nat) : Int)]) ∧ Below u.heap.size u w') := fun u hb => by
    rw [hi, hm]; exact rchain_any B p L k hk u (h.past hb)
  have HCE : Hid (∀ v, Below w.heap.size w v → v.cell? ⟨p, 0, none⟩ = some (.slice a0 N c0)) := hcell
  have HKK : Hid (Ky k) := hk
  by_cases h0 : m = 0
  · have e : newestV L k = none := newest_none (by rw [← hm]; exact h0)
    rw [e]
    subst h0
    have bq : (((i : Nat) : Int) == ((i + 0 : Nat) : Int)) = true := by simp
    clear h hs hcell hk hi hm hN e
    show Calls _ _ _ _ fun e w' => e = .returned (.tuple #[.agg #[.int .i64 0, .int .u8 0], .bool false]) ∧ Below w.heap.size w w'
    go_enter Try.func20, Try.ntmps20
    go_wp2_with (first | (refine wpList_load_keyD 10 (by rfl) (by rfl) _ (by rfl) w.heap.size 0 (by rfl) k HKK.out H0.out.key ?_) | (go_at_call 35; refine (CH.out _ H0.out.below).mono ?_; rintro e w1 ⟨rfl, hb1⟩; have H1 : Hid (KeyNil w w1 k) := H0.out.step hb1; have z0 := H1.out.c0; have z1 := H1.out.c1; have f0 := H1.out.free 0; have f1 := H1.out.free 1; clear hb1))
    obtain ⟨r1, r2⟩ := set2 (.int .i64 0) (.int .u8 0) z0 z1
    (try simp only [Exit.inBlock, Exit.then])
    refine bodyPost_ret (v := .tuple #[.agg #[.int .i64 0, .int .u8 0], .bool false]) (by simp [results, Try.results20, go_sem, r1, r2]) rfl ?_
    exact ⟨rfl, (H1.out.below.setCell (by show w.heap.size ≤ w.heap.size + 1; omega) _).setCell (by show w.heap.size ≤ w.heap.size + 1; omega) _⟩
  · obtain ⟨q, rfl⟩ : ∃ q, m = q + 1 := ⟨m - 1, by omega⟩
    obtain ⟨V, hV⟩ : ∃ V, L[i + q]? = some V := ⟨_, List.getElem?_eq_getElem (by rw [← hN]; omega)⟩
    have e : newestV L k = some V := newest_some hm.symm (by rw [← hi]; exact hV)
    rw [e]
    have hVk := (h.oks V (List.mem_of_getElem? hV)).key
    obtain ⟨g, e1, _, _, e4⟩ : ∃ g, a0 = some ⟨g, 0, none⟩ ∧ g < w.heap.size ∧ B ≤ g ∧ ∀ v, Below w.heap.size w v → ∀ i V, L[i]? = some V → VerAt v g (i * 20) V := by
      rcases hs with hs | hs
      · rw [hs] at hV; simp at hV
      · exact hs
    subst e1
    have HVA : Hid (∀ v, Below w.heap.size w v → v.cell? ⟨g, (i + q) * 20 + 16, none⟩ = some (.int .i64 V.t) ∧ v.cell? ⟨g, (i + q) * 20 + 17, none⟩ = some (.int .u8 V.n)) := fun v hb => by
      have := (e4 v hb _ _ hV).cells hVk
      exact ⟨this.1, this.2.1⟩
    obtain ⟨t, n, ht, hn⟩ : ∃ t n, t = V.t ∧ n = V.n := ⟨_, _, rfl, rfl⟩
    rw [← ht, ← hn] at HVA
    show Calls _ _ _ _ fun e w' => e = .returned (.tuple #[.agg #[.int .i64 V.t, .int .u8 V.n], .bool true]) ∧ Below w.heap.size w w'
    rw [← ht, ← hn]
    obtain ⟨J, hJ⟩ : ∃ J, J = i + q := ⟨_, rfl⟩
    rw [← hJ] at HVA
    have e5 : ((i + (q + 1) : Nat) : Int) = (J : Int) + 1 := by omega
    rw [e5] at CH
    have bq : (((i : Nat) : Int) == (J : Int) + 1) = false := by simp; omega
    have hJN : J < N := by omega
    clear h hs hcell hk hi hm hN e e4 hV hVk ht hn h0 e5 hJ hle
    go_enter Try.func20, Try.ntmps20
    go_wp2_with (first | (refine wpList_load_keyD 10 (by rfl) (by rfl) _ (by rfl) w.heap.size 0 (by rfl) k HKK.out H0.out.key ?_) | (go_at_call 35; refine (CH.out _ H0.out.below).mono ?_; rintro e w1 ⟨rfl, hb1⟩; have H1 : Hid (KeyNil w w1 k) := H0.out.step hb1; have z0 := H1.out.c0; have z1 := H1.out.c1; have f0 := H1.out.free 0; have f1 := H1.out.free 1; have y0 := HCE.out w1 H1.out.below; obtain ⟨y1, y2⟩ := HVA.out w1 H1.out.below; clear hb1))
    obtain ⟨r1, r2⟩ := set2 (.int .i64 t) (.int .u8 n) z0 z1
    (try simp only [Exit.inBlock, Exit.then])
    refine bodyPost_ret (v := .tuple #[.agg #[.int .i64 t, .int .u8 n], .bool true]) (by simp [results, Try.results20, go_sem, r1, r2]) rfl ?_
    exact ⟨rfl, (H1.out.below.setCell (by show w.heap.size ≤ w.heap.size + 1; omega) _).setCell (by show w.heap.size ≤ w.heap.size + 1; omega) _⟩
end Go.Proofs.Ytimiciellbdphaa
