/-
  What the library's slices.SortFunc answers at keys, Cmp the comparison.
  What the library's maps.Keys answers at a map of keys: an iterator that gives each key once.
  What the library's slices.AppendSeq, Collect and SortedFunc answer at the keys of a map.
  What package key answers: Of.
  What package key answers: Sort; and with it all of the package's contracts.
-/
import Derived.Test.YtileidbdmpeciaaGreatSortLay
import Derived.Test.YtileidbdmpeciaaGreatAu84
import Derived.Test.YtileidbdmpeciaaGreatAu79
import Derived.RangeFuncBound
import Derived.RangeFuncCalls
import Derived.RangeFuncLeaves
import Derived.Shelf.Abstract
import Derived.WalkKit
import Derived.OwnWalkIn
import Derived.TacticsInMore
import Derived.LoopNIn
import Derived.LoopIn
import Derived.Test.YtileidbdmpeciaaGreatAu98
import Derived.Lib.LazyBuf
namespace Go.Proofs.YtileidbdmpeciaaGreat
open Go.RowKit
open Go.Sort (grow grow_grow alloc_eq_grow SWO flatK size_flatK get_flatK Holds)
set_option linter.unusedVariables false

/-- Keys, as elements of a list that is sorted. -/
abbrev KyT := { k : List Int // Ky k }
def encT (x : KyT) : List Value := kc x.1
def cfT (x y : KyT) : Int := lexC x.1 y.1
theorem encT_len (x : KyT) : (encT x).length = 16 := kc_len x.2
theorem encT_one (x : KyT) : ∀ v ∈ encT x, v.oneCell' = true := ints_oneCell _ _
theorem ltT (x y : KyT) : ltOf cfT x y = decide (lexC x.1 y.1 < 0) := rfl
theorem swoT : SWO (ltOf cfT) where
  irrefl x := by rw [ltT, lexC_self]; rfl
  trans x y z h1 h2 := by
    rw [ltT] at *
    have h1 := of_decide_eq_true h1
    have h2 := of_decide_eq_true h2
    exact decide_eq_true (lex_lt_le h1 (by omega))
  ntrans x y z h1 h2 := by
    rw [ltT] at *
    have h1 := of_decide_eq_false h1
    have h2 := of_decide_eq_false h2
    have s1 := lexC_swap x.1 y.1
    have s2 := lexC_swap y.1 z.1
    have s3 := lexC_swap x.1 z.1
    have := lex_le_trans (show lexC z.1 y.1 ≤ 0 by omega) (show lexC y.1 x.1 ≤ 0 by omega)
    exact decide_eq_false (by omega)
theorem totT (x y : KyT) (h1 : ltOf cfT x y = false) (h2 : ltOf cfT y x = false) : x = y := by
  rw [ltT] at *
  have h1 := of_decide_eq_false h1
  have h2 := of_decide_eq_false h2
  have s1 := lexC_swap x.1 y.1
  exact Subtype.ext (lexC_eq (show lexC x.1 y.1 = 0 by omega))
theorem grown_two (w : World) (a b : Obj) (q : Nat) : ((w.alloc a).alloc b).drewN q = grow (w.drewN q) #[a, b] := by
  rw [alloc_eq_grow, alloc_eq_grow, grow_grow]
  rfl
theorem cmpT [Inhabited KyT] (blk off size : Nat) (w : World) : CmpLays Tryz.prog 121 #[] encT 16 cfT blk off size w :=
  fun m os dk hs x y => (kcmp_to x.1 y.1 x.2 y.2 _).mono fun e w' ⟨h1, q, h2⟩ => ⟨h1, q, _, h2.trans (grown_two _ _ _ _)⟩
/-- Elements of k cells each, one behind the other. -/
theorem flat_get {α : Type} {enc : α → List Value} {k : Nat} (hk : 0 < k) : ∀ {l : List α}, (∀ x ∈ l, (enc x).length = k) → ∀ i, i < l.length * k → ∃ h : i / k < l.length, (l.flatMap enc)[i]? = (enc l[i / k])[i % k]?
  | [], _, i, hi => by simp at hi
  | x :: r, hl, i, hi => by
    have hx := hl x (by simp)
    rw [List.flatMap_cons]
    by_cases h : i < k
    · have e1 : i / k = 0 := Nat.div_eq_of_lt h
      have e2 : i % k = i := Nat.mod_eq_of_lt h
      refine ⟨by simp [e1], ?_⟩
      simp only [e1, e2, List.getElem_cons_zero]
      rw [List.getElem?_append_left (by omega)]
    · have e1 : i / k = (i - k) / k + 1 := by rw [Nat.div_eq, if_pos ⟨hk, by omega⟩]
      have e2 : i % k = (i - k) % k := by rw [Nat.mod_eq, if_pos ⟨hk, by omega⟩]
      obtain ⟨g1, g2⟩ := flat_get hk (l := r) (fun y hy => hl y (by simp [hy])) (i - k) (by rw [List.length_cons, Nat.add_mul] at hi; omega)
      refine ⟨by rw [e1, List.length_cons]; omega, ?_⟩
      simp only [e1, e2, List.getElem_cons_succ]
      rw [List.getElem?_append_right (by omega), hx]
      exact g2
theorem flat_T [Inhabited KyT] (d : List KyT) : (flatK encT 16 d.toArray).toList = d.flatMap encT := by
  apply List.ext_getElem?
  intro i
  have hl : (d.flatMap encT).length = d.length * 16 := flat_len d (fun x _ => encT_len x)
  by_cases hi : i < d.length * 16
  · obtain ⟨h1, h2⟩ := flat_get (enc := encT) (k := 16) (by omega) (l := d) (fun x _ => encT_len x) i hi
    have h3 : i % 16 < (encT d[i / 16]).length := by rw [encT_len]; omega
    rw [h2, List.getElem?_eq_getElem h3]
    have hi' : i < (flatK encT 16 d.toArray).size := by simp [size_flatK]; exact hi
    have := get_flatK encT 16 d.toArray i (by simpa using hi)
    rw [getElem!_pos _ i hi'] at this
    rw [Array.getElem?_toList, Array.getElem?_eq_getElem hi', this]
    have e1 : d.toArray[i / 16]! = d[i / 16] := by rw [getElem!_pos _ _ (by simpa using h1)]; simp
    rw [e1, getElem!_pos (encT d[i / 16]) (i % 16) h3]
  · rw [List.getElem?_eq_none (by simp; omega), List.getElem?_eq_none (by omega)]
theorem rising_ext : ∀ {a b : List (List Int)}, Rising a → Rising b → (∀ y, y ∈ a ↔ y ∈ b) → a = b
  | [], [], _, _, _ => rfl
  | [], y :: s, _, _, h => by have := (h y).2 (by simp); simp at this
  | x :: r, [], _, _, h => by have := (h x).1 (by simp); simp at this
  | x :: r, y :: s, ha, hb, h => by
    have e : x = y := by
      rcases List.mem_cons.1 ((h x).1 (by simp)) with e | e
      · exact e
      · rcases List.mem_cons.1 ((h y).2 (by simp)) with e' | e'
        · exact e'.symm
        · have h1 := hb.head x e
          have h2 := ha.head y e'
          have := lexC_swap x y
          omega
    subst e
    rw [rising_ext ha.tail hb.tail fun z => ?_]
    have hz : ∀ {q : List (List Int)}, Rising (x :: q) → z ∈ q → z ≠ x := fun hq hm e => by
      have := hq.head z hm
      rw [e, lexC_self] at this
      omega
    constructor
    · intro hm
      rcases List.mem_cons.1 ((h z).1 (by simp [hm])) with e | e
      · exact absurd e (hz ha hm)
      · exact e
    · intro hm
      rcases List.mem_cons.1 ((h z).2 (by simp [hm])) with e | e
      · exact absurd e (hz hb hm)
      · exact e
theorem rising_of : ∀ {a : List (List Int)}, a.Pairwise (fun x y => lexC x y ≤ 0) → a.Nodup → Rising a
  | [], _, _ => trivial
  | x :: r, h, hn => by
    rw [List.pairwise_cons] at h
    rw [List.nodup_cons] at hn
    refine rising_cons (fun y hy => ?_) (rising_of h.2 hn.2)
    have h1 := h.1 y hy
    have h2 : lexC x y ≠ 0 := fun e => hn.1 (by rw [lexC_eq e]; exact hy)
    omega
/-- A list of keys, each with its proof. -/
def tys (l : List (List Int)) (h : Kys l) : List KyT := l.attach.map fun x => ⟨x.1, h x.1 x.2⟩
theorem tys_val (l : List (List Int)) (h : Kys l) : (tys l h).map Subtype.val = l := by
  unfold tys
  rw [List.map_map]
  show l.attach.map Subtype.val = l
  exact List.attach_map_subtype_val l
theorem tys_flat (d : List KyT) : d.flatMap encT = (d.map Subtype.val).flatMap kc := by
  rw [List.flatMap_map]; rfl
theorem heap_put [Inhabited KyT] {w : World} {g n : Nat} {os : Array Obj} {cur : Array Value} {e : TypeId} (d : List KyT) (hb : w.heap[g]? = some (.cells cur e (0, 0))) :
    (sortWorldK encT 16 w g 0 n d.toArray os).heap[g]? = some (.cells (Go.Sort.putCells id 0 (flatK encT 16 d.toArray) cur) e (0, 0)) := by
  have hg : g < w.heap.size := (Array.getElem?_eq_some_iff.1 hb).1
  unfold sortWorldK
  rw [Go.Sort.heap_grow_old _ _ (by simpa [Go.Sort.putRowK] using hg)]
  simp [Go.Sort.putRowK, Go.Sort.putRow, Go.Sort.mapBlock, Go.Sort.ahead, Array.getElem?_modify, hb, Go.Sort.onCells]
theorem grown_put [Inhabited KyT] {w : World} {g n : Nat} {os : Array Obj} (d : Array KyT) : w.grownBy (sortWorldK encT 16 w g 0 n d os) (some g) := by
  refine ⟨rfl, rfl, rfl, by simp [sortWorldK, Go.Sort.putRowK], fun k hk hne => ?_⟩
  unfold sortWorldK
  rw [Go.Sort.heap_grow_old _ _ (by simpa [Go.Sort.putRowK] using hk)]
  have : g ≠ k := fun e => hne (by rw [e])
  simp [Go.Sort.putRowK, Go.Sort.putRow, Go.Sort.mapBlock, Go.Sort.ahead, Array.getElem?_modify, this]
theorem take_put [Inhabited KyT] (cur : Array Value) (d : List KyT) (h : d.length * 16 ≤ cur.size) : (Go.Sort.putCells id 0 (flatK encT 16 d.toArray) cur).toList.take (d.length * 16) = (d.map Subtype.val).flatMap kc := by
  rw [← tys_flat, ← flat_T]
  apply List.ext_getElem?
  intro j
  by_cases hj : j < d.length * 16
  · rw [List.getElem?_take_of_lt hj, Array.getElem?_toList, Array.getElem?_toList]
    have h1 : j < (flatK encT 16 d.toArray).size := by simp [size_flatK]; exact hj
    have h2 : j < cur.size := by omega
    have h3 : j < d.length * 16 := hj
    rw [Array.getElem?_eq_getElem h1]
    simp only [Go.Sort.putCells, Array.getElem?_mapIdx, Array.getElem?_eq_getElem h2, Option.map_some]
    rw [if_pos ⟨Nat.zero_le _, by rw [Nat.zero_add]; exact h1⟩]
    simp only [Nat.sub_zero, id]
    rw [getElem!_pos _ j h1]
  · rw [List.getElem?_take_eq_none (by omega), List.getElem?_eq_none (by simp [size_flatK]; omega)]
theorem holds_keys [Inhabited KyT] {w : World} {g : Nat} {cur : Array Value} {e : TypeId} {d : List KyT} (hb : w.heap[g]? = some (.cells cur e (0, 0))) (ht : cur.toList.take (d.length * 16) = (d.map Subtype.val).flatMap kc) : Go.Sort.HoldsK encT 16 w g 0 d.toArray := by
  intro j hj
  have hj' : j < d.length * 16 := by simpa [size_flatK] using hj
  refine ⟨?_, by simp [World.frozen?, hb]⟩
  have h1 : (cur.toList.take (d.length * 16))[j]? = (flatK encT 16 d.toArray).toList[j]? := by rw [ht, flat_T, tys_flat]
  rw [List.getElem?_take_of_lt hj', Array.getElem?_toList, Array.getElem?_toList, Array.getElem?_eq_getElem hj] at h1
  rw [getElem!_pos _ j hj]
  simp only [World.cell?, hb, Nat.zero_add]
  simpa using h1
/-- Keys are put in order. -/
theorem sortf_all [Inhabited KyT] (base g cap : Nat) (l : List (List Int)) (hk : Kys l) (w : World) (cur : Array Value) (hbase : base ≤ g) (hb : w.heap[g]? = some (.cells cur 38 (0, 0))) (h1 : l.length ≤ cap) (h2 : cap ≤ maxLen) (h3 : cur.size = cap * 16) (h4 : cur.toList.take (l.length * 16) = l.flatMap kc) (hN : l.length ≤ 1000000) :
    Calls Tryz.prog 151 #[.slice (some ⟨g, 0, none⟩) l.length cap, .func (.func 121) #[] #[]] w fun e w' => e = .returned (.tuple #[]) ∧ ∃ m : List (List Int), m.Perm l ∧ m.Pairwise (fun x y => lexC x y ≤ 0) ∧ w'.ownsRow base 38 16 (.slice (some ⟨g, 0, none⟩) l.length cap) l.length (m.flatMap kc) ∧ w.grownBy w' (some g) := by
  have eg : ∀ args w, (callFunc 121 args).run Tryz.prog w = .ok (.enter 121 args) w := enters_of Tryz.func121 (by kernel_rfl) rfl
  have hl : (tys l hk).length = l.length := by unfold tys; simp
  have hH : Go.Sort.HoldsK encT 16 w g 0 (tys l hk).toArray := holds_keys hb (by rw [hl, tys_val]; exact h4)
  have hcon := AnyQ.slices_SortFunc_total Tryz.sortL 16 Tryz.isAgg38 Tryz.sizeOf38 encT encT_len encT_one cfT swoT 121 #[] g 0 cap (tys l hk).toArray w eg (cmpT _ _ _ _) hH (Array.getElem?_eq_some_iff.1 hb).1 (by rw [List.size_toArray, hl]; omega) totT
  rw [show (tys l hk).toArray.size = l.length by simp [hl]] at hcon
  refine hcon.mono ?_
  rintro e w' ⟨rfl, n, os, rfl⟩
  refine ⟨rfl, ((tys l hk).mergeSort fun x y => !(ltOf cfT) y x).map Subtype.val, ?_, ?_, ?_, grown_put _⟩
  · have := ((tys l hk).mergeSort_perm fun x y => !(ltOf cfT) y x).map Subtype.val
    rwa [tys_val] at this
  · rw [List.pairwise_map]
    refine (List.pairwise_mergeSort (le := fun x y => !(ltOf cfT) y x) ?_ ?_ (tys l hk)).imp ?_
    · intro a b c h1 h2
      simp only [Bool.not_eq_true'] at *
      exact swoT.ntrans c b a h2 h1
    · intro a b
      simp only [ltT]
      have := lexC_swap a.1 b.1
      by_cases h : lexC a.1 b.1 < 0
      · simp [h]; omega
      · simp [h]
    · intro a b h
      simp only [ltT, Bool.not_eq_true', decide_eq_false_iff_not] at h
      have := lexC_swap a.1 b.1
      omega
  · have hlm : ((tys l hk).mergeSort fun x y => !(ltOf cfT) y x).length = l.length := by rw [List.length_mergeSort, hl]
    refine ⟨?_, .inr ⟨g, cap, _, rfl, hbase, heap_put _ hb, h1, h2, by simp [Go.Sort.putCells, h3], ?_⟩⟩
    · rw [flat_len (size := 16)]
      · simp [hlm]
      · intro x hx
        obtain ⟨y, _, rfl⟩ := List.mem_map.1 hx
        exact kc_len y.2
    · have := take_put cur ((tys l hk).mergeSort fun x y => !(ltOf cfT) y x) (by rw [hlm, h3]; omega)
      rw [hlm] at this
      exact this
theorem sortf_any (base g cap : Nat) (l : List (List Int)) (hk : Kys l) (w : World) (cur : Array Value) (hbase : base ≤ g) (hb : w.heap[g]? = some (.cells cur 38 (0, 0))) (h1 : l.length ≤ cap) (h2 : cap ≤ maxLen) (h3 : cur.size = cap * 16) (h4 : cur.toList.take (l.length * 16) = l.flatMap kc) (hN : l.length ≤ 1000000) :
    Calls Tryz.prog 151 #[.slice (some ⟨g, 0, none⟩) l.length cap, .func (.func 121) #[] #[]] w fun e w' => e = .returned (.tuple #[]) ∧ ∃ m : List (List Int), m.Perm l ∧ m.Pairwise (fun x y => lexC x y ≤ 0) ∧ w'.ownsRow base 38 16 (.slice (some ⟨g, 0, none⟩) l.length cap) l.length (m.flatMap kc) ∧ w.grownBy w' (some g) :=
  @sortf_all ⟨⟨zeroK, zeroK_ky⟩⟩ base g cap l hk w cur hbase hb h1 h2 h3 h4 hN
end Go.Proofs.YtileidbdmpeciaaGreat

namespace Go.Proofs.YtileidbdmpeciaaGreat
open Go.RowKit
open Go.Maps (Keyed)
set_option linter.unusedVariables false

/-- What has come of l: each once; what is no longer to come has come. -/
structure Coll (l : List (List Int)) (left : Lit → Bool) (ss : List (List Int)) : Prop where
  nodup : ss.Nodup
  of : ∀ k ∈ ss, k ∈ l ∧ left (kyl k) = false
  all : ∀ k ∈ l, left (kyl k) = false → k ∈ ss
theorem Coll.step {l ss : List (List Int)} {left : Lit → Bool} {k : List Int} (h : Coll l left ss) (hl : Kys l) (hk : k ∈ l) (hlk : left (kyl k) = true) : Coll l (fun z => left z && !z.sameKey (kyl k)) (ss ++ [k]) := by
  have hky := hl k hk
  have hne : ∀ {y}, y ∈ l → y ≠ k → (kyl y).sameKey (kyl k) = false := fun hy hne => Maps.sameKey_ne (fun e => hne (kyl_inj (hl _ hy) hky e))
  refine ⟨?_, fun y hy => ?_, fun y hy hf => ?_⟩
  · rw [List.nodup_append]
    refine ⟨h.nodup, by simp, fun a ha b hb => ?_⟩
    simp at hb
    subst hb
    intro e
    subst e
    rw [(h.of _ ha).2] at hlk
    cases hlk
  · rcases List.mem_append.1 hy with hy | hy
    · exact ⟨(h.of y hy).1, by simp [(h.of y hy).2]⟩
    · simp at hy
      subst hy
      exact ⟨hk, by simp [WideAt.sameKey_self (kyl_key hky)]⟩
  · by_cases e : y = k
    · simp [e]
    · have hf : left (kyl y) = false := by simpa [hne hy e] using hf
      exact List.mem_append_left _ (h.all y hy hf)
set_option maxRecDepth 100000 in
set_option maxHeartbeats 1000000 in
theorem iter_in (n : Nat) (hn : 1 ≤ n) (lp Bm m c : Nat) (l : List (List Int)) (J Jx : List KyT → World → Prop)
    (hY : ∀ pre (x : KyT) W, J pre W → pre.length < c → YieldAt Fence.wide (n - 1) Tryz.prog lp #[kv x.1] W fun e W' =>
      (e = .returned (.bool true) ∧ J (pre ++ [x]) W' ∧ KeepsWalks W W') ∨ (e = .returned (.bool false) ∧ Jx (pre ++ [x]) W'))
    (W : World) (hJ : AbidesFrom W.heap.size J) (hm : W.cell? ⟨Bm, 0, none⟩ = some (.map (some m))) (hset : KSet W m c l) (h0 : J [] W) :
    CallsIn Fence.wide n Tryz.prog 152 #[.func (.yield lp) #[] #[], .pointer (some ⟨Bm, 0, none⟩)] W fun e W' => (∃ v, e = .returned v) ∧
      ((∃ ss : List KyT, ((ss.map Subtype.val).Nodup ∧ (∀ k, k ∈ ss.map Subtype.val ↔ k ∈ l) ∧ ss.length ≤ c) ∧ J ss W') ∨ (∃ pre : List KyT, True ∧ Jx pre W')) := by
  obtain ⟨D, hown, hsz, hkys, hhas⟩ := hset
  refine callsIn_of_wp Tryz.func152 rfl trivial ?_ rfl
  simp only [Tryz.ntmps152, List.size_toArray, List.length_cons, List.length_nil, Nat.reduceAdd, Nat.reduceSub, Array.replicate_succ, Array.replicate_zero, List.push_toArray, List.append_toArray, List.nil_append, List.cons_append]
  gi_wp2_with (gi_at_range; refine wpListIn_range_own _ rfl _ 137 rfl 38 158 kLaw Tryz.underlying137 _ m c _ rfl hown ?_; intro w0 hrg0 hg0 hs0)
  go_frame
  gi_loopw [3] (fun _ wr => ∃ (left : Lit → Bool) (cnt : Nat) (ss : List KyT), wr.ranges Tryz.prog 38 anyE m W.heap.size c D left cnt ∧ ss.length + cnt ≤ Maps.size D ∧ Coll l left (ss.map Subtype.val) ∧ J ss wr)
    (fun _ wr => wr.rangeLeft m W.heap.size)
  case atStart =>
    refine ⟨_, _, [], hrg0, by simp, ⟨by simp, by simp, fun k hk hf => ?_⟩, hJ [] W w0 none h0 hg0 (fun r e => by cases e)⟩
    rw [(hhas (kyl k)).2 ⟨k, hk, rfl⟩] at hf
    cases hf
  case round =>
    obtain ⟨left, cnt, ss, hrg, hcs, hC, hJs⟩ := hrel
    gi_wp2_with (gi_at_next; refine wpListIn_next_ranges _ rfl _ rfl 38 kLaw anyE (id : Value → Value) (id : Value → Value) (fun key kl hk => ⟨key, rfl⟩) (fun v _ _ => ⟨v, rfl⟩) m W.heap.size c _ _ _ rfl hrg ?_ ?_)
    · intro hc0 hl0
      gi_wp2
      go_end0
      exact ⟨⟨_, rfl⟩, .inl ⟨ss, ⟨hC.nodup, fun k => ⟨fun hk => (hC.of k hk).1, fun hk => hC.all k hk (hl0 _)⟩, by omega⟩, hJs⟩⟩
    · intro x cv kl yd yp w2 cnt2 hkey hlk hv hat hrg2 hlt hg2 hs2 hen
      obtain ⟨k, hkl, rfl⟩ := (hhas kl).1 (Maps.has_true_of_atKey hat)
      have hk := hkys k hkl
      obtain rfl : x = kv k := kyl_back hk hkey
      have hJ2 : J ss w2 := hJ ss wr w2 (some W.heap.size) hJs hg2 (fun r e => by cases e; exact ⟨Nat.le_refl _, hrg.iter_walk⟩)
      have hmine := KeyMine.made w2 38 zeroK zeroK_ky
      obtain ⟨hk1, hb1, hz1⟩ := laid_key w2 38 hk
      rw [zero_cells] at hmine hk1 hb1 hz1
      have hJ3 := hJ ss w2 _ none hJ2 (grown_none hb1) (fun r e => by cases e)
      obtain ⟨fn, tmps, assign, body, hy, hR⟩ := hY ss ⟨k, hk⟩ _ hJ3 (by omega)
      have hw3 : KeepsWalks w2 _ := KeepsWalks.of_grownBy (grown_none hb1) (fun r o e => by cases e)
      have hC2 := hC.step hkys hkl hlk
      clear hs2
      gi_wp2_with (first | (refine wpListIn_store_key rfl _ _ rfl w2.heap.size 0 zeroK k rfl rfl hk hmine ?_; intro u hu; subst hu) | (refine wpListIn_load_key rfl _ rfl w2.heap.size 0 rfl k hk hk1.lies ?_))
      refine hR.mono ?_
      rintro e W3 (⟨rfl, hJ4, hk3⟩ | ⟨rfl, hJx3⟩)
      · gi_wp2
        have hrg3 := (hrg2.of_walks hw3).of_walks hk3
        go_roundw
        case rel => exact ⟨_, cnt2, ss ++ [⟨k, hk⟩], hrg3, by simp; omega, by rw [List.map_append]; exact hC2, hJ4⟩
        case measure => rw [hrg3.left_eq, hrg.left_eq]; exact hlt
      · gi_wp2
        refine bodyPost_ret (results_none rfl _ _ _) rfl ?_
        exact ⟨⟨_, rfl⟩, .inr ⟨ss ++ [⟨k, hk⟩], trivial, hJx3⟩⟩
/-- What the iterator gives: each key of l once. -/
def Gives (l : List (List Int)) (c : Nat) (ss : List KyT) : Prop := (ss.map Subtype.val).Nodup ∧ (∀ k, k ∈ ss.map Subtype.val ↔ k ∈ l) ∧ ss.length ≤ c
theorem iter_stops (n : Nat) (hn : 1 ≤ n) (Bm m c : Nat) (l : List (List Int)) (w : World) (hBm : Bm < w.heap.size) (hm : w.cell? ⟨Bm, 0, none⟩ = some (.map (some m))) (hset : KSet w m c l) :
    SeqStopsK Fence.wide n Tryz.prog 152 #[.pointer (some ⟨Bm, 0, none⟩)] (fun x : KyT => #[kv x.1]) KeepsWalks (Gives l c) (fun _ => True) c w := fun lp J Jx W hW hJ _ hY h0 =>
  iter_in n hn lp Bm m c l J Jx hY W hJ ((hW.cell (p := ⟨Bm, 0, none⟩) hBm).trans hm) (hset.past hW) h0
theorem mkeys_any (m : Nat) (w : World) :
    Calls Tryz.prog 120 #[.map (some m)] w fun e w' => e = .returned (.func (.func 152) #[] #[.pointer (some ⟨w.heap.size, 0, none⟩)]) ∧ w' = w.alloc (.cells #[.map (some m)] 137) := by
  go_enter Tryz.func120, Tryz.ntmps120
  go_wp2
  go_ret
  exact ⟨rfl, rfl⟩
end Go.Proofs.YtileidbdmpeciaaGreat

namespace Go.Proofs.YtileidbdmpeciaaGreat
open Go.RowKit
set_option linter.unusedVariables false

theorem info_keyz : (Tryz.prog.info? 38).map (fun i => (i.zero, i.size, i.bytes)) = some (some (kv zeroK), 16, 16) := by kernel_rfl
/-- A list of keys in a variable. -/
def Holding (w : World) (pre : List KyT) (W : World) : Prop := (∃ v, Boxed W w.heap.size 113 v ∧ W.ownsRow w.heap.size 38 16 v pre.length ((pre.map Subtype.val).flatMap kc) ∧ True) ∧ Below w.heap.size w W
theorem Holding.own (w : World) (B : Nat) (hB : w.heap.size ≤ B) : OwnFrom B (Holding w) :=
  OwnFrom.and (Own.from (holdsRow_own w.heap.size w.heap.size 113 38 16 (fun pre : List KyT => pre.length) (fun pre => (pre.map Subtype.val).flatMap kc) (fun _ _ => True)) _) (ownFrom_below (Nat.le_refl _) hB)
/-- A round's own variable. -/
def AxK (w : World) (Bm : Nat) (x : KyT) (a' : Act) (W : World) : Prop := ∃ Bx, KeyAt W Bx 0 x.1 ∧ a' = { tmps := #[.slice none 0 0, .func (.func 152) #[] #[.pointer (some ⟨Bm, 0, none⟩)], .pointer (some ⟨w.heap.size, 0, none⟩), undef, .slice none 0 0, .pointer (some ⟨Bx, 0, none⟩), .func (.func 152) #[] #[.pointer (some ⟨Bm, 0, none⟩)], kv x.1, undef, undef, undef, undef, undef], defers := [] }
theorem AxK.own (w : World) (Bm B : Nat) (x : KyT) (a' : Act) : OwnFrom B (fun (_ : Unit) W => AxK w Bm x a' W) := by
  rintro _ A C row ⟨Bx, hk, e⟩ hg hr
  exact ⟨Bx, ⟨fun i hi => _root_.Go.cell_kept (hk.cell i hi) hg (fun r e => (hr r e).2)⟩, e⟩
theorem cells_new (W : World) (T : TypeId) (k : List Int) : ∀ j u, (kc k)[j]? = some u → (W.alloc (.cells (k.map (Value.int .u8)).toArray T)).cell? ((⟨W.heap.size, 0, none⟩ : Addr).add j) = some u := by
  intro j u hj
  rw [addr_add, Nat.zero_add, World.cell?_alloc_new]
  unfold kc at hj
  simpa using hj
set_option maxRecDepth 100000 in
set_option maxHeartbeats 2000000 in
theorem appseq_in (n : Nat) (hn : 2 ≤ n) (Bm m c : Nat) (l : List (List Int)) (w : World) (hBm : Bm < w.heap.size) (hm : w.cell? ⟨Bm, 0, none⟩ = some (.map (some m))) (hset : KSet w m c l) (hc : c ≤ 1000000) :
    CallsIn Fence.wide n Tryz.prog 161 #[.slice none 0 0, .func (.func 152) #[] #[.pointer (some ⟨Bm, 0, none⟩)]] w fun e w' => ∃ v ss, e = .returned v ∧ Gives l c ss ∧ w'.ownsRow w.heap.size 38 16 v ss.length ((ss.map Subtype.val).flatMap kc) ∧ Below w.heap.size w w' := by
  have h1 : 1 ≤ n := by omega
  obtain ⟨i0, hi, hz0, hz1, hz2⟩ := info_parts info_keyz
  refine callsIn_of_wp_marks Tryz.func161 rfl trivial ?_ rfl
  simp only [Tryz.ntmps161, List.size_toArray, List.length_cons, List.length_nil, Nat.reduceAdd, Nat.reduceSub, Array.replicate_succ, Array.replicate_zero, List.push_toArray, List.append_toArray, List.nil_append, List.cons_append]
  gi_wp2
  have bS := Boxed.new w 113 (.slice none 0 0)
  have hB0 : Below w.heap.size w (w.alloc (.cells #[.slice none 0 0] 113)) := (Below.refl _ w).alloc (Nat.le_refl _) _
  refine wpIn_rangeFunc_ownH rfl h1 (gf := 152) (lb := #[.pointer (some ⟨Bm, 0, none⟩)]) rfl trivial (enters_of Tryz.func152 (by kernel_rfl) rfl)
    (iter_stops (n - 1) (by omega) Bm m c l _ (by simp; omega) ((hB0.cell (p := ⟨Bm, 0, none⟩) hBm).trans hm) (hset.past hB0)) walksK_t walksK_b (Below.refl _ _) (fun _ => rfl)
    (Holding w) (fun _ _ _ => False) (Holding.own w _ (by simp)) (fun _ _ _ _ _ hs _ _ => hs)
    ⟨⟨_, bS, World.ownsRow_nil _ _ _ _, trivial⟩, hB0⟩ (AxK w Bm) (AxK.own w Bm _) ?assign ?body ?done ?stop
  case assign =>
    rintro lp pre x W K hi' hK
    have hmine := KeyMine.made W 38 zeroK zeroK_ky
    obtain ⟨hk1, hb1, hz1⟩ := laid_key W 38 x.2
    rw [zero_cells] at hmine hk1 hb1 hz1
    have hg1 := grown_none hb1
    gi_wp2_with (first | (refine wpListIn_store_key rfl _ _ rfl W.heap.size 0 zeroK x.1 rfl rfl x.2 hmine ?_; intro u hu; subst hu) | (rw [Oper.semAt_eq _ _ _ (fun c h => by cases h)]; go_simp; try go_bits))
    exact hK _ _ (KeepsFrom.of_grownBy hg1 (fun j e => by cases e)) (KeepsWalks.of_grownBy hg1 (fun r o e => by cases e)) (Holding.own w w.heap.size (Nat.le_refl _) pre W _ none hi' hg1 (fun r e => by cases e)) ⟨W.heap.size, hk1.lies, rfl⟩
  case body =>
    rintro lp pre x a' W hl ⟨r, hr⟩ ⟨⟨v, hv, hrow, _⟩, hB⟩ ⟨Bx, hkx, rfl⟩ hlt
    have hcl := hv.cell
    have hfold := fold_key x.1 x.2
    have hxl := x.2.len
    gi_wp2_with (first | (refine wpListIn_load_key rfl _ rfl Bx 0 rfl x.1 x.2 hkx ?_) | (gi_at_builtin; refine wpListIn_append_own _ rfl _ _ 113 rfl w.heap.size 38 i0 (kv zeroK) 16 16 Tryz.underlying113 hi hz0 hz1 hz2 rfl (by decide) _ _ _ rfl (hrow.alloc _) ⟨W.heap.size, 0, none⟩ 1 1 (kc x.1) rfl (by rw [kc_len x.2]) (cells_new W 38 x.1) (ints_oneCell _ _) (by unfold maxLen; omega) (by omega) (by have := hB.size; simp; omega) ?_; intro v' w1 hown' hgrow _; obtain ⟨g', cap', rfl⟩ := ownsRow_succ hown'; obtain ⟨hv1, hv2, hr2, hk2, hb2⟩ := hv.appended (by decide) hrow hB.size (Nat.le_refl _) hown' hgrow; have hc1 := hv1.cell; have hf1 := hv1.frozen) | (rw [Oper.semAt_eq _ _ _ (fun c h => by cases h)]; go_simp; try go_bits))
    refine ⟨hk2.from _, ⟨hk2.size, fun k o hk ho => hk2.same k o hk (Obj.not_cells_of_walk ho)⟩, ⟨_, hv2, ?_, trivial⟩, hB.trans hb2⟩
    simpa using hr2
  case done =>
    rintro D ys W hD hS ⟨⟨v, hv, hrow, _⟩, hB⟩ hK
    have hcl := hv.cell
    gi_wp2
    refine ⟨by simp, .inl ⟨_, _, rfl, run_takeDeferred hK, ?_⟩⟩
    exact ⟨_, results_tmp rfl _ _ _, v, ys, rfl, hS, ownsRow_putObj hrow _ hK rfl, hB.trans (belowK_b (w := w) (Nat.le_refl _) W D _ _ (by simp at hD; omega) hK rfl rfl)⟩
  case stop =>
    rintro D c pre W _ _ h _
    exact h.elim
end Go.Proofs.YtileidbdmpeciaaGreat

namespace Go.Proofs.YtileidbdmpeciaaGreat
open Go.RowKit
set_option linter.unusedVariables false

/-- A text laid into a key of noughts. -/
theorem KeyMine.lay {w : World} {b : Nat} {s : List Int} (h : KeyMine w b 0 zeroK) (hs : s.length ≤ 16) (hb : ∀ z ∈ s, 0 ≤ z ∧ z ≤ 255) : KeyMine (w.setCells b 0 (s.map (Value.int .u8))) b 0 (keyK s) := by
  have ht : w.there b 0 (s.map (Value.int .u8)).length := fun j hj => h.there j (by rw [List.length_map] at hj; omega)
  have hr := World.rangeAt_setCells_same w b 0 (s.map (Value.int .u8)) ht
  refine ⟨⟨fun i hi => ?_⟩, fun i hi => by rw [World.frozen?_setCells]; exact h.free i hi, keyK_ky hs hb⟩
  by_cases e : i < s.length
  · refine hr i _ ?_
    simp [keyK, List.getD, e, List.getElem?_append]
  · rw [World.cell?_setCells_out b (s.map (Value.int .u8)) 0 w ⟨b, 0 + i, none⟩ (fun _ => by simp; omega), h.lies.cell i hi]
    have e2 : i - s.length < 16 - s.length := by omega
    have hz : zeroK.getD i 0 = 0 := by unfold zeroK; simp only [List.getD, List.getElem?_replicate, hi, if_true]; rfl
    rw [hz]
    unfold keyK
    simp only [List.getD, List.getElem?_append, e, if_false, List.getElem?_replicate, e2, if_true]
    rfl
/-- The text of a key, laid. -/
theorem OfR.lay {w u : World} (h : OfR w u zeroK) {s : List Int} (hs : s.length ≤ 16) (hb : ∀ z ∈ s, 0 ≤ z ∧ z ≤ 255) : OfR w (u.setCells (w.heap.size + 1) 0 (s.map (Value.int .u8))) (keyK s) :=
  ⟨below_cells (by omega) h.below, h.res.other (by omega), h.key.lay hs hb⟩
end Go.Proofs.YtileidbdmpeciaaGreat

namespace Go.Proofs.YtileidbdmpeciaaGreat
open Go.RowKit
set_option linter.unusedVariables false

theorem appseq_any (Bm m c : Nat) (l : List (List Int)) (w : World) (hBm : Bm < w.heap.size) (hm : w.cell? ⟨Bm, 0, none⟩ = some (.map (some m))) (hset : KSet w m c l) (hc : c ≤ 1000000) :
    Calls Tryz.prog 161 #[.slice none 0 0, .func (.func 152) #[] #[.pointer (some ⟨Bm, 0, none⟩)]] w fun e w' => ∃ v ss, e = .returned v ∧ Gives l c ss ∧ w'.ownsRow w.heap.size 38 16 v ss.length ((ss.map Subtype.val).flatMap kc) ∧ Below w.heap.size w w' :=
  callsIn_wide.1 (appseq_in 2 (Nat.le_refl _) Bm m c l w hBm hm hset hc)
theorem collect_any (Bm m c : Nat) (l : List (List Int)) (w : World) (hBm : Bm < w.heap.size) (hm : w.cell? ⟨Bm, 0, none⟩ = some (.map (some m))) (hset : KSet w m c l) (hc : c ≤ 1000000) :
    Calls Tryz.prog 150 #[.func (.func 152) #[] #[.pointer (some ⟨Bm, 0, none⟩)]] w fun e w' => ∃ v ss, e = .returned v ∧ Gives l c ss ∧ w'.ownsRow w.heap.size 38 16 v ss.length ((ss.map Subtype.val).flatMap kc) ∧ Below w.heap.size w w' := by
  have C1 := appseq_any Bm m c l w hBm hm hset hc
  clear hset hm
  go_enter Tryz.func150, Tryz.ntmps150
  go_wp2_with (go_at_call 161; refine C1.mono ?_; rintro e w' ⟨v, ss, rfl, hS, hrow, hb⟩)
  go_ret
  exact ⟨v, ss, rfl, hS, hrow, hb⟩
theorem sortn_any (cap : Nat) (fv : Value) (w : World) : Calls Tryz.prog 151 #[.slice none 0 cap, fv] w fun e w' => e = .returned (.tuple #[]) ∧ w' = w :=
  AnyF.slices_SortFunc_none Tryz.sortL none cap fv w
theorem sorted_is {l m ss : List (List Int)} (hn : ss.Nodup) (hmem : ∀ k, k ∈ ss ↔ k ∈ l) (hp : m.Perm ss) (hs : m.Pairwise fun x y => lexC x y ≤ 0) : m = sortK l := by
  refine rising_ext (rising_of hs (hp.nodup_iff.2 hn)) (sortK_facts l).1 fun y => ?_
  rw [hp.mem_iff, hmem, (sortK_facts l).2.1]
/-- A list of keys of the call's own is put in order. -/
theorem sortv_any (base : Nat) (w0 w : World) (v : Value) (ss : List (List Int)) (hk : Kys ss) (hN : ss.length ≤ 1000000) (hrow : w.ownsRow base 38 16 v ss.length (ss.flatMap kc)) (hb : Below base w0 w) (hb0 : base ≤ w.heap.size) :
    Calls Tryz.prog 151 #[v, .func (.func 121) #[] #[]] w fun e w' => e = .returned (.tuple #[]) ∧ ∃ m : List (List Int), m.Perm ss ∧ m.Pairwise (fun x y => lexC x y ≤ 0) ∧ w'.ownsRow base 38 16 v ss.length (m.flatMap kc) ∧ Below base w0 w' := by
  rcases hrow.2 with ⟨rfl, h0⟩ | ⟨g, cap, cur, rfl, hg, hh, h1, h2, h3, h4⟩
  · refine (sortn_any 0 _ w).mono ?_
    rintro e w' ⟨rfl, rfl⟩
    have hn : ss = [] := List.eq_nil_of_length_eq_zero h0
    subst hn
    exact ⟨rfl, [], List.Perm.refl _, List.Pairwise.nil, hrow, hb⟩
  · refine (sortf_any base g cap ss hk w cur hg hh h1 h2 h3 h4 hN).mono ?_
    rintro e w' ⟨rfl, m, hp, hs, ho, hgr⟩
    exact ⟨rfl, m, hp, hs, ho, hb.grown hgr hb0 (fun j e => by injection e with e; subst e; exact hg)⟩
theorem keys_of_own {w : World} {base : Nat} {v : Value} {n : Nat} {m : List (List Int)} (hk : Kys m) (hl : m.length = n) (h : w.ownsRow base 38 16 v n (m.flatMap kc)) : ∃ a cap, v = .slice a n cap ∧ KeysAt w a m ∧ n ≤ cap := by
  rcases h.2 with ⟨rfl, h0⟩ | ⟨g, cap, cur, rfl, hg, hh, h1, h2, h3, h4⟩
  · subst h0
    exact ⟨none, 0, rfl, ⟨lies_none _ _, hk, fun _ => List.eq_nil_of_length_eq_zero hl⟩, Nat.le_refl _⟩
  · exact ⟨_, cap, rfl, ⟨own_lies h, hk, fun h => by cases h⟩, h1⟩
set_option maxHeartbeats 1000000 in
theorem sortedf_any (Bm m c : Nat) (l : List (List Int)) (w : World) (hBm : Bm < w.heap.size) (hm : w.cell? ⟨Bm, 0, none⟩ = some (.map (some m))) (hset : KSet w m c l) (hc : c ≤ 1000000) (hkl : Kys l) :
    Calls Tryz.prog 119 #[.func (.func 152) #[] #[.pointer (some ⟨Bm, 0, none⟩)], .func (.func 121) #[] #[]] w fun e w' => (∃ a' cap', e = .returned (.slice a' (sortK l).length cap') ∧ KeysAt w' a' (sortK l) ∧ (sortK l).length ≤ cap') ∧ Below w.heap.size w w' := by
  have C1 : Hid (Calls Tryz.prog 150 #[.func (.func 152) #[] #[.pointer (some ⟨Bm, 0, none⟩)]] w fun e w' => ∃ v ss, e = .returned v ∧ Gives l c ss ∧ w'.ownsRow w.heap.size 38 16 v ss.length ((ss.map Subtype.val).flatMap kc) ∧ Below w.heap.size w w') := collect_any Bm m c l w hBm hm hset hc
  have HC : Hid (c ≤ 1000000) := hc
  have HKL : Hid (Kys l) := hkl
  clear hset hm hBm hc hkl
  obtain ⟨X, hX⟩ : ∃ X, X = sortK l := ⟨_, rfl⟩
  have HX : Hid (X = sortK l) := hX
  rw [← hX]
  clear hX
  go_enter Tryz.func119, Tryz.ntmps119
  go_wp2_with (go_at_call 150; refine C1.out.mono ?_; rintro e w1 ⟨v, ss, rfl, hS, hrow, hb⟩; have HS : Hid (Gives l c ss) := hS; have HB : Hid (Below w.heap.size w w1) := hb; have CS : Hid (Calls Tryz.prog 151 #[v, .func (.func 121) #[] #[]] w1 fun e w' => e = .returned (.tuple #[]) ∧ ∃ m : List (List Int), m.Perm (ss.map Subtype.val) ∧ m.Pairwise (fun x y => lexC x y ≤ 0) ∧ w'.ownsRow w.heap.size 38 16 v (ss.map Subtype.val).length (m.flatMap kc) ∧ Below w.heap.size w w') := sortv_any w.heap.size w w1 v (ss.map Subtype.val) (fun k hk => by obtain ⟨x, _, rfl⟩ := List.mem_map.1 hk; exact x.2) (by rw [List.length_map]; have := hS.2.2; have := HC.out; omega) (by rw [List.length_map]; exact hrow) hb hb.size; clear hS hb hrow C1)
  refine CS.out.mono ?_
  rintro e w2 ⟨rfl, m', hp, hs, ho, hb2⟩
  have hX2 := HX.out
  rw [← sorted_is HS.out.1 HS.out.2.1 hp hs] at hX2
  subst hX2
  obtain ⟨a', cap', rfl, hat, hle⟩ := keys_of_own (fun k hk => by obtain ⟨x, _, rfl⟩ := List.mem_map.1 (hp.mem_iff.1 hk); exact x.2) hp.length_eq ho
  have HF : Hid (Ending.returned (.slice a' (ss.map Subtype.val).length cap') = Ending.returned (.slice a' X.length cap') ∧ KeysAt w2 a' X ∧ X.length ≤ cap' ∧ Below w.heap.size w w2) := ⟨by rw [hp.length_eq], hat, by rw [hp.length_eq]; exact hle, hb2⟩
  clear hp hs ho hat hle hb2 CS HS HX
  generalize (ss.map Subtype.val).length = N at HF ⊢
  go_wp2
  go_ret
  exact ⟨⟨a', cap', HF.out.1, HF.out.2.1, HF.out.2.2.1⟩, HF.out.2.2.2⟩
/-- What Sort's rounds hold. -/
structure SetR (w u : World) (l : List (List Int)) (n : Nat) : Prop where
  below : Below w.heap.size w u
  set : ∃ c, KSet u w.heap.size c (l.take n) ∧ c ≤ n
theorem SetR.round {w u : World} {l : List (List Int)} {n : Nat} (h : SetR w u l n) {u2 : World} (hb : Below u.heap.size u u2) : SetR w u2 l n :=
  ⟨h.below.trans (hb.mono h.below.size), by obtain ⟨c, h1, h2⟩ := h.set; exact ⟨c, h1.past hb, h2⟩⟩
end Go.Proofs.YtileidbdmpeciaaGreat

