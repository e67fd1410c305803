/-
  Keys in memory: a key's block, a key as a value.
  Keys that a call makes and writes: the laws of its block.
  The document's own order of keys (hourglassref10: Cmp).
  What the document's own keys (hourglassref10: Good, Cmp, Text, Within, Sum, Of) answer.
-/
import Derived.Test.YtcppihpehipelaaAu52
import Derived.Test.YtcppihpehipelaaAu44
import Derived.Deep.MidRow
import Derived.Deep.RegionHeld3
import Derived.BigRegion
namespace Go.Proofs.Ytcppihpehipelaa
open Go.RowKit
set_option linter.unusedVariables false

/-- A key's cells. -/
abbrev kcs (k : List Int) : Array Value := (k.map (Value.int .u8)).toArray
/-- A key as a value. -/
abbrev kv (k : List Int) : Value := .agg (kcs k)
theorem Ky.at {k : List Int} (h : Ky k) (i : Nat) : 0 ≤ k.getD i 0 ∧ k.getD i 0 ≤ 255 := by
  by_cases hi : i < k.length
  · have e : k.getD i 0 = k[i] := by simp [List.getD, hi]
    rw [e]; exact h.bytes _ (List.getElem_mem hi)
  · have e : k.getD i 0 = 0 := by simp [List.getD]; rw [List.getElem?_eq_none (by omega)]; rfl
    rw [e]; omega
/-- A key that lies in a block, from a place on. -/
structure KeyAt (w : World) (b o : Nat) (k : List Int) : Prop where
  cell : ∀ i, i < 16 → w.cell? ⟨b, o + i, none⟩ = some (.int .u8 (k.getD i 0))
theorem KeyAt.cell0 {w : World} {b : Nat} {k : List Int} (h : KeyAt w b 0 k) (i : Nat) (hi : i < 16) : w.cell? ⟨b, i, none⟩ = some (.int .u8 (k.getD i 0)) := by
  have := h.cell i hi
  rwa [Nat.zero_add] at this
theorem KeyAt.lt {w : World} {b o : Nat} {k : List Int} (h : KeyAt w b o k) : b < w.heap.size := lt_of_cell (h.cell 0 (by omega))
theorem KeyAt.made (w : World) (T : TypeId) (k : List Int) (hk : Ky k) : KeyAt (w.alloc (.cells (kcs k) T)) w.heap.size 0 k := by
  refine ⟨fun i hi => ?_⟩
  rw [World.cell?_alloc_new]
  have hl : i < k.length := by rw [hk.len]; exact hi
  simp [kcs, List.getD, hl]
theorem KeyAt.below {w w' : World} {b o B : Nat} {k : List Int} (h : KeyAt w b o k) (hb : Below B w w') (hB : b < B) : KeyAt w' b o k :=
  ⟨fun i hi => by rw [hb.cell (p := ⟨b, o + i, none⟩) hB]; exact h.cell i hi⟩
theorem KeyAt.past {w w' : World} {b o : Nat} {k : List Int} (h : KeyAt w b o k) (hb : Below w.heap.size w w') : KeyAt w' b o k := h.below hb h.lt
theorem KeyAt.same {w w' : World} {b o : Nat} {k : List Int} (h : KeyAt w b o k) (he : w'.heap = w.heap) : KeyAt w' b o k :=
  ⟨fun i hi => by rw [same_heap he]; exact h.cell i hi⟩
theorem KeyAt.alloc {w : World} {b o : Nat} {k : List Int} (h : KeyAt w b o k) (ob : Obj) : KeyAt (w.alloc ob) b o k :=
  h.below ((Below.refl w.heap.size _).alloc (Nat.le_refl _) ob) h.lt
theorem KeyAt.range {w : World} {b o : Nat} {k : List Int} (h : KeyAt w b o k) (hk : Ky k) : w.rangeAt b o (k.map (Value.int .u8)) := by
  intro j v hv
  rw [List.getElem?_map] at hv
  obtain ⟨z, hz, rfl⟩ := Option.map_eq_some_iff.1 hv
  have hj : j < 16 := by rw [← hk.len]; exact (List.getElem?_eq_some_iff.1 hz).1
  rw [h.cell j hj]
  simp [List.getD, hz]
theorem info_key : (Try.prog.info? 84).map (·.size) = some 16 := by kernel_rfl
/-- A key is read whole. -/
theorem wpList_load_key {ops : Array Oper} {rest : List Oper} {op : Oper} {a : Act} {w : World} {Q : Exit → Act → World → Prop} (hgd : op.guard = none) (x : Operand) (ho : op.op = .load 84 x)
    (b o : Nat) (hx : a.eval x = .pointer (some ⟨b, o, none⟩)) (k : List Int) (hk : Ky k) (hat : KeyAt w b o k)
    (h : wpList Try.prog ops Q rest (a.put op.dst (kv k)) w) : wpList Try.prog ops Q (op :: rest) a w :=
  wpList_load_mid hgd 84 x ho b o hx (k.map (Value.int .u8)) _ (hat.range hk) Try.underlying84 rfl (by rw [info_key, List.length_map, hk.len]) h
/-- As above, at a guarded operation whose guard is met. -/
theorem wpList_load_keyG {ops : Array Oper} {rest : List Oper} {op : Oper} {a : Act} {w : World} {Q : Exit → Act → World → Prop} (hw : Region.wanted op (yielded ops a.tmps) = true) (x : Operand) (ho : op.op = .load 84 x)
    (b o : Nat) (hx : a.eval x = .pointer (some ⟨b, o, none⟩)) (k : List Int) (hk : Ky k) (hat : KeyAt w b o k)
    (h : wpList Try.prog ops Q rest (a.put op.dst (kv k)) w) : wpList Try.prog ops Q (op :: rest) a w :=
  wpList_step fun K hK => by
    rw [if_pos hw]
    exact wp_load_mid 84 x ho b o hx (k.map (Value.int .u8)) _ (hat.range hk) Try.underlying84 rfl (by rw [info_key, List.length_map, hk.len]) (hK _ _ h)
/-- As above, at the operation that fills slot d. -/
theorem wpList_load_keyD (d : Tmp) {ops : Array Oper} {rest : List Oper} {op : Oper} {a : Act} {w : World} {Q : Exit → Act → World → Prop} (hd : op.dst = some d) (hw : Region.wanted op (yielded ops a.tmps) = true) (x : Operand) (ho : op.op = .load 84 x)
    (b o : Nat) (hx : a.eval x = .pointer (some ⟨b, o, none⟩)) (k : List Int) (hk : Ky k) (hat : KeyAt w b o k)
    (h : wpList Try.prog ops Q rest (a.put op.dst (kv k)) w) : wpList Try.prog ops Q (op :: rest) a w :=
  wpList_load_keyG hw x ho b o hx k hk hat h
theorem key_parts : ∃ i, Try.prog.info? 5 = some i := by
  have : (Try.prog.info? 5).isSome = true := by kernel_rfl
  exact Option.isSome_iff_exists.1 this
/-- Two keys held against one another. -/
theorem eq_key (w : World) (a b : List Int) (ha : Ky a) (hb : Ky b) : (Op.equalIn 10000 84 (kv a) (kv b)).run Try.prog w = .ok (decide (a = b)) w := by
  obtain ⟨i, hi⟩ := key_parts
  rw [eq_arr Try.underlying84 Try.underlying5 (by kernel_rfl) hi w a b ha.len hb.len]
  by_cases h : a = b <;> simp [h]
theorem tx_first : ∀ k : List Int, (txK k).length < k.length → k.getD (txK k).length 0 = 0
  | [], h => by simp at h
  | a :: r, h => by
    unfold txK at h ⊢
    rw [List.takeWhile_cons] at h ⊢
    by_cases ha : (a != 0) = true
    · rw [if_pos ha] at h ⊢
      have := tx_first r (by unfold txK; simpa using h)
      unfold txK at this
      simpa using this
    · rw [if_neg ha]
      simpa using ha
theorem tx_none {k : List Int} {i : Nat} (h : i < (txK k).length) : k.getD i 0 ≠ 0 := by
  have e : k.getD i 0 = (txK k)[i] := by
    have hs := txK_split k
    have : k.getD i 0 = (txK k ++ k.drop (txK k).length).getD i 0 := by rw [← hs]
    rw [this]
    simp [List.getD, List.getElem?_append, h]
  rw [e]
  exact txK_none k _ (List.getElem_mem h)
theorem tx_more {k : List Int} {i : Nat} (h : i ≤ (txK k).length) (hi : i < k.length) (hz : k.getD i 0 ≠ 0) : i + 1 ≤ (txK k).length := by
  rcases Nat.lt_or_ge i (txK k).length with h1 | h1
  · exact h1
  · have e : (txK k).length = i := by omega
    have := tx_first k (by omega)
    rw [e] at this
    exact absurd this hz
theorem take_drop_next {k : List Int} {n m : Nat} (h : ∀ z ∈ (k.take n).drop m, z = 0) (hn : n < k.length) (hz : m ≤ n → k.getD n 0 = 0) : ∀ z ∈ (k.take (n + 1)).drop m, z = 0 := by
  intro z hm
  rw [List.take_succ_eq_append_getElem hn, List.drop_append, List.mem_append] at hm
  rcases hm with hm | hm
  · exact h z hm
  · by_cases hmn : m ≤ n
    · have e := hz hmn
      have : (m - (k.take n).length) = 0 := by simp; omega
      rw [this] at hm
      simp at hm
      rw [hm]
      simpa [List.getD, hn] using e
    · have : [k[n]].drop (m - (k.take n).length) = [] := List.drop_eq_nil_of_le (by simp; omega)
      rw [this] at hm
      simp at hm
theorem good_none {k : List Int} {n : Nat} (h : (txK k).length < n) (hn : n < k.length) (hz : k.getD n 0 ≠ 0) : goodK k = false := by
  refine decide_eq_false fun hg => hz ?_
  refine hg.2 _ ?_
  have : k.getD n 0 = (k.drop (txK k).length).getD (n - (txK k).length) 0 := by
    simp [List.getD, show (txK k).length + (n - (txK k).length) = n by omega]
  rw [this]
  have hl : n - (txK k).length < (k.drop (txK k).length).length := by simp; omega
  have e : (k.drop (txK k).length).getD (n - (txK k).length) 0 = (k.drop (txK k).length)[n - (txK k).length] := by rw [List.getD, List.getElem?_eq_getElem hl]; rfl
  rw [e]
  exact List.getElem_mem hl
theorem good_end {k : List Int} (hk : Ky k) (h : ∀ z ∈ (k.take 16).drop (txK k).length, z = 0) : goodK k = (k.getD 0 0 != 0) := by
  have e : k.take 16 = k := List.take_of_length_le (by rw [hk.len]; exact Nat.le_refl _)
  rw [e] at h
  unfold goodK
  by_cases h0 : k.getD 0 0 = 0
  · rw [decide_eq_false (fun x => x.1 h0), h0]; rfl
  · rw [decide_eq_true ⟨h0, h⟩]; exact (bne_iff_ne.2 h0).symm
end Go.Proofs.Ytcppihpehipelaa

namespace Go.Proofs.Ytcppihpehipelaa
open Go.RowKit
set_option linter.unusedVariables false

theorem below_cells {B : Nat} {a : World} {b : Nat} (hB : B ≤ b) : ∀ {vs : List Value} {o : Nat} {w : World}, Below B a w → Below B a (w.setCells b o vs)
  | [], _, _, h => h
  | v :: r, o, w, h => below_cells hB (vs := r) (h.setCell (p := ⟨b, o, none⟩) hB v)
theorem size_cells (b : Nat) : ∀ (vs : List Value) (o : Nat) (w : World), (w.setCells b o vs).heap.size = w.heap.size
  | [], _, _ => rfl
  | v :: r, o, w => by rw [World.setCells, size_cells b r, World.size_setCell]
/-- A key that lies in a block that may be written. -/
structure KeyMine (w : World) (b o : Nat) (k : List Int) : Prop where
  lies : KeyAt w b o k
  free : ∀ i, i < 16 → w.frozen? ⟨b, o + i, none⟩ = false
  ky : Ky k
theorem KeyMine.made (w : World) (T : TypeId) (k : List Int) (hk : Ky k) : KeyMine (w.alloc (.cells (kcs k) T)) w.heap.size 0 k :=
  ⟨KeyAt.made w T k hk, fun i hi => World.frozen?_alloc_new _ _ _ _, hk⟩
theorem KeyMine.below {w w' : World} {b o B : Nat} {k : List Int} (h : KeyMine w b o k) (hb : Below B w w') (hB : b < B) : KeyMine w' b o k :=
  ⟨h.lies.below hb hB, fun i hi => by rw [hb.frozen (p := ⟨b, o + i, none⟩) hB]; exact h.free i hi, h.ky⟩
theorem KeyMine.alloc {w : World} {b o : Nat} {k : List Int} (h : KeyMine w b o k) (ob : Obj) : KeyMine (w.alloc ob) b o k :=
  h.below ((Below.refl w.heap.size _).alloc (Nat.le_refl _) ob) h.lies.lt
theorem KeyMine.there {w : World} {b o : Nat} {k : List Int} (h : KeyMine w b o k) : w.there b o 16 :=
  fun j hj => ⟨by rw [h.lies.cell j hj]; rfl, h.free j hj⟩
theorem KeyMine.store {w : World} {b o : Nat} {k k' : List Int} (h : KeyMine w b o k) (hk : Ky k') : KeyMine (w.setCells b o (k'.map (Value.int .u8))) b o k' := by
  have ht := h.there
  have hl : (k'.map (Value.int .u8)).length = 16 := by rw [List.length_map]; exact hk.len
  rw [← hl] at ht
  have hr := World.rangeAt_setCells_same w b o (k'.map (Value.int .u8)) ht
  refine ⟨⟨fun i hi => ?_⟩, fun i hi => by rw [World.frozen?_setCells]; exact h.free i hi, hk⟩
  refine hr i _ ?_
  have hi' : i < k'.length := by rw [hk.len]; exact hi
  simp [List.getD, hi']
theorem KeyMine.other {w : World} {b o c o' : Nat} {k : List Int} {vs : List Value} (h : KeyMine w b o k) (hne : b ≠ c) : KeyMine (w.setCells c o' vs) b o k :=
  ⟨⟨fun i hi => by rw [World.cell?_setCells_out c vs o' w ⟨b, o + i, none⟩ (fun e _ => absurd e hne)]; exact h.lies.cell i hi⟩, fun i hi => by rw [World.frozen?_setCells]; exact h.free i hi, h.ky⟩
theorem KeyMine.aside {w : World} {b o : Nat} {k : List Int} {p : Addr} {v : Value} (h : KeyMine w b o k) (hne : b ≠ p.block) : KeyMine (w.setCell p v) b o k :=
  ⟨⟨fun i hi => by rw [World.cell?_setCell_other _ _ _ _ (by intro e; exact hne (by rw [e]))]; exact h.lies.cell i hi⟩, fun i hi => by rw [World.frozen?_setCell]; exact h.free i hi, h.ky⟩
theorem KeyMine.set {w : World} {b : Nat} {k : List Int} (h : KeyMine w b 0 k) (n : Nat) (z : Int) (hn : n < 16) (h0 : 0 ≤ z) (h1 : z ≤ 255) : KeyMine (w.setCell ⟨b, n, none⟩ (.int .u8 z)) b 0 (k.set n z) := by
  refine ⟨⟨fun i hi => ?_⟩, fun i hi => by rw [World.frozen?_setCell]; exact h.free i hi, ⟨by rw [List.length_set]; exact h.ky.len, fun y hy => ?_⟩⟩
  · rw [Nat.zero_add]
    by_cases e : n = i
    · subst e
      rw [World.cell?_setCell_same _ _ _ (h.lies.cell0 n hn)]
      have : n < k.length := by rw [h.ky.len]; exact hn
      simp [List.getD, this]
    · rw [World.cell?_setCell_other _ _ _ _ (by intro h'; injection h' with _ h2; exact e h2), h.lies.cell0 i hi]
      simp [List.getD, e]
  · rcases List.mem_or_eq_of_mem_set hy with h' | rfl
    · exact h.ky.bytes y h'
    · exact ⟨h0, h1⟩
end Go.Proofs.Ytcppihpehipelaa

namespace Go.Proofs.Ytcppihpehipelaa
open Go.RowKit
set_option linter.unusedVariables false

end Go.Proofs.Ytcppihpehipelaa

namespace Go.Proofs.Ytcppihpehipelaa
open Go.RowKit
set_option linter.unusedVariables false

set_option maxHeartbeats 1000000 in
theorem rgood_any (k : List Int) (hk : Ky k) (w : World) :
    Calls Try.prog 90 #[kv k] w fun e w' => e = .returned (.bool (goodK k)) ∧ Below w.heap.size w w' := by
  have HK : Hid (Ky k) := hk
  have HA : Hid (KeyAt (w.alloc (.cells (kcs k) 84)) w.heap.size 0 k) := KeyAt.made w 84 k hk
  have HB : Hid (Below w.heap.size w (w.alloc (.cells (kcs k) 84))) := (Below.refl _ _).alloc (Nat.le_refl _) _
  clear hk
  go_enter Try.func90, Try.ntmps90
  go_wp2
  generalize hU : w.alloc (.cells (kcs k) 84) = u at *
  clear hU
  go_loop [3, 4] (fun en i => ∃ n : Nat, n ≤ 16 ∧ i = .int .i64 n ∧ en = .bool (decide ((txK k).length < n)) ∧ Hid (∀ z ∈ (k.take n).drop (txK k).length, z = 0)) (fun _ i => 16 - (intOf i).toNat)
  case atStart => exact ⟨0, Nat.zero_le _, rfl, rfl, by intro z hz; simp at hz⟩
  case round =>
    obtain ⟨n, hn, rfl, rfl, HZ⟩ := hrel
    by_cases hlt : n < 16
    · have hc := HA.out.cell0 n hlt
      have hb := HK.out.at n
      have hln : n < k.length := by rw [HK.out.len]; exact hlt
      obtain ⟨Z, hZ⟩ : ∃ Z, Z = k.getD n 0 := ⟨_, rfl⟩
      rw [← hZ] at hc hb
      have h0 : (0 : Int) ≤ (n : Int) := by omega
      have h1 : (n : Int) < 16 := by omega
      by_cases hz : Z = 0
      · subst hz
        have hz' : k.getD n 0 = 0 := hZ.symm
        have HZ' : Hid (∀ z ∈ (k.take (n + 1)).drop (txK k).length, z = 0) := take_drop_next HZ.out hln (fun _ => hz')
        have HE : Hid (decide ((txK k).length < n + 1) = true) := by
          have : ¬ n < (txK k).length := fun h => tx_none h hz'
          show _ = _
          simp; omega
        clear hZ hz' hln
        go_wp2
        go_round
        case rel => exact ⟨n + 1, by omega, by go_num, by rw [HE.out], HZ'⟩
        case measure => simp [intOf]; omega
      · have hzb : (Z == 0) = false := by simpa using hz
        have hz' : k.getD n 0 ≠ 0 := by rw [← hZ]; exact hz
        by_cases he : (txK k).length < n
        · have HG : Hid (goodK k = false) := good_none he hln hz'
          rw [decide_eq_true he]
          clear hz hz' hZ he hln
          go_wp2
          go_ret
          exact ⟨by rw [HG.out]; rfl, HB.out⟩
        · have hm := tx_more (by omega) hln hz'
          have HZ' : Hid (∀ z ∈ (k.take (n + 1)).drop (txK k).length, z = 0) := take_drop_next HZ.out hln (fun h => by omega)
          have HE : Hid (decide ((txK k).length < n + 1) = false) := by show _ = _; simp; omega
          rw [decide_eq_false he]
          clear hz hz' hZ he hm hln
          go_wp2
          go_round
          case rel => exact ⟨n + 1, by omega, by go_num, by rw [HE.out], HZ'⟩
          case measure => simp [intOf]; omega
    · obtain rfl : n = 16 := by omega
      have HG : Hid (goodK k = (k.getD 0 0 != 0)) := good_end HK.out HZ.out
      have hc := HA.out.cell0 0 (by omega)
      have hb := HK.out.at 0
      obtain ⟨Z, hZ⟩ : ∃ Z, Z = k.getD 0 0 := ⟨_, rfl⟩
      rw [← hZ] at hc hb HG
      clear hZ
      go_wp2
      go_ret
      exact ⟨by rw [HG.out]; rfl, HB.out⟩
/-- Three keys, each in a block of its own. -/
structure Three3 (w u : World) (k a b : List Int) : Prop where
  below : Below w.heap.size w u
  k : KeyAt u w.heap.size 0 k
  a : KeyAt u (w.heap.size + 1) 0 a
  b : KeyAt u (w.heap.size + 2) 0 b
theorem Three3.made (w : World) (T : TypeId) {k a b : List Int} (hk : Ky k) (ha : Ky a) (hb : Ky b) : Three3 w (((w.alloc (.cells (kcs k) T)).alloc (.cells (kcs a) T)).alloc (.cells (kcs b) T)) k a b := by
  have e1 := KeyAt.made w T k hk
  have e2 := KeyAt.made (w.alloc (.cells (kcs k) T)) T a ha
  have e3 := KeyAt.made ((w.alloc (.cells (kcs k) T)).alloc (.cells (kcs a) T)) T b hb
  rw [World.size_alloc] at e2
  rw [World.size_alloc, World.size_alloc] at e3
  exact ⟨(((Below.refl _ _).alloc (Nat.le_refl _) _).alloc (by simp) _).alloc (by simp; omega) _, (e1.alloc _).alloc _, e2.alloc _, e3⟩
theorem Three3.past {w u v : World} {k a b : List Int} (h : Three3 w u k a b) (hb : Below u.heap.size u v) : Three3 w v k a b :=
  ⟨h.below.trans (hb.mono h.below.size), h.k.past hb, h.a.past hb, h.b.past hb⟩
end Go.Proofs.Ytcppihpehipelaa

