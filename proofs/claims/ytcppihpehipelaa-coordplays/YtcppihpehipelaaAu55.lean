/-
  Lists whose elements have several cells, in memory of their own: what copy, append of zeros and clear leave of them; and what becomes of the cells when one element is put in, or the first ones go. No function of the program is named here.
  Appends to lists of the call's own whose elements have several cells, and where the list lies behind it.
  The library's Clone, Index, Contains, IndexFunc, DeleteFunc at lists of numbers; package coord's without.
-/
import Derived.Test.YtcppihpehipelaaEls
import Derived.Laws.CopyRow
import Derived.Maps.AppendAt
import Derived.Lib.Overlaps
import Derived.Deep.RegionHeld3
import Derived.Test.YtcppihpehipelaaCdMem
import Derived.Test.YtcppihpehipelaaRecL4
import Derived.Lib.SliceRun
import Derived.Handy
namespace Go.Proofs.Ytcppihpehipelaa
open Go.RowKit
set_option linter.unusedVariables false

/-- clear(s) of a list of one's own: zeros are there. -/
theorem run_clear_els {t e : TypeId} {size bytes : Nat} (E : ElT t e size bytes) (hz : ∀ i z, Try.prog.info? e = some i → i.zero = some z → ∀ u ∈ z.cells, u.oneCell' = true) (w : World) (ty : TypeId) (g o n c : Nat) (cur : Array Value)
    (hg : w.heap[g]? = some (.cells cur e (0, 0))) (hn : 0 < n) (hfit : o + n * size ≤ cur.size) :
    ∃ zs, zs.length = n * size ∧ (Builtin.clear_ #[t] ty #[.slice (some ⟨g, o, none⟩) n c]).run Try.prog w = .ok (.tuple #[]) (w.setRow g (cur.toList.take o ++ zs ++ cur.toList.drop (o + zs.length)).toArray) := by
  obtain ⟨i0, z, hi, hz0, hz1, hz2, hz3⟩ := E.info
  have hl : (Builtin.zeroCells z.cells n).toList.length = n * size := by rw [Array.length_toList, size_zeroCells, hz3]
  have h1 : ∀ u ∈ (Builtin.zeroCells z.cells n).toList, u.oneCell' = true := by
    intro u hu
    simp [Builtin.zeroCells] at hu
    obtain ⟨k, hk, rfl⟩ := hu
    have hp : 0 < z.cells.size := by rw [hz3]; exact E.pos
    have hlt := Nat.mod_lt k hp
    refine hz i0 z hi hz0 _ ?_
    rw [getElem!_pos z.cells (k % z.cells.size) hlt]
    exact Array.getElem_mem hlt
  have hst := run_storeCells_at Try.prog g o e (Builtin.zeroCells z.cells n).toList 0 cur w hg (by rw [hl]; simpa using hfit) h1
  simp only [Nat.add_zero] at hst
  refine ⟨(Builtin.zeroCells z.cells n).toList, hl, ?_⟩
  obtain ⟨m, rfl⟩ : ∃ m, n = m + 1 := ⟨n - 1, by omega⟩
  simp [Builtin.clear_, run_underlying E.ht, zeroValue, typeInfo, hi, hz0, hst]
section
variable {α : Type}
end
end Go.Proofs.Ytcppihpehipelaa

namespace Go.Proofs.Ytcppihpehipelaa
open Go.RowKit
set_option linter.unusedVariables false
set_option linter.unusedSimpArgs false

theorem run_append_els_at {t e : TypeId} {size bytes : Nat} (E : ElT t e size bytes) (w : World) (B : Nat) (v : Value) (n : Nat) (xs : List Value) (hown : w.ownsRow B e size v n xs) (sa : Addr) (m c : Nat) (news : List Value) (hl : news.length = m * size) (hsrc : Lies w (some sa) news) (h1 : ∀ u ∈ news, u.oneCell' = true) (hn : n + m ≤ 1000000) (hB : B ≤ w.heap.size) (ty : TypeId) :
    ∃ a' cap' w', (Builtin.append_ #[t, t] ty #[v, .slice (some sa) m c]).run Try.prog w = .ok (.slice a' (n + m) cap') w' ∧ w'.ownsRow B e size (.slice a' (n + m) cap') (n + m) (xs ++ news) ∧ w.grownBy w' v.ownBlock ∧ ((Value.slice a' (n + m) cap').ownBlock = v.ownBlock ∨ (Value.slice a' (n + m) cap').ownBlock = some w.heap.size) := by
  obtain ⟨i0, z, hi, hz0, hz1, hz2, hz3⟩ := E.info
  have hbig : (n + m) * bytes ≤ 140737488355328 := Nat.le_trans (Nat.mul_le_mul hn E.small) (by decide)
  obtain ⟨v', w', hrun, h2, h3, _, h4⟩ := run_append_own_at (P := Try.prog) w B t ty e i0 z size bytes E.ht hi hz0 hz1 hz2 hz3 E.pos v n xs hown sa m c news hl (hsrc sa rfl).2 h1 (by unfold maxLen; omega) hbig hB
  obtain ⟨a', cap', rfl⟩ := own_form h2
  exact ⟨a', cap', w', hrun, h2, h3, h4⟩
theorem wpList_append_els_at {t e : TypeId} {size bytes : Nat} (E : ElT t e size bytes) {w : World} {ops : Array Oper} {rest : List Oper} {o : Oper} {a : Act} {Q : Exit → Act → World → Prop} (B : Nat) (hB : B ≤ w.heap.size) (hgd : o.guard = none) (s x : Operand)
    (ho : o.op = .call { callee := .builtin .append, args := #[s, x], argTypes := #[t, t] })
    (v : Value) (n : Nat) (xs news : List Value) (hs : a.eval s = v) (hown : w.ownsRow B e size v n xs) (sa : Addr) (m c : Nat) (hx : a.eval x = .slice (some sa) m c) (hl : news.length = m * size) (hsrc : Lies w (some sa) news) (h1 : ∀ u ∈ news, u.oneCell' = true) (hn : n + m ≤ 1000000)
    (h : ∀ a' cap' w', w'.ownsRow B e size (.slice a' (n + m) cap') (n + m) (xs ++ news) → w.grownBy w' v.ownBlock → ((Value.slice a' (n + m) cap').ownBlock = v.ownBlock ∨ (Value.slice a' (n + m) cap').ownBlock = some w.heap.size) → wpList Try.prog ops Q rest (a.put o.dst (.slice a' (n + m) cap')) w') : wpList Try.prog ops Q (o :: rest) a w := by
  refine wpList_plain hgd fun K hK => ?_
  obtain ⟨a', cap', w', hrun, h2, h3, h4⟩ := run_append_els_at E w B v n xs hown sa m c news hl hsrc h1 hn hB o.type
  unfold Oper.wp
  simp [execOp, ho, resolve, invoke, builtin, hs, hx, hrun, Result.andThen]
  exact hK _ _ (h a' cap' w' h2 h3 h4)
end Go.Proofs.Ytcppihpehipelaa

namespace Go.Proofs.Ytcppihpehipelaa
open Go.RowKit
set_option linter.unusedVariables false
set_option linter.unusedSimpArgs false

theorem ints_elC : ElT 35 3 1 8 := ElT.mk' (z := .int .i64 0) Try.underlying35 (by kernel_rfl) (by kernel_rfl) (by decide) (by decide)
theorem int_zeroC : ∀ i z, Try.prog.info? 3 = some i → i.zero = some z → ∀ u ∈ z.cells, u.oneCell' = true := by
  intro i z hi hz u hu
  have h : (Try.prog.info? 3).map (fun i => i.zero) = some (some (.int .i64 0)) := by kernel_rfl
  rw [hi] at h
  have h2 : i.zero = some (.int .i64 0) := Option.some.inj h
  rw [hz] at h2
  have h3 : z = .int .i64 0 := Option.some.inj h2
  subst h3
  simp [Value.cells] at hu
  subst hu
  rfl
theorem ivs_oneC (l : List Int) : ∀ u ∈ l.map (Value.int .i64), u.oneCell' = true := fun u hu => by
  obtain ⟨z, _, rfl⟩ := List.mem_map.1 hu
  rfl
theorem IntsAt.liesC {w : World} {b o : Nat} {l : List Int} (h : IntsAt w (some ⟨b, o, none⟩) l) : Lies w (some ⟨b, o, none⟩) (l.map (Value.int .i64)) := lies_of fun j u hj => by
  rw [List.getElem?_map] at hj
  obtain ⟨z, hz, rfl⟩ := Option.map_eq_some_iff.1 hj
  have hjl := (List.getElem?_eq_some_iff.1 hz).1
  rcases h.cells with rfl | ⟨b2, o2, e, hc⟩
  · simp at hz
  · injection e with e
    injection e with e1 e2
    subst e1
    subst e2
    have := hc j hjl
    rwa [show l.getD j 0 = z by simp [List.getD, hz]] at this
theorem IntsO.ints {u : World} {g : Nat} {zs : List Int} (h : IntsO u g zs) (hb : ∀ z ∈ zs, -9223372036854775808 ≤ z ∧ z ≤ 9223372036854775807) : IntsAt u (some ⟨g, 0, none⟩) zs := by
  refine ⟨.inr ⟨g, 0, rfl, fun j hj => ?_⟩, hb⟩
  rw [Nat.zero_add]
  exact h.at_ (by simp [List.getD, hj])
/-- slices.Clone: the same numbers, in a block of the call's own. -/
structure ClonedC (w w' : World) (e : Ending) (N : Nat) (l : List Int) : Prop where
  out : ∃ a' cap, e = .returned (.slice a' N cap) ∧ N ≤ cap ∧ IntsAt w' a' l ∧ (0 < N → ∃ g, a' = some ⟨g, 0, none⟩ ∧ w.heap.size ≤ g ∧ IntsO w' g l)
  below : Below w.heap.size w w'
set_option maxHeartbeats 1000000 in
theorem cdclone_any (b o c N : Nat) (l : List Int) (w : World) (hl : l.length = N) (hN : N ≤ 1000) (hat : IntsAt w (some ⟨b, o, none⟩) l) :
    Calls Try.prog 37 #[.slice (some ⟨b, o, none⟩) N c] w fun e w' => ClonedC w w' e N l := by
  have q : ∀ (w : World) (a : Option Addr) (n c n' c' : Nat), (binOp .eql 35 (.slice a n c) (.slice none n' c')).run Try.prog w = .ok (.bool a.isNone) w := fun w a n c n' c' => Lib.run_eql_slice_nil w _ _ a n c n' c' Try.underlying35
  have HS : Hid (Lies (w.alloc (.cells #[] 3)) (some ⟨b, o, none⟩) (l.map (Value.int .i64))) := hat.liesC.past ((Below.refl _ _).alloc (Nat.le_refl _) _)
  have HO : Hid ((w.alloc (.cells #[] 3)).ownsRow w.heap.size 3 1 (.slice (some ⟨w.heap.size, 0, none⟩) 0 0) 0 []) := World.ownsRow_made w #[] 0 (Nat.le_refl _) (by unfold maxLen; omega) (by simp)
  have HB : Hid (Below w.heap.size w (w.alloc (.cells #[] 3))) := (Below.refl _ _).alloc (Nat.le_refl _) _
  have HL : Hid ((l.map (Value.int .i64)).length = N * 1) := by show _ = _; rw [List.length_map, hl, Nat.mul_one]
  have HZ : Hid (0 + N = N) := Nat.zero_add N
  have HN : Hid (l.length = N) := hl
  have HBD : Hid (∀ z ∈ l, -9223372036854775808 ≤ z ∧ z ≤ 9223372036854775807) := hat.bounds
  have H1K : Hid (∀ u ∈ l.map (Value.int .i64), u.oneCell' = true) := ivs_oneC l
  clear hat hl
  go_enter Try.func37, Try.ntmps37
  go_wp2_with (at_builtin; refine wpList_append_els ints_elC (w0 := w) rfl _ _ rfl HB.out _ 0 [] (l.map (Value.int .i64)) rfl HO.out _ N c rfl HL.out HS.out H1K.out (fun h => by cases h) (by omega) ?_; intro a' c' w' h1 h2 h3; rw [HZ.out, List.nil_append] at h1; have H1 : Hid (w'.ownsRow w.heap.size 3 1 (.slice a' N c') N (l.map (Value.int .i64))) := h1; have H3 : Hid (Below w.heap.size w w') := h3; clear h1 h2 h3; rw [HZ.out])
  go_wp2
  go_ret
  refine ⟨?_, H3.out⟩
  rcases Nat.eq_zero_or_pos N with h0 | h0
  · subst h0
    have hz := List.eq_nil_of_length_eq_zero HN.out
    subst hz
    exact ⟨a', c', rfl, Nat.zero_le _, ⟨.inl rfl, fun z hz => by simp at hz⟩, fun h => by omega⟩
  · obtain ⟨g, cap, e, h1, h2, h3⟩ := IntsO.of_own H1.out HN.out h0
    injection e with e1 _ e2
    subst e1
    subst e2
    exact ⟨_, c', rfl, h1, h3.ints HBD.out, fun _ => ⟨g, rfl, h2, h3⟩⟩
set_option maxHeartbeats 2000000 in
theorem cdindex_any (a : Option Addr) (N c : Nat) (l : List Int) (p : Int) (w : World) (hl : l.length = N) (hN : N ≤ 1000000) (hat : IntsAt w a l) :
    Calls Try.prog 61 #[.slice a N c, .int .i64 p] w fun e w' => (∃ i : Int, e = .returned (.int .i64 i) ∧ (0 ≤ i ↔ l.contains p = true)) ∧ w' = w := by
  have HN : Hid (l.length = N) := hl
  have HA : Hid (IntsAt w a l) := hat
  clear hl hat
  go_enter Try.func61, Try.ntmps61
  go_wp2
  go_loop [8] (fun iv => ∃ i : Nat, i ≤ N ∧ iv = .int .i64 i ∧ Hid (∀ (j : Nat) (x : Int), j < i → l[j]? = some x → x ≠ p)) (fun iv => N - (intOf iv).toNat)
  case atStart => exact ⟨0, Nat.zero_le _, rfl, fun j x hj => by omega⟩
  case round =>
    obtain ⟨i, hi, rfl, HS⟩ := hrel
    have hi0 : (0 : Int) ≤ (i : Int) := by omega
    by_cases hlt : i < N
    · have h1 : (i : Int) < (N : Int) := by omega
      obtain ⟨b, o, x, rfl, z0, hx⟩ := HA.out.at (i := i) (by rw [HN.out]; exact hlt)
      have HX : Hid (l[i]? = some x) := hx
      clear hx
      by_cases hid : p = x
      · have hb : (p == x) = true := by simpa using hid
        have HR : Hid (l.contains p = true) := by show _ = _; rw [List.contains_iff_mem, hid]; exact List.mem_of_getElem? HX.out
        clear hid
        go_wp2
        go_ret
        exact ⟨⟨(i : Int), rfl, fun _ => (by have := HR.out; simpa using this), fun _ => hi0⟩, rfl⟩
      · have hb : (p == x) = false := by simpa using hid
        have HS2 : Hid (∀ (j : Nat) (y : Int), j < i + 1 → l[j]? = some y → y ≠ p) := fun j y hj hy => by
          by_cases e : j = i
          · subst e
            rw [HX.out] at hy
            injection hy with hy
            rw [← hy]
            exact fun e => hid e.symm
          · exact HS.out j y (by omega) hy
        go_wp2
        go_round
        case rel => exact ⟨i + 1, by omega, by go_num, HS2⟩
        case measure => simp [intOf]; omega
    · obtain rfl : i = N := by omega
      have HR : Hid (¬ l.contains p = true) := fun e => by
        rw [List.contains_iff_mem] at e
        obtain ⟨j, hj⟩ := List.mem_iff_getElem?.1 e
        exact HS.out j p (by rw [← HN.out]; exact (List.getElem?_eq_some_iff.1 hj).1) hj rfl
      go_wp2
      go_ret
      exact ⟨⟨-1, rfl, fun e => by omega, fun e => absurd e (by have := HR.out; simpa using this)⟩, rfl⟩
theorem cdhas_any (a : Option Addr) (N c : Nat) (l : List Int) (p : Int) (w : World) (hl : l.length = N) (hN : N ≤ 1000000) (hat : IntsAt w a l) :
    Calls Try.prog 40 #[.slice a N c, .int .i64 p] w fun e w' => e = .returned (.bool (l.contains p)) ∧ w' = w := by
  have CI : Hid (Calls Try.prog 61 #[.slice a N c, .int .i64 p] w fun e w' => (∃ i : Int, e = .returned (.int .i64 i) ∧ (0 ≤ i ↔ l.contains p = true)) ∧ w' = w) := cdindex_any a N c l p w hl hN hat
  obtain ⟨R, hR⟩ : ∃ R, R = l.contains p := ⟨_, rfl⟩
  rw [← hR] at CI ⊢
  clear hl hat hR
  go_enter Try.func40, Try.ntmps40
  go_wp2_with (go_at_call 61; refine CI.out.mono ?_; rintro e w1 ⟨⟨i, rfl, hi3⟩, hw⟩; obtain rfl := hw.symm; have HI : Hid (0 ≤ i ↔ R = true) := hi3; clear hi3 hw)
  go_ret
  refine ⟨?_, rfl⟩
  by_cases h : 0 ≤ i
  · rw [HI.out.1 h]; simp [h]
  · have : R = false := by
      cases hR : R with
      | false => rfl
      | true => exact absurd (HI.out.2 hR) h
    rw [this]; simp [h]
theorem cdwo1_any (x p : Int) (x1 : Nat) (w : World) (h : w.cell? ⟨x1, 0, none⟩ = some (.int .i64 p)) :
    Calls Try.prog 64 #[.int .i64 x, .pointer (some ⟨x1, 0, none⟩)] w fun e w' => e = .returned (.bool (decide (x = p))) ∧ w' = w := by
  by_cases hx : x = p
  · have hb : (x == p) = true := by simpa using hx
    rw [decide_eq_true hx]
    clear hx
    go_enter Try.func64, Try.ntmps64
    go_wp2
    go_ret
    exact ⟨rfl, rfl⟩
  · have hb : (x == p) = false := by simpa using hx
    rw [decide_eq_false hx]
    clear hx
    go_enter Try.func64, Try.ntmps64
    go_wp2
    go_ret
    exact ⟨rfl, rfl⟩
set_option maxHeartbeats 2000000 in
theorem cdidxf_any (a : Option Addr) (N c : Nat) (l : List Int) (p : Int) (x1 : Nat) (w : World) (hl : l.length = N) (hN : N ≤ 1000000) (hat : IntsAt w a l) (h : w.cell? ⟨x1, 0, none⟩ = some (.int .i64 p)) :
    Calls Try.prog 71 #[.slice a N c, .func (.func 64) #[] #[.pointer (some ⟨x1, 0, none⟩)]] w fun e w' => ((e = .returned (.int .i64 (-1)) ∧ p ∉ l) ∨ ∃ i : Nat, e = .returned (.int .i64 i) ∧ l[i]? = some p ∧ ∀ (j : Nat) (x : Int), j < i → l[j]? = some x → x ≠ p) ∧ w' = w := by
  have HN : Hid (l.length = N) := hl
  have HA : Hid (IntsAt w a l) := hat
  have CC : Hid (∀ x, Calls Try.prog 64 #[.int .i64 x, .pointer (some ⟨x1, 0, none⟩)] w fun e w' => e = .returned (.bool (decide (x = p))) ∧ w' = w) := fun x => cdwo1_any x p x1 w h
  clear hl hat h
  go_enter Try.func71, Try.ntmps71
  go_wp2
  go_loop [8] (fun iv => ∃ i : Nat, i ≤ N ∧ iv = .int .i64 i ∧ Hid (∀ (j : Nat) (x : Int), j < i → l[j]? = some x → x ≠ p)) (fun iv => N - (intOf iv).toNat)
  case atStart => exact ⟨0, Nat.zero_le _, rfl, fun j x hj => by omega⟩
  case round =>
    obtain ⟨i, hi, rfl, HS⟩ := hrel
    have hi0 : (0 : Int) ≤ (i : Int) := by omega
    by_cases hlt : i < N
    · have h1 : (i : Int) < (N : Int) := by omega
      obtain ⟨b, o, x, rfl, z0, hx⟩ := HA.out.at (i := i) (by rw [HN.out]; exact hlt)
      have HX : Hid (l[i]? = some x) := hx
      have CX := CC.out x
      clear hx
      by_cases hid : x = p
      · rw [decide_eq_true hid] at CX
        have CX : Hid (Calls Try.prog 64 #[.int .i64 x, .pointer (some ⟨x1, 0, none⟩)] w fun e w' => e = .returned (.bool true) ∧ w' = w) := CX
        have HR : Hid (l[i]? = some p) := by rw [← hid]; exact HX
        clear hid
        go_wp2_with (go_at_call 64; refine CX.out.mono ?_; rintro e w3 ⟨rfl, hw3⟩; obtain rfl := hw3.symm; clear hw3)
        go_ret
        exact ⟨.inr ⟨i, rfl, HR.out, HS.out⟩, rfl⟩
      · rw [decide_eq_false hid] at CX
        have CX : Hid (Calls Try.prog 64 #[.int .i64 x, .pointer (some ⟨x1, 0, none⟩)] w fun e w' => e = .returned (.bool false) ∧ w' = w) := CX
        have HS2 : Hid (∀ (j : Nat) (y : Int), j < i + 1 → l[j]? = some y → y ≠ p) := fun j y hj hy => by
          by_cases e : j = i
          · subst e
            rw [HX.out] at hy
            injection hy with hy
            rw [← hy]
            exact hid
          · exact HS.out j y (by omega) hy
        clear hid
        go_wp2_with (go_at_call 64; refine CX.out.mono ?_; rintro e w3 ⟨rfl, hw3⟩; obtain rfl := hw3.symm; clear hw3)
        go_round
        case rel => exact ⟨i + 1, by omega, by go_num, HS2⟩
        case measure => simp [intOf]; omega
    · obtain rfl : i = N := by omega
      have HR : Hid (p ∉ l) := fun e => by
        obtain ⟨j, hj⟩ := List.mem_iff_getElem?.1 e
        exact HS.out j p (by rw [← HN.out]; exact (List.getElem?_eq_some_iff.1 hj).1) hj rfl
      go_wp2
      go_ret
      exact ⟨.inl ⟨rfl, HR.out⟩, rfl⟩
end Go.Proofs.Ytcppihpehipelaa

