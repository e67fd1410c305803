/-
  What the document's own samples (hourglassref6: Sample of a Clock) answer.
-/
import Derived.Test.YtmibmblgaofikaaRefDisc
import Derived.Test.YtmibmblgaofikaaNums64
import Derived.Test.YtmibmblgaofikaaActsOpen
import Derived.BigRegion
import Derived.Deep.Onto
namespace Go.Proofs.Ytmibmblgaofikaa
open Go.RowKit
set_option linter.unusedVariables false

theorem ins_split (v : Int) : ∀ (s : List Int) (k : Nat), k ≤ s.length → (∀ j, j < k → s.getD j 0 < v) → (k < s.length → v ≤ s.getD k 0) → ins v s = s.take k ++ v :: s.drop k
  | [], k, hk, _, _ => by simp at hk; subst hk; rfl
  | x :: r, 0, _, _, h => by
    have := h (by simp)
    unfold ins
    rw [if_neg (by simpa using this)]
    rfl
  | x :: r, k + 1, hk, h1, h2 => by
    have h0 := h1 0 (by omega)
    unfold ins
    rw [if_pos (by simpa using h0)]
    rw [ins_split v r k (by simpa using hk) (fun j hj => by simpa using h1 (j + 1) (by omega)) (fun hlt => by simpa using h2 (by simp; omega))]
    rfl
theorem srt_take (zs : List Int) (i : Nat) (h : i < zs.length) : srt ((zs.take (i + 1)).map held40) = ins (held40 (zs.getD i 0)) (srt ((zs.take i).map held40)) := by
  have e : zs.take (i + 1) = zs.take i ++ [zs.getD i 0] := by
    rw [List.take_add_one]
    simp [List.getD, h]
  rw [e, List.map_append]
  exact srt_snoc _ _
/-- What is known of the numbers that are put in order. -/
structure Ord (w wr : World) (b : Nat) (node high off : Int) (v : Value) (i : Nat) (S : List Int) : Prop where
  own : wr.ownsRow w.heap.size 2 1 v i (is S)
  len : S.length = i
  below : Below w.heap.size w wr
theorem Ord.shape {w wr : World} {b : Nat} {node high off : Int} {v : Value} {i : Nat} {S : List Int} (h : Ord w wr b node high off v i S) (hi : 0 < i) : ∃ g cap, v = .slice (some ⟨g, 0, none⟩) i cap ∧ i ≤ cap ∧ w.heap.size ≤ g ∧ g < wr.heap.size ∧ ∀ j, j < i → wr.cell? ⟨g, j, none⟩ = some (.int .i64 (S.getD j 0)) := by
  rcases h.own.2 with ⟨_, h0⟩ | ⟨g, cap, cur, hv, hg, hh, hc, _⟩
  · omega
  · have ho := h.own
    rw [hv] at ho
    refine ⟨g, cap, hv, hc, hg, (Array.getElem?_eq_some_iff.1 hh).1, fun j hj => own_cell ho j _ ?_⟩
    have hjl : j < S.length := by rw [h.len]; exact hj
    simp [is, List.getD, hjl]
theorem src_one (w : World) (x : Int) : Src (w.alloc (.cells #[.int .i64 x] 2)) (some ⟨w.heap.size, 0, none⟩) [x] := by
  intro sa hsa j hj
  injection hsa with hsa
  subst hsa
  obtain rfl : j = 0 := by simp at hj; omega
  rw [add_at]
  exact World.cell?_alloc_new _ _ _ _
theorem src_second (w : World) (o : Obj) (x : Int) : Src ((w.alloc o).alloc (.cells #[.int .i64 x] 2)).drew (some ⟨w.heap.size + 1, 0, none⟩) [x] := by
  have h1 := src_one (w.alloc o) x
  rw [World.size_alloc] at h1
  exact h1
theorem own_second (w : World) (o : Obj) : ((w.alloc o).alloc (.cells #[] 2)).drew.ownsRow w.heap.size 2 1 (.slice (some ⟨w.heap.size + 1, 0, none⟩) 0 0) 0 (is []) := by
  have h1 := World.ownsRow_made (e := 2) (size := 1) (base := w.heap.size) (w.alloc o) #[] 0 (by simp) (by decide) rfl
  rw [World.size_alloc] at h1
  exact h1.drew
theorem src_kept {w w' : World} {g : Nat} {o : Nat} {zs : List Int} {x : Option Nat} (h : Src w (some ⟨g, o, none⟩) zs) (hg : w.grownBy w' x) (hlt : g < w.heap.size) (hne : some g ≠ x) : Src w' (some ⟨g, o, none⟩) zs := by
  intro sa hsa j hj
  have h1 := h sa hsa j hj
  injection hsa with hsa
  subst hsa
  have h2 := hg.block g hlt hne
  rw [← h1]
  rw [add_at]
  simp [World.cell?, h2]
theorem src_take {wr u : World} {g i k : Nat} {S : List Int} (hc : ∀ j, j < i → wr.cell? ⟨g, j, none⟩ = some (.int .i64 (S.getD j 0))) (hg : g < wr.heap.size) (hl : S.length = i) (hb : Below wr.heap.size wr u) (hk : k ≤ i) : Src u (some ⟨g, 0, none⟩) (S.take k) := by
  intro sa hsa j hj
  injection hsa with hsa
  subst hsa
  have hjk : j < k := by rw [List.length_take] at hj; omega
  have h1 := hc j (by omega)
  rw [add_at, Nat.zero_add, hb.cell (p := ⟨g, j, none⟩) hg, h1]
  simp [List.getD, hjk]
theorem src_drop {wr u : World} {g i k : Nat} {S : List Int} (hc : ∀ j, j < i → wr.cell? ⟨g, j, none⟩ = some (.int .i64 (S.getD j 0))) (hg : g < wr.heap.size) (hl : S.length = i) (hb : Below wr.heap.size wr u) : Src u (some ⟨g, k, none⟩) (S.drop k) := by
  intro sa hsa j hj
  injection hsa with hsa
  subst hsa
  have hjk : k + j < i := by rw [List.length_drop] at hj; omega
  have h1 := hc (k + j) hjk
  rw [add_at, hb.cell (p := ⟨g, k + j, none⟩) hg, h1]
  simp [List.getD, List.getElem?_drop]
theorem Ord.next {w wr u : World} {b i k : Nat} {node high off Z V : Int} {v : Value} {S zs : List Int} (h : Ord w wr b node high off v i S) (hi : i < zs.length) (hS : S = srt ((zs.take i).map held40)) (hV : V = held40 Z) (hZ : Z = zs.getD i 0) (hk : k ≤ i) (h1 : ∀ j, j < k → S.getD j 0 < V) (h2 : k < i → V ≤ S.getD k 0) (hb : Below wr.heap.size wr u) {m : Nat} (hm : m = i - k) {a : Option Addr} {c : Nat} (ho : u.ownsRow wr.heap.size 2 1 (.slice a (k + 1 + m) c) (k + 1 + m) (is (S.take k ++ [V] ++ S.drop k))) : Ord w u b node high off (.slice a (k + 1 + m) c) (i + 1) (srt ((zs.take (i + 1)).map held40)) := by
  have e : k + 1 + m = i + 1 := by omega
  have e2 : S.take k ++ [V] ++ S.drop k = srt ((zs.take (i + 1)).map held40) := by
    rw [srt_take zs i hi, ← hS, ← hZ, ← hV, ins_split V S k (by rw [h.len]; exact hk) h1 (by rw [h.len]; exact h2)]
    simp
  rw [e2, e] at ho
  rw [e]
  refine ⟨World.ownsRow.mono ho h.below.size, ?_, h.below.trans (hb.mono h.below.size)⟩
  rw [← e2]
  simp [h.len]
  omega
set_option maxRecDepth 8000 in
set_option maxHeartbeats 4000000 in
theorem rsample_in (b : Nat) (node high off : Int) (a : Option Addr) (cap : Nat) (zs : List Int) (w : World) (h : CkR w b node high off) (hrow : Row64 w a zs) (h1 : 1 ≤ zs.length) (h2 : zs.length ≤ 64) :
    Calls Try.prog 17 #[.pointer (some ⟨b, 0, none⟩), .slice a zs.length cap] w fun e w' => e = .returned (.int .i64 (midN zs)) ∧ Went w w' b node high (midN zs) := by
  obtain ⟨ba, oa, rfl, hca⟩ : ∃ ba oa, a = some ⟨ba, oa, none⟩ ∧ ∀ j, j < zs.length → w.cell? ⟨ba, oa + j, none⟩ = some (.int .i64 (zs.getD j 0)) := by
    rcases hrow.cells with h0 | h0
    · rw [h0] at h1; simp at h1
    · exact h0
  obtain ⟨N, hN⟩ : ∃ N, N = zs.length := ⟨_, rfl⟩
  have HN : Hid (N = zs.length) := hN
  have HCA : Hid (∀ u, Below w.heap.size w u → ∀ j, j < N → u.cell? ⟨ba, oa + j, none⟩ = some (.int .i64 (zs.getD j 0))) := fun u hb j hj => by
    have hlt : ba < w.heap.size := by
      have h0 := hca 0 (by omega)
      rcases Nat.lt_or_ge ba w.heap.size with h' | h'
      · exact h'
      · simp [World.cell?, Array.getElem?_eq_none h'] at h0
    rw [hb.cell (p := ⟨ba, oa + j, none⟩) hlt]; exact hca j (by omega)
  have HCK : Hid (∀ u, Below w.heap.size w u → CkR u b node high off) := fun u hb => h.step hb
  have HH : Hid (∀ (v : Int) (u : World), Calls Try.prog 26 #[.int .i64 v, .int .i64 (-1099511627776), .int .i64 1099511627776] u fun e w' => e = .returned (.int .i64 (held40 v)) ∧ w' = u) := fun v u => rheld_any v _ _ u (by omega)
  obtain ⟨M, hM⟩ : ∃ M, M = midN zs := ⟨_, rfl⟩
  have HM : Hid (M = midN zs) := hM
  rw [← hM, ← hN]
  rw [← hN] at h1 h2
  have b1 : decide ((N : Int) < 1) = false := decide_eq_false (by omega)
  have b2 : ¬ (64 : Int) < (N : Int) := by omega
  have HZ : Hid (∀ z ∈ zs, -9223372036854775808 ≤ z ∧ z ≤ 9223372036854775807) := hrow.nums
  clear hM hN hrow hca h
  go_enter Try.func17, Try.ntmps17
  go_wp2
  go_loopw [5, 6] (fun sv iv wr => ∃ (i : Nat) (v : Value), iv = .int .i64 i ∧ sv = v ∧ i ≤ N ∧ Hid (Ord w wr b node high off v i (srt ((zs.take i).map held40))) ∧ (i = 0 → v = .slice none 0 0)) (fun _ iv _ => N - (intOf iv).toNat)
  case atStart => exact ⟨0, _, rfl, rfl, by omega, ⟨World.ownsRow_nil _ _ _ _, rfl, Below.refl _ _⟩, fun _ => rfl⟩
  case round =>
    obtain ⟨i, v, rfl, rfl, hi, HO, hv0⟩ := hrel
    by_cases hlt : i < N
    · have ci := HCA.out _ HO.out.below i hlt
      obtain ⟨Z, hZ⟩ : ∃ Z, Z = zs.getD i 0 := ⟨_, rfl⟩
      rw [← hZ] at ci
      have HZi : Hid (Z = zs.getD i 0) := hZ
      obtain ⟨V, hV⟩ : ∃ V, V = held40 Z := ⟨_, rfl⟩
      have C1 : Hid (∀ u, Calls Try.prog 26 #[.int .i64 Z, .int .i64 (-1099511627776), .int .i64 1099511627776] u fun e w' => e = .returned (.int .i64 V) ∧ w' = u) := fun u => by rw [hV]; exact HH.out Z u
      have HVi : Hid (V = held40 Z) := hV
      clear hZ hV
      by_cases h0 : i = 0
      · subst h0
        have hv := hv0 rfl
        subst hv
        clear hv0
        rw [Nat.add_zero] at ci
        have HSN : Hid (∀ {u : World}, Src u none []) := fun sa hsa => by cases hsa
        have HNX : Hid (∀ {u : World} {a : Option Addr} {c : Nat}, Below wr.heap.size wr u → u.ownsRow wr.heap.size 2 1 (.slice a (0 + 1 + 0) c) (0 + 1 + 0) (is [V]) → Ord w u b node high off (.slice a (0 + 1 + 0) c) (0 + 1) (srt ((zs.take (0 + 1)).map held40))) := fun hb ho => Ord.next (k := 0) (S := []) HO.out (by rw [← HN.out]; exact hlt) rfl HVi.out HZi.out (Nat.le_refl _) (fun j hj => absurd hj (by omega)) (fun h => absurd h (by omega)) hb rfl ho
        go_wp2_with (go_at_call 26; refine (C1.out _).mono ?_; rintro e v1 ⟨rfl, hw1⟩; obtain rfl := hw1.symm; clear hw1)
        go_loopw [8] (fun kv wr' => kv = .int .i64 0 ∧ wr' = wr) (fun kv _ => 0)
        case atStart => exact ⟨rfl, rfl⟩
        case round =>
          obtain ⟨rfl, rfl⟩ := hrel
          go_wp2
          go_region_law (first | (have hgo := HO4.out; clear hgo; refine step_append_nums (w0 := wr) rfl (.tmp 53) (.tmp 56) rfl HB4.out _ (0 + 1) [V] [] rfl HO4.out _ _ _ rfl HSN.out rfl (fun _ => ⟨rfl, rfl⟩) (by omega) ?_; intro a5 c5 w5 h1 h2 h3; have HO5 : Hid (w5.ownsRow wr.heap.size 2 1 (.slice a5 (0 + 1 + 0) c5) (0 + 1 + 0) (is ([V]))) := h1; have HB5 : Hid (Below wr.heap.size wr w5) := h3; clear h1 h2 h3) | (have hgo := HX3.out; clear hgo; refine step_append_nums (w0 := wr) rfl (.tmp 50) (.tmp 52) rfl HB3.out _ 0 [] [V] rfl HO3.out _ _ _ rfl HX3.out rfl (fun h => by cases h) (by omega) ?_; intro a4 c4 w4 h1 h2 h3; have HO4 : Hid (w4.ownsRow wr.heap.size 2 1 (.slice a4 (0 + 1) c4) (0 + 1) (is [V])) := h1; have HB4 : Hid (Below wr.heap.size wr w4) := h3; clear h1 h2 h3) | (have hgo := HO3.out; clear hgo; refine step_append_nums (w0 := wr) rfl (.tmp 50) (.tmp 52) rfl (HB3.out.alloc HB3.out.size _) _ 0 [] [V] rfl (HO3.out.alloc _) _ _ _ rfl (src_one w3 V) rfl (fun h => by cases h) (by omega) ?_; intro a4 c4 w4 h1 h2 h3; have HO4 : Hid (w4.ownsRow wr.heap.size 2 1 (.slice a4 (0 + 1) c4) (0 + 1) (is [V])) := h1; have HB4 : Hid (Below wr.heap.size wr w4) := h3; clear h1 h2 h3) | (refine step_append_nums (w0 := wr) rfl (.tmp 46) (.tmp 49) rfl ((Below.refl _ _).alloc (Nat.le_refl _) _).drew (.slice (some ⟨wr.heap.size, 0, none⟩) 0 0) 0 [] [] rfl (World.ownsRow_made wr #[] 0 (Nat.le_refl _) (by decide) rfl).drew _ _ _ rfl HSN.out rfl (fun _ => ⟨rfl, rfl⟩) (by omega) ?_; intro a3 c3 w3 h1 h2 h3; have HO3 : Hid (w3.ownsRow wr.heap.size 2 1 (.slice a3 0 c3) 0 (is [])) := h1; have HB3 : Hid (Below wr.heap.size wr w3) := h3; clear h1 h2 h3) | (refine step_append_nums (w0 := wr) rfl (.tmp 46) (.tmp 49) rfl (((Below.refl _ _).alloc (Nat.le_refl _) _).alloc (by simp) _).drew (.slice (some ⟨wr.heap.size, 0, none⟩) 0 0) 0 [] [] rfl ((World.ownsRow_made wr #[] 0 (Nat.le_refl _) (by decide) rfl).alloc _).drew _ _ _ rfl HSN.out rfl (fun _ => ⟨rfl, rfl⟩) (by omega) ?_; intro a3 c3 w3 h1 h2 h3; have HO3 : Hid (w3.ownsRow wr.heap.size 2 1 (.slice a3 0 c3) 0 (is [])) := h1; have HB3 : Hid (Below wr.heap.size wr w3) := h3; have HX3 : Hid (Src w3 (some ⟨wr.heap.size + 1, 0, none⟩) [V]) := src_kept (src_second wr _ V) h2 (by simp) (by simp [Value.ownBlock]); clear h1 h2 h3) | (refine step_append_nums (w0 := wr) rfl (.tmp 46) (.tmp 49) rfl (((Below.refl _ _).alloc (Nat.le_refl _) _).alloc (by simp) _).drew (.slice (some ⟨wr.heap.size + 1, 0, none⟩) 0 0) 0 [] [] rfl (own_second wr _) _ _ _ rfl HSN.out rfl (fun _ => ⟨rfl, rfl⟩) (by omega) ?_; intro a3 c3 w3 h1 h2 h3; have HO3 : Hid (w3.ownsRow wr.heap.size 2 1 (.slice a3 0 c3) 0 (is [])) := h1; have HB3 : Hid (Below wr.heap.size wr w3) := h3; have HX3 : Hid (Src w3 (some ⟨wr.heap.size, 0, none⟩) [V]) := src_kept (src_kept (src_one wr V) (grown_of_below (((Below.refl _ _).alloc (by simp) _).drew) none) (by simp) (by simp)) h2 (by simp; omega) (by simp [Value.ownBlock]); clear h1 h2 h3))
          all_goals
            have HNW : Hid _ := HNX.out HB5.out HO5.out
            go_wp2
            exact ⟨⟨0 + 1, _, by simp, rfl, by omega, HNW, fun h => absurd h (by omega)⟩, by simp [intOf]; omega⟩
      · obtain ⟨g, cp, hv, hcp, hg, hgl, hcell⟩ := HO.out.shape (by omega)
        subst hv
        obtain ⟨S, hS⟩ : ∃ S, S = srt ((zs.take i).map held40) := ⟨_, rfl⟩
        rw [← hS] at HO hcell
        have HC : Hid (∀ j, j < i → wr.cell? ⟨g, j, none⟩ = some (.int .i64 (S.getD j 0))) := hcell
        have HSi : Hid (S = srt ((zs.take i).map held40)) := hS
        clear hcell hv0 hS
        go_wp2_with (go_at_call 26; refine (C1.out _).mono ?_; rintro e v1 ⟨rfl, hw1⟩; obtain rfl := hw1.symm; clear hw1)
        go_loopw [8] (fun kv wr' => ∃ k : Nat, kv = .int .i64 k ∧ k ≤ i ∧ wr' = wr ∧ Hid (∀ j, j < k → S.getD j 0 < V)) (fun kv _ => i - (intOf kv).toNat)
        case atStart => exact ⟨0, rfl, by omega, rfl, fun j hj => absurd hj (by omega)⟩
        case round =>
          obtain ⟨k, rfl, hk, rfl, HK⟩ := hrel
          by_cases hkl : k < i
          · have ck := HC.out k hkl
            obtain ⟨X, hX⟩ : ∃ X, X = S.getD k 0 := ⟨_, rfl⟩
            rw [← hX] at ck
            have HXi : Hid (X = S.getD k 0) := hX
            clear hX
            by_cases hxv : X < V
            · have bx : decide (X < V) = true := decide_eq_true hxv
              go_wp2
              exact ⟨⟨k + 1, by simp, by omega, trivial, fun j hj => by
                rcases Nat.lt_or_ge j k with h' | h'
                · exact HK.out j h'
                · obtain rfl : j = k := by omega
                  rw [← HXi.out]; exact hxv⟩, by simp [intOf]; omega⟩
            · have bx : decide (X < V) = false := decide_eq_false hxv
              have kc : k ≤ cp := by omega
              have kn : ¬ cp = k := by omega
              have HT : Hid ((S.take k).length = k) := by show _ = _; rw [List.length_take, HO.out.len]; omega
              have HD : Hid ((S.drop k).length = i - k) := by show _ = _; rw [List.length_drop, HO.out.len]
              have HNX : Hid (∀ {u : World} {a : Option Addr} {c : Nat}, Below wr.heap.size wr u → u.ownsRow wr.heap.size 2 1 (.slice a (k + 1 + (i - k)) c) (k + 1 + (i - k)) (is (S.take k ++ [V] ++ S.drop k)) → Ord w u b node high off (.slice a (k + 1 + (i - k)) c) (i + 1) (srt ((zs.take (i + 1)).map held40))) := fun hb ho => HO.out.next (by rw [← HN.out]; exact hlt) HSi.out HVi.out HZi.out hk HK.out (fun _ => by rw [← HXi.out]; omega) hb rfl ho
              have HS1 : Hid (∀ u, Below wr.heap.size wr u → Src u (some ⟨g, 0, none⟩) (S.take k)) := fun u hb => src_take HC.out hgl HO.out.len hb (by omega)
              have HS2 : Hid (∀ u, Below wr.heap.size wr u → Src u (some ⟨g, k, none⟩) (S.drop k)) := fun u hb => src_drop HC.out hgl HO.out.len hb
              go_wp2
              go_region_law (first | (have hgo := HO4.out; clear hgo; refine step_append_nums (w0 := wr) rfl (.tmp 53) (.tmp 56) rfl HB4.out _ (k + 1) (S.take k ++ [V]) (S.drop k) rfl HO4.out _ _ _ rfl (HS2.out _ HB4.out) HD.out (fun h => by cases h) (by omega) ?_; intro a5 c5 w5 h1 h2 h3; have HO5 : Hid (w5.ownsRow wr.heap.size 2 1 (.slice a5 (k + 1 + (i - k)) c5) (k + 1 + (i - k)) (is (S.take k ++ [V] ++ S.drop k))) := h1; have HB5 : Hid (Below wr.heap.size wr w5) := h3; clear h1 h2 h3) | (have hgo := HX3.out; clear hgo; refine step_append_nums (w0 := wr) rfl (.tmp 50) (.tmp 52) rfl HB3.out _ k (S.take k) [V] rfl HO3.out _ _ _ rfl HX3.out rfl (fun h => by cases h) (by omega) ?_; intro a4 c4 w4 h1 h2 h3; have HO4 : Hid (w4.ownsRow wr.heap.size 2 1 (.slice a4 (k + 1) c4) (k + 1) (is (S.take k ++ [V]))) := h1; have HB4 : Hid (Below wr.heap.size wr w4) := h3; clear h1 h2 h3) | (have hgo := HO3.out; clear hgo; refine step_append_nums (w0 := wr) rfl (.tmp 50) (.tmp 52) rfl (HB3.out.alloc HB3.out.size _) _ k (S.take k) [V] rfl (HO3.out.alloc _) _ _ _ rfl (src_one w3 V) rfl (fun h => by cases h) (by omega) ?_; intro a4 c4 w4 h1 h2 h3; have HO4 : Hid (w4.ownsRow wr.heap.size 2 1 (.slice a4 (k + 1) c4) (k + 1) (is (S.take k ++ [V]))) := h1; have HB4 : Hid (Below wr.heap.size wr w4) := h3; clear h1 h2 h3) | (refine step_append_nums (w0 := wr) rfl (.tmp 46) (.tmp 49) rfl ((Below.refl _ _).alloc (Nat.le_refl _) _).drew (.slice (some ⟨wr.heap.size, 0, none⟩) 0 0) 0 [] (S.take k) rfl (World.ownsRow_made wr #[] 0 (Nat.le_refl _) (by decide) rfl).drew _ _ _ rfl (HS1.out _ ((Below.refl _ _).alloc (Nat.le_refl _) _).drew) HT.out (fun h => by cases h) (by omega) ?_; intro a3 c3 w3 h1 h2 h3; rw [Nat.zero_add, List.nil_append] at h1; rw [Nat.zero_add]; have HO3 : Hid (w3.ownsRow wr.heap.size 2 1 (.slice a3 k c3) k (is (S.take k))) := h1; have HB3 : Hid (Below wr.heap.size wr w3) := h3; clear h1 h2 h3) | (refine step_append_nums (w0 := wr) rfl (.tmp 46) (.tmp 49) rfl (((Below.refl _ _).alloc (Nat.le_refl _) _).alloc (by simp) _).drew (.slice (some ⟨wr.heap.size, 0, none⟩) 0 0) 0 [] (S.take k) rfl ((World.ownsRow_made wr #[] 0 (Nat.le_refl _) (by decide) rfl).alloc _).drew _ _ _ rfl (HS1.out _ (((Below.refl _ _).alloc (Nat.le_refl _) _).alloc (by simp) _).drew) HT.out (fun h => by cases h) (by omega) ?_; intro a3 c3 w3 h1 h2 h3; rw [Nat.zero_add, List.nil_append] at h1; rw [Nat.zero_add]; have HO3 : Hid (w3.ownsRow wr.heap.size 2 1 (.slice a3 k c3) k (is (S.take k))) := h1; have HB3 : Hid (Below wr.heap.size wr w3) := h3; have HX3 : Hid (Src w3 (some ⟨wr.heap.size + 1, 0, none⟩) [V]) := src_kept (src_second wr _ V) h2 (by simp) (by simp [Value.ownBlock]); clear h1 h2 h3) | (refine step_append_nums (w0 := wr) rfl (.tmp 46) (.tmp 49) rfl (((Below.refl _ _).alloc (Nat.le_refl _) _).alloc (by simp) _).drew (.slice (some ⟨wr.heap.size + 1, 0, none⟩) 0 0) 0 [] (S.take k) rfl (own_second wr _) _ _ _ rfl (HS1.out _ (((Below.refl _ _).alloc (Nat.le_refl _) _).alloc (by simp) _).drew) HT.out (fun h => by cases h) (by omega) ?_; intro a3 c3 w3 h1 h2 h3; rw [Nat.zero_add, List.nil_append] at h1; rw [Nat.zero_add]; have HO3 : Hid (w3.ownsRow wr.heap.size 2 1 (.slice a3 k c3) k (is (S.take k))) := h1; have HB3 : Hid (Below wr.heap.size wr w3) := h3; have HX3 : Hid (Src w3 (some ⟨wr.heap.size, 0, none⟩) [V]) := src_kept (src_kept (src_one wr V) (grown_of_below (((Below.refl _ _).alloc (by simp) _).drew) none) (by simp) (by simp)) h2 (by simp; omega) (by simp [Value.ownBlock]); clear h1 h2 h3))
              all_goals
                have HNW : Hid _ := HNX.out HB5.out HO5.out
                go_wp2
                exact ⟨⟨i + 1, _, by simp, rfl, by omega, HNW, fun h => absurd h (by omega)⟩, by simp [intOf]; omega⟩
          · have ke : k = i := by omega
            subst ke
            by_cases kn : cp = k
            · have kn' := kn.symm
              clear kn
              subst kn'
              have kc := Nat.le_refl k
              have HT : Hid ((S.take k).length = k) := by show _ = _; rw [List.length_take, HO.out.len]; omega
              have HD : Hid ((S.drop k).length = 0) := by show _ = _; rw [List.length_drop, HO.out.len]; omega
              have HNX : Hid (∀ {u : World} {a : Option Addr} {c : Nat}, Below wr.heap.size wr u → u.ownsRow wr.heap.size 2 1 (.slice a (k + 1 + 0) c) (k + 1 + 0) (is (S.take k ++ [V] ++ S.drop k)) → Ord w u b node high off (.slice a (k + 1 + 0) c) (k + 1) (srt ((zs.take (k + 1)).map held40))) := fun hb ho => HO.out.next (k := k) (by rw [← HN.out]; exact hlt) HSi.out HVi.out HZi.out hk HK.out (fun h => absurd h hkl) hb (by omega) ho
              have HS1 : Hid (∀ u, Below wr.heap.size wr u → Src u (some ⟨g, 0, none⟩) (S.take k)) := fun u hb => src_take HC.out hgl HO.out.len hb (by omega)
              have HS2 : Hid (∀ u, Below wr.heap.size wr u → Src u (some ⟨g, 0, none⟩) (S.drop k)) := fun u hb sa hsa j hj => absurd hj (by rw [HD.out]; omega)
              go_wp2
              go_region_law (first | (have hgo := HO4.out; clear hgo; refine step_append_nums (w0 := wr) rfl (.tmp 53) (.tmp 56) rfl HB4.out _ (k + 1) (S.take k ++ [V]) (S.drop k) rfl HO4.out _ _ _ rfl (HS2.out _ HB4.out) HD.out (fun h => by cases h) (by omega) ?_; intro a5 c5 w5 h1 h2 h3; have HO5 : Hid (w5.ownsRow wr.heap.size 2 1 (.slice a5 (k + 1 + 0) c5) (k + 1 + 0) (is (S.take k ++ [V] ++ S.drop k))) := h1; have HB5 : Hid (Below wr.heap.size wr w5) := h3; clear h1 h2 h3) | (have hgo := HX3.out; clear hgo; refine step_append_nums (w0 := wr) rfl (.tmp 50) (.tmp 52) rfl HB3.out _ k (S.take k) [V] rfl HO3.out _ _ _ rfl HX3.out rfl (fun h => by cases h) (by omega) ?_; intro a4 c4 w4 h1 h2 h3; have HO4 : Hid (w4.ownsRow wr.heap.size 2 1 (.slice a4 (k + 1) c4) (k + 1) (is (S.take k ++ [V]))) := h1; have HB4 : Hid (Below wr.heap.size wr w4) := h3; clear h1 h2 h3) | (have hgo := HO3.out; clear hgo; refine step_append_nums (w0 := wr) rfl (.tmp 50) (.tmp 52) rfl (HB3.out.alloc HB3.out.size _) _ k (S.take k) [V] rfl (HO3.out.alloc _) _ _ _ rfl (src_one w3 V) rfl (fun h => by cases h) (by omega) ?_; intro a4 c4 w4 h1 h2 h3; have HO4 : Hid (w4.ownsRow wr.heap.size 2 1 (.slice a4 (k + 1) c4) (k + 1) (is (S.take k ++ [V]))) := h1; have HB4 : Hid (Below wr.heap.size wr w4) := h3; clear h1 h2 h3) | (refine step_append_nums (w0 := wr) rfl (.tmp 46) (.tmp 49) rfl ((Below.refl _ _).alloc (Nat.le_refl _) _).drew (.slice (some ⟨wr.heap.size, 0, none⟩) 0 0) 0 [] (S.take k) rfl (World.ownsRow_made wr #[] 0 (Nat.le_refl _) (by decide) rfl).drew _ _ _ rfl (HS1.out _ ((Below.refl _ _).alloc (Nat.le_refl _) _).drew) HT.out (fun h => by cases h) (by omega) ?_; intro a3 c3 w3 h1 h2 h3; rw [Nat.zero_add, List.nil_append] at h1; rw [Nat.zero_add]; have HO3 : Hid (w3.ownsRow wr.heap.size 2 1 (.slice a3 k c3) k (is (S.take k))) := h1; have HB3 : Hid (Below wr.heap.size wr w3) := h3; clear h1 h2 h3) | (refine step_append_nums (w0 := wr) rfl (.tmp 46) (.tmp 49) rfl (((Below.refl _ _).alloc (Nat.le_refl _) _).alloc (by simp) _).drew (.slice (some ⟨wr.heap.size, 0, none⟩) 0 0) 0 [] (S.take k) rfl ((World.ownsRow_made wr #[] 0 (Nat.le_refl _) (by decide) rfl).alloc _).drew _ _ _ rfl (HS1.out _ (((Below.refl _ _).alloc (Nat.le_refl _) _).alloc (by simp) _).drew) HT.out (fun h => by cases h) (by omega) ?_; intro a3 c3 w3 h1 h2 h3; rw [Nat.zero_add, List.nil_append] at h1; rw [Nat.zero_add]; have HO3 : Hid (w3.ownsRow wr.heap.size 2 1 (.slice a3 k c3) k (is (S.take k))) := h1; have HB3 : Hid (Below wr.heap.size wr w3) := h3; have HX3 : Hid (Src w3 (some ⟨wr.heap.size + 1, 0, none⟩) [V]) := src_kept (src_second wr _ V) h2 (by simp) (by simp [Value.ownBlock]); clear h1 h2 h3) | (refine step_append_nums (w0 := wr) rfl (.tmp 46) (.tmp 49) rfl (((Below.refl _ _).alloc (Nat.le_refl _) _).alloc (by simp) _).drew (.slice (some ⟨wr.heap.size + 1, 0, none⟩) 0 0) 0 [] (S.take k) rfl (own_second wr _) _ _ _ rfl (HS1.out _ (((Below.refl _ _).alloc (Nat.le_refl _) _).alloc (by simp) _).drew) HT.out (fun h => by cases h) (by omega) ?_; intro a3 c3 w3 h1 h2 h3; rw [Nat.zero_add, List.nil_append] at h1; rw [Nat.zero_add]; have HO3 : Hid (w3.ownsRow wr.heap.size 2 1 (.slice a3 k c3) k (is (S.take k))) := h1; have HB3 : Hid (Below wr.heap.size wr w3) := h3; have HX3 : Hid (Src w3 (some ⟨wr.heap.size, 0, none⟩) [V]) := src_kept (src_kept (src_one wr V) (grown_of_below (((Below.refl _ _).alloc (by simp) _).drew) none) (by simp) (by simp)) h2 (by simp; omega) (by simp [Value.ownBlock]); clear h1 h2 h3))
              all_goals
                have HNW : Hid _ := HNX.out HB5.out HO5.out
                go_wp2
                exact ⟨⟨k + 1, _, by simp, rfl, by omega, HNW, fun h => absurd h (by omega)⟩, by simp [intOf]; omega⟩
            · have kc : k ≤ cp := by omega
              have HT : Hid ((S.take k).length = k) := by show _ = _; rw [List.length_take, HO.out.len]; omega
              have HD : Hid ((S.drop k).length = 0) := by show _ = _; rw [List.length_drop, HO.out.len]; omega
              have HNX : Hid (∀ {u : World} {a : Option Addr} {c : Nat}, Below wr.heap.size wr u → u.ownsRow wr.heap.size 2 1 (.slice a (k + 1 + 0) c) (k + 1 + 0) (is (S.take k ++ [V] ++ S.drop k)) → Ord w u b node high off (.slice a (k + 1 + 0) c) (k + 1) (srt ((zs.take (k + 1)).map held40))) := fun hb ho => HO.out.next (k := k) (by rw [← HN.out]; exact hlt) HSi.out HVi.out HZi.out hk HK.out (fun h => absurd h hkl) hb (by omega) ho
              have HS1 : Hid (∀ u, Below wr.heap.size wr u → Src u (some ⟨g, 0, none⟩) (S.take k)) := fun u hb => src_take HC.out hgl HO.out.len hb (by omega)
              have HS2 : Hid (∀ u, Below wr.heap.size wr u → Src u (some ⟨g, k, none⟩) (S.drop k)) := fun u hb => src_drop HC.out hgl HO.out.len hb
              go_wp2
              go_region_law (first | (have hgo := HO4.out; clear hgo; refine step_append_nums (w0 := wr) rfl (.tmp 53) (.tmp 56) rfl HB4.out _ (k + 1) (S.take k ++ [V]) (S.drop k) rfl HO4.out _ _ _ rfl (HS2.out _ HB4.out) HD.out (fun h => by cases h) (by omega) ?_; intro a5 c5 w5 h1 h2 h3; have HO5 : Hid (w5.ownsRow wr.heap.size 2 1 (.slice a5 (k + 1 + 0) c5) (k + 1 + 0) (is (S.take k ++ [V] ++ S.drop k))) := h1; have HB5 : Hid (Below wr.heap.size wr w5) := h3; clear h1 h2 h3) | (have hgo := HX3.out; clear hgo; refine step_append_nums (w0 := wr) rfl (.tmp 50) (.tmp 52) rfl HB3.out _ k (S.take k) [V] rfl HO3.out _ _ _ rfl HX3.out rfl (fun h => by cases h) (by omega) ?_; intro a4 c4 w4 h1 h2 h3; have HO4 : Hid (w4.ownsRow wr.heap.size 2 1 (.slice a4 (k + 1) c4) (k + 1) (is (S.take k ++ [V]))) := h1; have HB4 : Hid (Below wr.heap.size wr w4) := h3; clear h1 h2 h3) | (have hgo := HO3.out; clear hgo; refine step_append_nums (w0 := wr) rfl (.tmp 50) (.tmp 52) rfl (HB3.out.alloc HB3.out.size _) _ k (S.take k) [V] rfl (HO3.out.alloc _) _ _ _ rfl (src_one w3 V) rfl (fun h => by cases h) (by omega) ?_; intro a4 c4 w4 h1 h2 h3; have HO4 : Hid (w4.ownsRow wr.heap.size 2 1 (.slice a4 (k + 1) c4) (k + 1) (is (S.take k ++ [V]))) := h1; have HB4 : Hid (Below wr.heap.size wr w4) := h3; clear h1 h2 h3) | (refine step_append_nums (w0 := wr) rfl (.tmp 46) (.tmp 49) rfl ((Below.refl _ _).alloc (Nat.le_refl _) _).drew (.slice (some ⟨wr.heap.size, 0, none⟩) 0 0) 0 [] (S.take k) rfl (World.ownsRow_made wr #[] 0 (Nat.le_refl _) (by decide) rfl).drew _ _ _ rfl (HS1.out _ ((Below.refl _ _).alloc (Nat.le_refl _) _).drew) HT.out (fun h => by cases h) (by omega) ?_; intro a3 c3 w3 h1 h2 h3; rw [Nat.zero_add, List.nil_append] at h1; rw [Nat.zero_add]; have HO3 : Hid (w3.ownsRow wr.heap.size 2 1 (.slice a3 k c3) k (is (S.take k))) := h1; have HB3 : Hid (Below wr.heap.size wr w3) := h3; clear h1 h2 h3) | (refine step_append_nums (w0 := wr) rfl (.tmp 46) (.tmp 49) rfl (((Below.refl _ _).alloc (Nat.le_refl _) _).alloc (by simp) _).drew (.slice (some ⟨wr.heap.size, 0, none⟩) 0 0) 0 [] (S.take k) rfl ((World.ownsRow_made wr #[] 0 (Nat.le_refl _) (by decide) rfl).alloc _).drew _ _ _ rfl (HS1.out _ (((Below.refl _ _).alloc (Nat.le_refl _) _).alloc (by simp) _).drew) HT.out (fun h => by cases h) (by omega) ?_; intro a3 c3 w3 h1 h2 h3; rw [Nat.zero_add, List.nil_append] at h1; rw [Nat.zero_add]; have HO3 : Hid (w3.ownsRow wr.heap.size 2 1 (.slice a3 k c3) k (is (S.take k))) := h1; have HB3 : Hid (Below wr.heap.size wr w3) := h3; have HX3 : Hid (Src w3 (some ⟨wr.heap.size + 1, 0, none⟩) [V]) := src_kept (src_second wr _ V) h2 (by simp) (by simp [Value.ownBlock]); clear h1 h2 h3) | (refine step_append_nums (w0 := wr) rfl (.tmp 46) (.tmp 49) rfl (((Below.refl _ _).alloc (Nat.le_refl _) _).alloc (by simp) _).drew (.slice (some ⟨wr.heap.size + 1, 0, none⟩) 0 0) 0 [] (S.take k) rfl (own_second wr _) _ _ _ rfl (HS1.out _ (((Below.refl _ _).alloc (Nat.le_refl _) _).alloc (by simp) _).drew) HT.out (fun h => by cases h) (by omega) ?_; intro a3 c3 w3 h1 h2 h3; rw [Nat.zero_add, List.nil_append] at h1; rw [Nat.zero_add]; have HO3 : Hid (w3.ownsRow wr.heap.size 2 1 (.slice a3 k c3) k (is (S.take k))) := h1; have HB3 : Hid (Below wr.heap.size wr w3) := h3; have HX3 : Hid (Src w3 (some ⟨wr.heap.size, 0, none⟩) [V]) := src_kept (src_kept (src_one wr V) (grown_of_below (((Below.refl _ _).alloc (by simp) _).drew) none) (by simp) (by simp)) h2 (by simp; omega) (by simp [Value.ownBlock]); clear h1 h2 h3))
              all_goals
                have HNW : Hid _ := HNX.out HB5.out HO5.out
                go_wp2
                exact ⟨⟨k + 1, _, by simp, rfl, by omega, HNW, fun h => absurd h (by omega)⟩, by simp [intOf]; omega⟩
    · obtain rfl : i = N := by omega
      obtain ⟨g, cp, hv, hcp, hg, hgl, hcell⟩ := HO.out.shape (by omega)
      subst hv
      have cm := hcell ((i - 1) / 2) (by omega)
      have em : (srt (List.map held40 (List.take i zs))).getD ((i - 1) / 2) 0 = M := by
        rw [HM.out, HN.out, List.take_length]
        rfl
      rw [em] at cm
      have CK := HCK.out _ HO.out.below
      have f2 := CK.free 2
      have c2 := CK.c2
      clear hv0 hcell em
      go_wp2
      go_ret
      exact ⟨rfl, CK.offset M, (grown_of_below HO.out.below (some b)).trans (grown_set wr b 2 _)⟩
/-- Too few or too many: nothing changes. -/
theorem rsample_out (b : Nat) (node high off : Int) (a : Option Addr) (cap n : Nat) (w : World) (h : CkR w b node high off) (h1 : n < 1 ∨ 64 < n) :
    Calls Try.prog 17 #[.pointer (some ⟨b, 0, none⟩), .slice a n cap] w fun e w' => e = .returned (.int .i64 off) ∧ w' = w := by
  have c2 := h.c2
  clear h
  by_cases h0 : n < 1
  · obtain rfl : n = 0 := by omega
    go_enter Try.func17, Try.ntmps17
    go_wp2
    go_ret
    exact ⟨rfl, rfl⟩
  · have b1 : decide ((n : Int) < 1) = false := decide_eq_false (by omega)
    have b2 : (64 : Int) < (n : Int) := by omega
    go_enter Try.func17, Try.ntmps17
    go_wp2
    go_ret
    exact ⟨rfl, rfl⟩
end Go.Proofs.Ytmibmblgaofikaa
