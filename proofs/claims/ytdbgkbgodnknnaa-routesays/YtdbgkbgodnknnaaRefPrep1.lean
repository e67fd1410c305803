/-
  What the document says of entries (hourglassref10: GoodEntry, Writes, SameEntry).
-/
import Derived.Test.YtdbgkbgodnknnaaPrepMem
import Derived.Test.YtdbgkbgodnknnaaAu1
namespace Go.Proofs.Ytdbgkbgodnknnaa
open Go.RowKit
set_option linter.unusedVariables false

/-- An entry's cells in a box. -/
structure EBox (u : World) (b : Nat) (id s m t n : Int) (a : Option Addr) (N c : Nat) : Prop where
  c0 : u.cell? ⟨b, 0, none⟩ = some (.int .i64 id)
  c1 : u.cell? ⟨b, 1, none⟩ = some (.int .i64 s)
  c2 : u.cell? ⟨b, 2, none⟩ = some (.int .u8 m)
  c3 : u.cell? ⟨b, 3, none⟩ = some (.int .i64 t)
  c4 : u.cell? ⟨b, 4, none⟩ = some (.int .u8 n)
  c5 : u.cell? ⟨b, 5, none⟩ = some (.slice a N c)
theorem EBox.made (w : World) (T : TypeId) (id s m t n : Int) (a : Option Addr) (N c : Nat) : EBox (w.alloc (.cells #[.int .i64 id, .int .i64 s, .int .u8 m, .int .i64 t, .int .u8 n, .slice a N c] T)) w.heap.size id s m t n a N c := by
  refine ⟨?_, ?_, ?_, ?_, ?_, ?_⟩ <;> (rw [World.cell?_alloc_new]; rfl)
theorem EBox.past {u u' : World} {b : Nat} {id s m t n : Int} {a : Option Addr} {N c : Nat} (h : EBox u b id s m t n a N c) (hb : Below u.heap.size u u') : EBox u' b id s m t n a N c :=
  have hl := cell_lt h.c0
  ⟨(hb.cell (p := ⟨b, 0, none⟩) hl).trans h.c0, (hb.cell (p := ⟨b, 1, none⟩) hl).trans h.c1, (hb.cell (p := ⟨b, 2, none⟩) hl).trans h.c2, (hb.cell (p := ⟨b, 3, none⟩) hl).trans h.c3, (hb.cell (p := ⟨b, 4, none⟩) hl).trans h.c4, (hb.cell (p := ⟨b, 5, none⟩) hl).trans h.c5⟩
theorem encW_parts {x : Wrt} (h : Ky x.k) : (encW x).take 16 = x.k.map (Value.int .u8) ∧ (encW x)[16]? = some (.string (strOfNums x.v)) ∧ (encW x)[17]? = some (.bool x.g) := by
  have hl := kc_len h
  unfold encW
  refine ⟨?_, ?_, ?_⟩
  · rw [List.take_append_of_le_length (by omega), List.take_of_length_le (by omega)]; rfl
  · rw [List.getElem?_append_right (by omega), hl]; rfl
  · rw [List.getElem?_append_right (by omega), hl]; rfl
theorem eq_key9w (w : World) (a b : List Int) (ha : Ky a) (hb : Ky b) : (Op.equalIn 9999 28 (.agg (a.map (Value.int .u8)).toArray) (.agg (b.map (Value.int .u8)).toArray)).run Try.prog w = .ok (decide (a = b)) w := by
  obtain ⟨i, hi⟩ := key_parts
  rw [run_equalIn_array w 9998 _ _ Try.underlying28 hi, List.range_eq_range', eq_items Try.underlying5 (by kernel_rfl) 9997 w a b 16 0 (by rw [ha.len]) (by rw [hb.len])]
  by_cases h : a = b <;> simp [h]
set_option maxHeartbeats 1000000 in
theorem eq_wrt_yes (w : World) (A : Wrt) (hA : WrtOk A) : (Op.equalIn 10000 32 (wv A) (wv A)).run Try.prog w = .ok true w := by
  obtain ⟨a0, a1, a2⟩ := encW_parts hA.key
  have hk := fun u => eq_key9w u A.k A.k hA.key hA.key
  have hs := str_eq hA.val hA.val
  go_simp
theorem info_wrtl (W : Wrt) (h : Ky W.k) : (Try.prog.info? 32).map (·.size) = some (encW W).length := by rw [info_wrt, encW_len h]
set_option maxHeartbeats 4000000 in
set_option maxRecDepth 4000 in
theorem rwrites_yes (a a' : Option Addr) (N c c' : Nat) (l : List Wrt) (w : World) (hl : l.length = N) (hc : N ≤ c) (hc' : N ≤ c') (hN : N ≤ 1000000) (h : WrtsAt w a l) (h' : WrtsAt w a' l) :
    Calls Try.prog 19 #[.slice a N c, .slice a' N c'] w fun e w' => e = .returned (.bool true) ∧ Below w.heap.size w w' := by
  have HN : Hid (l.length = N) := hl
  have HA : Hid (WrtsAt w a l) := h
  have HA' : Hid (WrtsAt w a' l) := h'
  have bn : (((N : Nat) : Int) != ((N : Nat) : Int)) = false := by simp
  clear h h' hl
  go_enter Try.func19, Try.ntmps19
  go_wp2
  go_loopw [5] (fun iv wr => ∃ i : Nat, iv = .int .i64 i ∧ i ≤ N ∧ Hid (Below w.heap.size w wr)) (fun iv _ => N - (intOf iv).toNat)
  case atStart => exact ⟨0, rfl, Nat.zero_le _, Below.refl _ _⟩
  case round =>
    obtain ⟨i, rfl, hi, HB⟩ := hrel
    have hi0 : (0 : Int) ≤ (i : Int) := by omega
    by_cases hlt : i < N
    · have bl : (i : Int) < (N : Int) := by omega
      obtain ⟨V, hV⟩ : ∃ V, l[i]? = some V := ⟨_, List.getElem?_eq_getElem (by rw [HN.out]; exact hlt)⟩
      obtain ⟨g, o, rfl, hva, hvo⟩ := (HA.out.past HB.out).wrt hV
      obtain ⟨g', o', rfl, hwa, hwo⟩ := (HA'.out.past HB.out).wrt hV
      have KV : Hid (WrtOk V) := hvo
      have FV : Hid (∀ u, Below wr.heap.size wr u → WrtAt u g (o + i * 18) V) := fun u hb => hva.past hb
      have FW : Hid (∀ u, Below wr.heap.size wr u → WrtAt u g' (o' + i * 18) V) := fun u hb => hwa.past hb
      have heq := fun u => eq_wrt_yes u V KV.out
      clear hV hva hvo hwa hwo
      go_wp2
      refine wp_region_noPanic ?_
      refine wp_region_held_drew (S := fun u => Below wr.heap.size wr u) (by kernel_rfl) ?_ (fun hHeld => ?_)
      · exact (Below.refl _ _).drew
      refine wpAnyH_take (i := 0) (v := ?_) rfl (by kernel_rfl) (by kernel_rfl) (by kernel_rfl) (fun _ _ _ h => h) (Or.inl ⟨by rfl, ?_⟩) hHeld ?_
      rotate_left
      · intro u hSu
        (go_simp) <;> (with_reducible rfl)
      change wpAnyH _ _ _ _ _ _ _ (Act.put _ (some 17) _) _
      simp only [Act.put, List.setIfInBounds_toArray, List.set_cons_zero, List.set_cons_succ]
      refine wpAnyH_take (i := 1) (v := ?_) rfl (by kernel_rfl) (by kernel_rfl) (by kernel_rfl) (fun _ _ _ h => h) (Or.inl ⟨by rfl, ?_⟩) hHeld ?_
      rotate_left
      · intro u hSu
        (go_simp) <;> (with_reducible rfl)
      change wpAnyH _ _ _ _ _ _ _ (Act.put _ (some 18) _) _
      simp only [Act.put, List.setIfInBounds_toArray, List.set_cons_zero, List.set_cons_succ]
      refine wpAnyH_take (i := 2) (v := ?_) rfl (by kernel_rfl) (by kernel_rfl) (by kernel_rfl) (fun _ _ _ h => h) (Or.inl ⟨by rfl, ?_⟩) hHeld ?_
      rotate_left
      · intro u hSu
        (go_simp) <;> (with_reducible rfl)
      change wpAnyH _ _ _ _ _ _ _ (Act.put _ (some 19) _) _
      simp only [Act.put, List.setIfInBounds_toArray, List.set_cons_zero, List.set_cons_succ]
      refine wpAnyH_take (i := 3) (v := wv V) rfl (by kernel_rfl) (by kernel_rfl) (by kernel_rfl) (fun _ _ _ h => h) (yieldsIf_load_mid (by rfl) _ _ rfl _ _ rfl (encW V) _ (fun u hu => (FV.out u hu).range) Try.underlying32 rfl (info_wrtl V KV.out.key)) hHeld ?_
      change wpAnyH _ _ _ _ _ _ _ (Act.put _ (some 20) _) _
      simp only [Act.put, List.setIfInBounds_toArray, List.set_cons_zero, List.set_cons_succ]
      refine wpAnyH_take (i := 4) (v := ?_) rfl (by kernel_rfl) (by kernel_rfl) (by kernel_rfl) (fun _ _ _ h => h) (Or.inl ⟨by rfl, ?_⟩) hHeld ?_
      rotate_left
      · intro u hSu
        (go_simp) <;> (with_reducible rfl)
      change wpAnyH _ _ _ _ _ _ _ (Act.put _ (some 21) _) _
      simp only [Act.put, List.setIfInBounds_toArray, List.set_cons_zero, List.set_cons_succ]
      refine wpAnyH_take (i := 5) (v := ?_) rfl (by kernel_rfl) (by kernel_rfl) (by kernel_rfl) (fun _ _ _ h => h) (Or.inl ⟨by rfl, ?_⟩) hHeld ?_
      rotate_left
      · intro u hSu
        (go_simp) <;> (with_reducible rfl)
      change wpAnyH _ _ _ _ _ _ _ (Act.put _ (some 22) _) _
      simp only [Act.put, List.setIfInBounds_toArray, List.set_cons_zero, List.set_cons_succ]
      refine wpAnyH_take (i := 6) (v := ?_) rfl (by kernel_rfl) (by kernel_rfl) (by kernel_rfl) (fun _ _ _ h => h) (Or.inl ⟨by rfl, ?_⟩) hHeld ?_
      rotate_left
      · intro u hSu
        (go_simp) <;> (with_reducible rfl)
      change wpAnyH _ _ _ _ _ _ _ (Act.put _ (some 23) _) _
      simp only [Act.put, List.setIfInBounds_toArray, List.set_cons_zero, List.set_cons_succ]
      refine wpAnyH_take (i := 7) (v := wv V) rfl (by kernel_rfl) (by kernel_rfl) (by kernel_rfl) (fun _ _ _ h => h) (yieldsIf_load_mid (by rfl) _ _ rfl _ _ rfl (encW V) _ (fun u hu => (FW.out u hu).range) Try.underlying32 rfl (info_wrtl V KV.out.key)) hHeld ?_
      change wpAnyH _ _ _ _ _ _ _ (Act.put _ (some 24) _) _
      simp only [Act.put, List.setIfInBounds_toArray, List.set_cons_zero, List.set_cons_succ]
      refine wpAnyH_take (i := 8) (v := ?_) rfl (by kernel_rfl) (by kernel_rfl) (by kernel_rfl) (fun _ _ _ h => h) (Or.inl ⟨by rfl, ?_⟩) hHeld ?_
      rotate_left
      · intro u hSu
        (go_simp) <;> (with_reducible rfl)
      change wpAnyH _ _ _ _ _ _ _ (Act.put _ (some 25) _) _
      simp only [Act.put, List.setIfInBounds_toArray, List.set_cons_zero, List.set_cons_succ]
      refine wpAnyH_done (by kernel_rfl) ?_ _
      refine NoPanic.normal ?_
      go_wp2
      go_roundw
      case rel => exact ⟨i + 1, by go_num, by omega, HB.out.drew⟩
      case measure => simp [intOf]; omega
    · have bl : ¬ (i : Int) < (N : Int) := by omega
      go_wp2
      go_ret
      exact ⟨rfl, HB.out⟩
end Go.Proofs.Ytdbgkbgodnknnaa
