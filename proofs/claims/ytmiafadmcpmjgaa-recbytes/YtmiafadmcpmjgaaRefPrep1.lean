/-
  What the document says of entries (hourglassref10: GoodEntry, Writes, SameEntry).
-/
import Derived.Test.YtmiafadmcpmjgaaVm
import Derived.Test.YtmiafadmcpmjgaaRefSto2
import Derived.Test.YtmiafadmcpmjgaaRefStampA
namespace Go.Proofs.Ytmiafadmcpmjgaa
open Go.RowKit
set_option linter.unusedVariables false

/-- An entry's cells in a box. -/
structure EBox (u : World) (b : Nat) (id s m t n : Int) (a : Option Addr) (N c : Nat) : Prop where
  c0 : u.cell? ⟨b, 0, none⟩ = some (.int .i64 id)
  c1 : u.cell? ⟨b, 1, none⟩ = some (.int .i64 s)
  c2 : u.cell? ⟨b, 2, none⟩ = some (.int .u8 m)
  c3 : u.cell? ⟨b, 3, none⟩ = some (.int .i64 t)
  c4 : u.cell? ⟨b, 4, none⟩ = some (.int .u8 n)
  c5 : u.cell? ⟨b, 5, none⟩ = some (.slice a N c)
theorem EBox.made (w : World) (T : TypeId) (id s m t n : Int) (a : Option Addr) (N c : Nat) : EBox (w.alloc (.cells #[.int .i64 id, .int .i64 s, .int .u8 m, .int .i64 t, .int .u8 n, .slice a N c] T)) w.heap.size id s m t n a N c := by
  refine ⟨?_, ?_, ?_, ?_, ?_, ?_⟩ <;> (rw [World.cell?_alloc_new]; rfl)
theorem EBox.past {u u' : World} {b : Nat} {id s m t n : Int} {a : Option Addr} {N c : Nat} (h : EBox u b id s m t n a N c) (hb : Below u.heap.size u u') : EBox u' b id s m t n a N c :=
  have hl := cell_lt h.c0
  ⟨(hb.cell (p := ⟨b, 0, none⟩) hl).trans h.c0, (hb.cell (p := ⟨b, 1, none⟩) hl).trans h.c1, (hb.cell (p := ⟨b, 2, none⟩) hl).trans h.c2, (hb.cell (p := ⟨b, 3, none⟩) hl).trans h.c3, (hb.cell (p := ⟨b, 4, none⟩) hl).trans h.c4, (hb.cell (p := ⟨b, 5, none⟩) hl).trans h.c5⟩
set_option maxHeartbeats 4000000 in
set_option maxRecDepth 4000 in
theorem rgoode_any (id s m t n : Int) (a : Option Addr) (N c : Nat) (l : List Wrt) (w : World) (hl : l.length = N) (hc : N ≤ c) (hN : N ≤ 1000000) (hat : WrtsAt w a l) :
    Calls Try.prog 55 #[.agg #[.int .i64 id, .int .i64 s, .int .u8 m, .int .i64 t, .int .u8 n, .slice a N c]] w fun e w' => e = .returned (.bool (goodE ⟨id, s, m, t, n, l⟩)) ∧ Below w.heap.size w w' := by
  obtain ⟨U, hU⟩ : ∃ U, U = w.alloc (.cells #[.int .i64 id, .int .i64 s, .int .u8 m, .int .i64 t, .int .u8 n, .slice a N c] 93) := ⟨_, rfl⟩
  have HU : Hid (w.alloc (.cells #[.int .i64 id, .int .i64 s, .int .u8 m, .int .i64 t, .int .u8 n, .slice a N c] 93) = U) := hU.symm
  have HB : Hid (Below w.heap.size w U) := by rw [hU]; exact (Below.refl _ _).alloc (Nat.le_refl _) _
  have FE : Hid (∀ u, Below U.heap.size U u → EBox u w.heap.size id s m t n a N c) := fun u hb => (by rw [hU]; exact EBox.made w 93 id s m t n a N c : EBox U w.heap.size id s m t n a N c).past hb
  obtain ⟨R, hR⟩ : ∃ R, R = goodE ⟨id, s, m, t, n, l⟩ := ⟨_, rfl⟩
  obtain ⟨g1, hg1⟩ : ∃ x, x = decide (okS s) := ⟨_, rfl⟩
  obtain ⟨g2, hg2⟩ : ∃ x, x = decide (okS t) := ⟨_, rfl⟩
  obtain ⟨x, hx⟩ : ∃ x, x = cmpS t n s m := ⟨_, rfl⟩
  obtain ⟨mw, hmw⟩ : ∃ x, x = mayW l 1 := ⟨_, rfl⟩
  have hr : R = (decide (1 ≤ id) && g1 && g2 && decide (0 < x) && mw) := by rw [hR, hg1, hg2, hx, hmw]; rfl
  rw [← hR]
  have C1 : Hid (∀ u, Calls Try.prog 56 #[.agg #[.int .i64 s, .int .u8 m]] u fun e w' => e = .returned (.bool g1) ∧ Below u.heap.size u w') := fun u => by rw [hg1]; exact rgood6_any s m u
  have C2 : Hid (∀ u, Calls Try.prog 56 #[.agg #[.int .i64 t, .int .u8 n]] u fun e w' => e = .returned (.bool g2) ∧ Below u.heap.size u w') := fun u => by rw [hg2]; exact rgood6_any t n u
  have C3 : Hid (∀ u, Calls Try.prog 83 #[.agg #[.int .i64 t, .int .u8 n], .agg #[.int .i64 s, .int .u8 m]] u fun e w' => e = .returned (.int .i64 x) ∧ Below u.heap.size u w') := fun u => by rw [hx]; exact rcmp6_any t n s m u
  have C4 : Hid (∀ u, Below w.heap.size w u → Calls Try.prog 79 #[.slice a N c, .int .i64 1] u fun e w' => e = .returned (.bool mw) ∧ Below u.heap.size u w') := fun u hb => by rw [hmw]; exact rmayw_any a N c l 1 u hl hc hN (by omega) (hat.past hb)
  clear hR hg1 hg2 hx hmw hU hat hl
  by_cases h1 : 1 ≤ id
  · have b1 : decide (1 ≤ id) = true := decide_eq_true h1
    rw [b1] at hr
    cases g1 with
    | false =>
      have HR : Hid (R = false) := hr
      clear hr
      go_enter Try.func55, Try.ntmps55
      go_wp2_with (first | (have hgo := C1.out; clear hgo; go_at_call 56; rw [HU.out]; refine (C1.out _).mono ?_; rintro e u1 ⟨rfl, hb1⟩; have B1 : Hid (Below U.heap.size U u1) := hb1; obtain ⟨y0, y1, y2, y3, y4, y5⟩ := FE.out _ B1.out; clear hb1 C1))
      go_ret
      exact ⟨by rw [HR.out]; rfl, HB.out.trans (B1.out.mono HB.out.size)⟩
    | true =>
      cases g2 with
      | false =>
        have HR : Hid (R = false) := hr
        clear hr
        go_enter Try.func55, Try.ntmps55
        go_wp2_with (first | (have hgo := C1.out; clear hgo; go_at_call 56; rw [HU.out]; refine (C1.out _).mono ?_; rintro e u1 ⟨rfl, hb1⟩; have B1 : Hid (Below U.heap.size U u1) := hb1; obtain ⟨y0, y1, y2, y3, y4, y5⟩ := FE.out _ B1.out; clear hb1 C1) | (have hgo := C2.out; clear hgo; go_at_call 56; refine (C2.out _).mono ?_; rintro e u2 ⟨rfl, hb2⟩; have B2 : Hid (Below U.heap.size U u2) := B1.out.trans (hb2.mono B1.out.size); obtain ⟨y0, y1, y2, y3, y4, y5⟩ := FE.out _ B2.out; clear hb2 C2))
        go_ret
        exact ⟨by rw [HR.out]; rfl, HB.out.trans (B2.out.mono HB.out.size)⟩
      | true =>
        by_cases h2 : 0 < x
        · have b2 : decide (0 < x) = true := decide_eq_true h2
          rw [b2] at hr
          have HR : Hid (R = mw) := by rw [hr]; simp [Hid]
          clear hr
          cases mw with
          | true =>
            go_enter Try.func55, Try.ntmps55
            go_wp2_with (first | (have hgo := C1.out; clear hgo; go_at_call 56; rw [HU.out]; refine (C1.out _).mono ?_; rintro e u1 ⟨rfl, hb1⟩; have B1 : Hid (Below U.heap.size U u1) := hb1; obtain ⟨y0, y1, y2, y3, y4, y5⟩ := FE.out _ B1.out; clear hb1 C1) | (have hgo := C2.out; clear hgo; go_at_call 56; refine (C2.out _).mono ?_; rintro e u2 ⟨rfl, hb2⟩; have B2 : Hid (Below U.heap.size U u2) := B1.out.trans (hb2.mono B1.out.size); obtain ⟨y0, y1, y2, y3, y4, y5⟩ := FE.out _ B2.out; clear hb2 C2) | (have hgo := C3.out; clear hgo; go_at_call 83; refine (C3.out _).mono ?_; rintro e u3 ⟨rfl, hb3⟩; have B3 : Hid (Below U.heap.size U u3) := B2.out.trans (hb3.mono B2.out.size); obtain ⟨y0, y1, y2, y3, y4, y5⟩ := FE.out _ B3.out; clear hb3 C3) | (have hgo := C4.out; clear hgo; go_at_call 79; refine (C4.out _ (HB.out.trans (B3.out.mono HB.out.size))).mono ?_; rintro e u4 ⟨rfl, hb4⟩; have B4 : Hid (Below U.heap.size U u4) := B3.out.trans (hb4.mono B3.out.size); obtain ⟨y0, y1, y2, y3, y4, y5⟩ := FE.out _ B4.out; clear hb4 C4))
            go_ret
            exact ⟨by rw [HR.out]; rfl, HB.out.trans (B4.out.mono HB.out.size)⟩
          | false =>
            go_enter Try.func55, Try.ntmps55
            go_wp2_with (first | (have hgo := C1.out; clear hgo; go_at_call 56; rw [HU.out]; refine (C1.out _).mono ?_; rintro e u1 ⟨rfl, hb1⟩; have B1 : Hid (Below U.heap.size U u1) := hb1; obtain ⟨y0, y1, y2, y3, y4, y5⟩ := FE.out _ B1.out; clear hb1 C1) | (have hgo := C2.out; clear hgo; go_at_call 56; refine (C2.out _).mono ?_; rintro e u2 ⟨rfl, hb2⟩; have B2 : Hid (Below U.heap.size U u2) := B1.out.trans (hb2.mono B1.out.size); obtain ⟨y0, y1, y2, y3, y4, y5⟩ := FE.out _ B2.out; clear hb2 C2) | (have hgo := C3.out; clear hgo; go_at_call 83; refine (C3.out _).mono ?_; rintro e u3 ⟨rfl, hb3⟩; have B3 : Hid (Below U.heap.size U u3) := B2.out.trans (hb3.mono B2.out.size); obtain ⟨y0, y1, y2, y3, y4, y5⟩ := FE.out _ B3.out; clear hb3 C3) | (have hgo := C4.out; clear hgo; go_at_call 79; refine (C4.out _ (HB.out.trans (B3.out.mono HB.out.size))).mono ?_; rintro e u4 ⟨rfl, hb4⟩; have B4 : Hid (Below U.heap.size U u4) := B3.out.trans (hb4.mono B3.out.size); obtain ⟨y0, y1, y2, y3, y4, y5⟩ := FE.out _ B4.out; clear hb4 C4))
            go_ret
            exact ⟨by rw [HR.out]; rfl, HB.out.trans (B4.out.mono HB.out.size)⟩
        · have b2 : decide (0 < x) = false := decide_eq_false h2
          rw [b2] at hr
          have HR : Hid (R = false) := hr
          clear hr
          go_enter Try.func55, Try.ntmps55
          go_wp2_with (first | (have hgo := C1.out; clear hgo; go_at_call 56; rw [HU.out]; refine (C1.out _).mono ?_; rintro e u1 ⟨rfl, hb1⟩; have B1 : Hid (Below U.heap.size U u1) := hb1; obtain ⟨y0, y1, y2, y3, y4, y5⟩ := FE.out _ B1.out; clear hb1 C1) | (have hgo := C2.out; clear hgo; go_at_call 56; refine (C2.out _).mono ?_; rintro e u2 ⟨rfl, hb2⟩; have B2 : Hid (Below U.heap.size U u2) := B1.out.trans (hb2.mono B1.out.size); obtain ⟨y0, y1, y2, y3, y4, y5⟩ := FE.out _ B2.out; clear hb2 C2) | (have hgo := C3.out; clear hgo; go_at_call 83; refine (C3.out _).mono ?_; rintro e u3 ⟨rfl, hb3⟩; have B3 : Hid (Below U.heap.size U u3) := B2.out.trans (hb3.mono B2.out.size); obtain ⟨y0, y1, y2, y3, y4, y5⟩ := FE.out _ B3.out; clear hb3 C3))
          go_ret
          exact ⟨by rw [HR.out]; rfl, HB.out.trans (B3.out.mono HB.out.size)⟩
  · have b1 : decide (1 ≤ id) = false := decide_eq_false h1
    rw [b1] at hr
    have HR : Hid (R = false) := hr
    clear hr
    go_enter Try.func55, Try.ntmps55
    go_wp2
    rw [HU.out]
    go_ret
    exact ⟨by rw [HR.out]; rfl, HB.out⟩
theorem encW_parts {x : Wrt} (h : Ky x.k) : (encW x).take 16 = x.k.map (Value.int .u8) ∧ (encW x)[16]? = some (.string (strOfNums x.v)) ∧ (encW x)[17]? = some (.bool x.g) := by
  have hl := kc_len h
  unfold encW
  refine ⟨?_, ?_, ?_⟩
  · rw [List.take_append_of_le_length (by omega), List.take_of_length_le (by omega)]; rfl
  · rw [List.getElem?_append_right (by omega), hl]; rfl
  · rw [List.getElem?_append_right (by omega), hl]; rfl
theorem eq_key9w (w : World) (a b : List Int) (ha : Ky a) (hb : Ky b) : (Op.equalIn 9999 34 (.agg (a.map (Value.int .u8)).toArray) (.agg (b.map (Value.int .u8)).toArray)).run Try.prog w = .ok (decide (a = b)) w := by
  obtain ⟨i, hi⟩ := key_parts
  rw [run_equalIn_array w 9998 _ _ Try.underlying34 hi, List.range_eq_range', eq_items Try.underlying5 (by kernel_rfl) 9997 w a b 16 0 (by rw [ha.len]) (by rw [hb.len])]
  by_cases h : a = b <;> simp [h]
set_option maxHeartbeats 1000000 in
theorem eq_wrt_yes (w : World) (A : Wrt) (hA : WrtOk A) : (Op.equalIn 10000 36 (wv A) (wv A)).run Try.prog w = .ok true w := by
  obtain ⟨a0, a1, a2⟩ := encW_parts hA.key
  have hk := fun u => eq_key9w u A.k A.k hA.key hA.key
  have hs := str_eq hA.val hA.val
  go_simp
theorem info_wrtl (W : Wrt) (h : Ky W.k) : (Try.prog.info? 36).map (·.size) = some (encW W).length := by rw [info_wrt, encW_len h]
set_option maxHeartbeats 4000000 in
set_option maxRecDepth 4000 in
theorem rwrites_yes (a a' : Option Addr) (N c c' : Nat) (l : List Wrt) (w : World) (hl : l.length = N) (hc : N ≤ c) (hc' : N ≤ c') (hN : N ≤ 1000000) (h : WrtsAt w a l) (h' : WrtsAt w a' l) :
    Calls Try.prog 13 #[.slice a N c, .slice a' N c'] w fun e w' => e = .returned (.bool true) ∧ Below w.heap.size w w' := by
  have HN : Hid (l.length = N) := hl
  have HA : Hid (WrtsAt w a l) := h
  have HA' : Hid (WrtsAt w a' l) := h'
  have bn : (((N : Nat) : Int) != ((N : Nat) : Int)) = false := by simp
  clear h h' hl
  go_enter Try.func13, Try.ntmps13
  go_wp2
  go_loopw [5] (fun iv wr => ∃ i : Nat, iv = .int .i64 i ∧ i ≤ N ∧ Hid (Below w.heap.size w wr)) (fun iv _ => N - (intOf iv).toNat)
  case atStart => exact ⟨0, rfl, Nat.zero_le _, Below.refl _ _⟩
  case round =>
    obtain ⟨i, rfl, hi, HB⟩ := hrel
    have hi0 : (0 : Int) ≤ (i : Int) := by omega
    by_cases hlt : i < N
    · have bl : (i : Int) < (N : Int) := by omega
      obtain ⟨V, hV⟩ : ∃ V, l[i]? = some V := ⟨_, List.getElem?_eq_getElem (by rw [HN.out]; exact hlt)⟩
      obtain ⟨g, o, rfl, hva, hvo⟩ := (HA.out.past HB.out).wrt hV
      obtain ⟨g', o', rfl, hwa, hwo⟩ := (HA'.out.past HB.out).wrt hV
      have KV : Hid (WrtOk V) := hvo
      have FV : Hid (∀ u, Below wr.heap.size wr u → WrtAt u g (o + i * 18) V) := fun u hb => hva.past hb
      have FW : Hid (∀ u, Below wr.heap.size wr u → WrtAt u g' (o' + i * 18) V) := fun u hb => hwa.past hb
      have heq := fun u => eq_wrt_yes u V KV.out
      clear hV hva hvo hwa hwo
      go_wp2
      refine wp_region_noPanic ?_
      refine wp_region_held_drew (S := fun u => Below wr.heap.size wr u) (by kernel_rfl) ?_ (fun hHeld => ?_)
      · exact (Below.refl _ _).drew
      refine wpAnyH_take (i := 0) (v := ?_) rfl (by kernel_rfl) (by kernel_rfl) (by kernel_rfl) (fun _ _ _ h => h) (Or.inl ⟨by rfl, ?_⟩) hHeld ?_
      rotate_left
      · intro u hSu
        (go_simp) <;> (with_reducible rfl)
      change wpAnyH _ _ _ _ _ _ _ (Act.put _ (some 17) _) _
      simp only [Act.put, List.setIfInBounds_toArray, List.set_cons_zero, List.set_cons_succ]
      refine wpAnyH_take (i := 1) (v := ?_) rfl (by kernel_rfl) (by kernel_rfl) (by kernel_rfl) (fun _ _ _ h => h) (Or.inl ⟨by rfl, ?_⟩) hHeld ?_
      rotate_left
      · intro u hSu
        (go_simp) <;> (with_reducible rfl)
      change wpAnyH _ _ _ _ _ _ _ (Act.put _ (some 18) _) _
      simp only [Act.put, List.setIfInBounds_toArray, List.set_cons_zero, List.set_cons_succ]
      refine wpAnyH_take (i := 2) (v := ?_) rfl (by kernel_rfl) (by kernel_rfl) (by kernel_rfl) (fun _ _ _ h => h) (Or.inl ⟨by rfl, ?_⟩) hHeld ?_
      rotate_left
      · intro u hSu
        (go_simp) <;> (with_reducible rfl)
      change wpAnyH _ _ _ _ _ _ _ (Act.put _ (some 19) _) _
      simp only [Act.put, List.setIfInBounds_toArray, List.set_cons_zero, List.set_cons_succ]
      refine wpAnyH_take (i := 3) (v := wv V) rfl (by kernel_rfl) (by kernel_rfl) (by kernel_rfl) (fun _ _ _ h => h) (yieldsIf_load_mid (by rfl) _ _ rfl _ _ rfl (encW V) _ (fun u hu => (FV.out u hu).range) Try.underlying36 rfl (info_wrtl V KV.out.key)) hHeld ?_
      change wpAnyH _ _ _ _ _ _ _ (Act.put _ (some 20) _) _
      simp only [Act.put, List.setIfInBounds_toArray, List.set_cons_zero, List.set_cons_succ]
      refine wpAnyH_take (i := 4) (v := ?_) rfl (by kernel_rfl) (by kernel_rfl) (by kernel_rfl) (fun _ _ _ h => h) (Or.inl ⟨by rfl, ?_⟩) hHeld ?_
      rotate_left
      · intro u hSu
        (go_simp) <;> (with_reducible rfl)
      change wpAnyH _ _ _ _ _ _ _ (Act.put _ (some 21) _) _
      simp only [Act.put, List.setIfInBounds_toArray, List.set_cons_zero, List.set_cons_succ]
      refine wpAnyH_take (i := 5) (v := ?_) rfl (by kernel_rfl) (by kernel_rfl) (by kernel_rfl) (fun _ _ _ h => h) (Or.inl ⟨by rfl, ?_⟩) hHeld ?_
      rotate_left
      · intro u hSu
        (go_simp) <;> (with_reducible rfl)
      change wpAnyH _ _ _ _ _ _ _ (Act.put _ (some 22) _) _
      simp only [Act.put, List.setIfInBounds_toArray, List.set_cons_zero, List.set_cons_succ]
      refine wpAnyH_take (i := 6) (v := ?_) rfl (by kernel_rfl) (by kernel_rfl) (by kernel_rfl) (fun _ _ _ h => h) (Or.inl ⟨by rfl, ?_⟩) hHeld ?_
      rotate_left
      · intro u hSu
        (go_simp) <;> (with_reducible rfl)
      change wpAnyH _ _ _ _ _ _ _ (Act.put _ (some 23) _) _
      simp only [Act.put, List.setIfInBounds_toArray, List.set_cons_zero, List.set_cons_succ]
      refine wpAnyH_take (i := 7) (v := wv V) rfl (by kernel_rfl) (by kernel_rfl) (by kernel_rfl) (fun _ _ _ h => h) (yieldsIf_load_mid (by rfl) _ _ rfl _ _ rfl (encW V) _ (fun u hu => (FW.out u hu).range) Try.underlying36 rfl (info_wrtl V KV.out.key)) hHeld ?_
      change wpAnyH _ _ _ _ _ _ _ (Act.put _ (some 24) _) _
      simp only [Act.put, List.setIfInBounds_toArray, List.set_cons_zero, List.set_cons_succ]
      refine wpAnyH_take (i := 8) (v := ?_) rfl (by kernel_rfl) (by kernel_rfl) (by kernel_rfl) (fun _ _ _ h => h) (Or.inl ⟨by rfl, ?_⟩) hHeld ?_
      rotate_left
      · intro u hSu
        (go_simp) <;> (with_reducible rfl)
      change wpAnyH _ _ _ _ _ _ _ (Act.put _ (some 25) _) _
      simp only [Act.put, List.setIfInBounds_toArray, List.set_cons_zero, List.set_cons_succ]
      refine wpAnyH_done (by kernel_rfl) ?_ _
      refine NoPanic.normal ?_
      go_wp2
      go_roundw
      case rel => exact ⟨i + 1, by go_num, by omega, HB.out.drew⟩
      case measure => simp [intOf]; omega
    · have bl : ¬ (i : Int) < (N : Int) := by omega
      go_wp2
      go_ret
      exact ⟨rfl, HB.out⟩
end Go.Proofs.Ytmiafadmcpmjgaa
