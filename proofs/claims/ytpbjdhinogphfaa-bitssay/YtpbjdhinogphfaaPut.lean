/-
  What Put answers: a new list, the bytes that came in ahead of the number's own.
-/
import Derived.Test.YtpbjdhinogphfaaGet
import Derived.Laws.CopyOwn
import Derived.Laws.MakeOwn
namespace Go.Proofs.Ytpbjdhinogphfaa
open Go.RowKit
set_option linter.unusedVariables false

theorem info5 : (Try.prog.info? 5).map (fun i => (i.zero, i.size, i.bytes)) = some (some (.int .u8 0), 1, 1) := by kernel_rfl
theorem info5s : (Try.prog.info? 5).map (·.size) = some 1 := by kernel_rfl

/-- The cells of a list of bytes. -/
def bs (zs : List Int) : List Value := zs.map (Value.int .u8)
theorem bs_len (zs : List Int) : (bs zs).length = zs.length := by simp [bs]
theorem bs_app (xs ys : List Int) : bs (xs ++ ys) = bs xs ++ bs ys := by simp [bs]
theorem bs_one (zs : List Int) : ∀ u ∈ bs zs, u.oneCell' = true := ints_oneCell _ _
theorem bs_at (zs : List Int) (j : Nat) (v : Value) (h : (bs zs)[j]? = some v) : j < zs.length ∧ v = .int .u8 (zs.getD j 0) := by
  unfold bs at h
  rw [List.getElem?_map] at h
  by_cases hj : j < zs.length
  · simp [hj] at h
    exact ⟨hj, by simp [hj, h]⟩
  · have : zs[j]? = none := by simp; omega
    simp [this] at h

theorem lt_of_cell {w : World} {x : Addr} {v : Value} (h : w.cell? x = some v) : x.block < w.heap.size := by
  apply Classical.byContradiction
  intro hn
  have : w.heap[x.block]? = none := by simp; omega
  simp [World.cell?, this] at h
/-- What the copy into the new row leaves. -/
theorem copy_row (w : World) (a : Option Addr) (cap : Nat) (zs : List Int) (Z : Array Value) (len n : Nat) (hrow : Row w a zs) (hzl : zs.length = len) (hZ : Z.size = len + n) (hm : len + n ≤ maxLen) :
    ∃ w1, (Builtin.copy_ #[27, 27] 3 #[.slice (some ⟨w.heap.size, 0, none⟩) len (len + n), .slice a len cap]).run Try.prog (w.alloc (.cells Z 5)) = .ok (.int .i64 len) w1 ∧
      w1.ownsRow w.heap.size 5 1 (.slice (some ⟨w.heap.size, 0, none⟩) len (len + n)) len (bs zs) ∧ Below w.heap.size w w1 ∧ w.heap.size < w1.heap.size := by
  have hg : (w.alloc (.cells Z 5)).heap[w.heap.size]? = some (.cells Z 5 (0, 0)) := by
    show (w.heap.push _)[w.heap.size]? = _
    simp
  have hb : Below w.heap.size w (w.alloc (.cells Z 5)) := (Below.refl _ _).alloc (Nat.le_refl _) _
  rcases hrow.2 with rfl | ⟨b, off, rfl, hc⟩
  · simp at hzl
    subst hzl
    refine ⟨_, run_copy_none (P := Try.prog) _ 27 27 3 5 _ _ _ _ _ _ Try.underlying27 info5s rfl, ?_, hb, by simp⟩
    exact ⟨by simp [bs], .inr ⟨_, _, Z, rfl, Nat.le_refl _, hg, by omega, hm, by omega, by simp [bs]⟩⟩
  · have hsrc : ∀ j v, (bs zs)[j]? = some v → (w.alloc (.cells Z 5)).cell? ((⟨b, off, none⟩ : Addr).add j) = some v := by
      intro j v hj
      obtain ⟨hj1, rfl⟩ := bs_at zs j v hj
      have := hc j hj1
      have ea : (⟨b, off, none⟩ : Addr).add j = ⟨b, off + j, none⟩ := by simp [Addr.add]
      rw [ea, World.cell?_alloc_lt _ _ _ (lt_of_cell this)]
      exact this
    have hr := run_copy_row (P := Try.prog) (w.alloc (.cells Z 5)) 27 27 3 5 w.heap.size 0 len (len + n) ⟨b, off, none⟩ len cap Z 5 (bs zs) Try.underlying27 info5s hg
      (by rw [bs_len, hzl]; exact (Nat.min_self len).symm) hsrc (by rw [bs_len]; omega) (bs_one zs)
    rw [bs_len, hzl] at hr
    refine ⟨_, hr, ?_, below_setRow hb (Nat.le_refl _) _, by simp [World.setRow]⟩
    refine ⟨by rw [bs_len]; omega, .inr ⟨_, _, _, rfl, Nat.le_refl _, setRow_heap _ _ _ _ _ _ hg, by omega, hm, ?_, ?_⟩⟩
    · simp [bs_len]; omega
    · simp [bs_len, hzl]

/-- One byte more, within the room. -/
theorem own_more {w w1 w2 : World} {g len cap : Nat} {zs P : List Int} {c : Int} {o : Obj} (hb : Below g w w1) (hs : g < w1.heap.size)
    (hown : w2.ownsRow g 5 1 (.slice (some ⟨g, 0, none⟩) (len + P.length + 1) cap) (len + P.length + 1) (bs (zs ++ P) ++ [.int .u8 c])) (hg : (w1.alloc o).grownBy w2 (some g)) :
    w2.ownsRow g 5 1 (.slice (some ⟨g, 0, none⟩) (len + (P ++ [c]).length) cap) (len + (P ++ [c]).length) (bs (zs ++ (P ++ [c]))) ∧ Below g w w2 ∧ g < w2.heap.size := by
  have e : len + (P ++ [c]).length = len + P.length + 1 := by simp; omega
  have e2 : bs (zs ++ (P ++ [c])) = bs (zs ++ P) ++ [.int .u8 c] := by simp [bs]
  have hs2 := hg.size
  simp at hs2
  rw [e, e2]
  exact ⟨hown, (hb.alloc (by omega) o).grown hg (by simp; omega) (fun k hk => by simp at hk; omega), by omega⟩

theorem put_any (a : Option Addr) (cap : Nat) (zs : List Int) (v : Int) (w : World) (hrow : Row w a zs) (hmax : zs.length ≤ 140737488351232) (h0 : 0 ≤ v) (h1 : v ≤ 18446744073709551615) :
    Calls Try.prog 18 #[.slice a zs.length cap, .int .u64 v] w fun e w' =>
      e = .returned (.slice (some ⟨w.heap.size, 0, none⟩) (zs.length + (Pl.putI v).length) (zs.length + (Pl.putI v).length)) ∧
      w'.ownsRow w.heap.size 5 1 (.slice (some ⟨w.heap.size, 0, none⟩) (zs.length + (Pl.putI v).length) (zs.length + (Pl.putI v).length)) (zs.length + (Pl.putI v).length) (bs (zs ++ Pl.putI v)) ∧
      Below w.heap.size w w' := by
  obtain ⟨i0, hi, hz0, hz1, hz2⟩ := info_parts info5
  have hl : (Pl.putI v).length ≤ 10 := Pl.put_length_le 9 v
  have hp : 1 ≤ (Pl.putI v).length := Pl.put_length_pos 9 v
  obtain ⟨n, hn⟩ : ∃ n, (Pl.putI v).length = n := ⟨_, rfl⟩
  have hlen := len_any v
  rw [hn] at hl hp hlen ⊢
  obtain ⟨len, hzl⟩ : ∃ len, zs.length = len := ⟨_, rfl⟩
  rw [hzl] at hmax ⊢
  have hmk := fun w => run_make (P := Try.prog) w 27 5 i0 (.int .u8 0) Try.underlying27 hi hz0 .i64 .i64 (len : Int) ((len : Int) + (n : Int)) (by omega) (by omega) (by rw [hz2]; omega) (by omega)
  rw [hz1] at hmk
  have e1 : ((len : Int)).toNat = len := by omega
  have e2 : ((len : Int) + (n : Int)).toNat * 1 = len + n := by omega
  have e3 : ((len : Int) + (n : Int)).toNat = len + n := by omega
  rw [e1, e2, e3] at hmk
  obtain ⟨Z, hZ⟩ : ∃ Z, Z = madeCells (Value.int IntKind.u8 0).cells (len + n) := ⟨_, rfl⟩
  rw [← hZ] at hmk
  have hZs : Z.size = len + n := by rw [hZ, size_madeCells]
  clear hZ e1 e2 e3
  have HN : Hid ((Pl.putI v).length = n) := hn
  have HZL : Hid (zs.length = len) := hzl
  have HZS : Hid (Z.size = len + n) := hZs
  obtain ⟨w1, hcp, hown, hB1, hs1⟩ := copy_row w a cap zs Z len n hrow hzl hZs (by unfold maxLen; omega)
  have HOWN : Hid _ := hown
  have HB1 : Hid _ := hB1
  clear hown hB1
  have HLEN := fun w => (hlen w h0 h1)
  clear hn hzl hZs hrow hlen
  go_enter Try.func18, Try.ntmps18
  go_wp2_with (first | (go_at_call 15; refine (HLEN _).mono ?_; rintro e w' ⟨rfl, hw⟩; obtain rfl := hw.symm; clear hw))
  clear hmk hcp HLEN
  go_loopw [1, 5] (fun x out wr => ∃ (f : Nat) (X : Int) (P : List Int), x = .int .u64 X ∧ Pl.Fits f X ∧ Hid (P ++ Pl.putF f X = Pl.putI v) ∧ out = .slice (some ⟨w.heap.size, 0, none⟩) (len + P.length) (len + n) ∧
      wr.ownsRow w.heap.size 5 1 (.slice (some ⟨w.heap.size, 0, none⟩) (len + P.length) (len + n)) (len + P.length) (bs (zs ++ P)) ∧ Below w.heap.size w wr ∧ w.heap.size < wr.heap.size) (fun x _ _ => (intOf x).toNat)
  case atStart => exact ⟨9, v, [], rfl, Pl.fits_start v h0 h1, rfl, rfl, by rw [List.append_nil]; exact HOWN.out, HB1.out, hs1⟩
  case round =>
    obtain ⟨f, X, P, rfl, hf, HP, rfl, hown, hB, hsz⟩ := hrel
    have hX : 0 ≤ X := hf.1
    have hPl : P.length + (Pl.putF f X).length = n := by have := congrArg List.length HP.out; rw [List.length_append, HN.out] at this; exact this
    have hp1 := Pl.put_length_pos f X
    have hroom : len + P.length + 1 ≤ len + n := by omega
    have HPL : Hid (P.length + (Pl.putF f X).length = n) := hPl
    clear hPl HOWN HB1
    by_cases hlt : X < 128
    · have HP' : Hid (P ++ [X] = Pl.putI v) := by have h := HP.out; rw [Pl.put_last hlt] at h; exact h
      have hn1 : Hid (len + n = len + (P ++ [X]).length) := by have := HPL.out; rw [Pl.put_last hlt] at this; simp at this; show _ = _; simp; omega
      have hm : X % 256 = X := by omega
      clear HP hf HPL hp1
      go_wp2_with (at_builtin; refine wpList_append_fits _ rfl (.tmp 27) (.tmp 30) 27 rfl w.heap.size 5 i0 1 Try.underlying27 hi hz1 w.heap.size (len + P.length) (len + n) (bs (zs ++ P)) rfl (hown.alloc _) ⟨wr.heap.size, 0, none⟩ 1 1 [.int .u8 X] rfl rfl (cell_one_new _ _ _) (ints_oneCell _ [X]) hroom ?_; intro w2 hown2 hgrow2)
      have R := own_more hB hsz hown2 hgrow2
      clear hown2 hgrow2 hown
      go_wp2
      go_ret
      refine ⟨?_, ?_, R.2.1⟩
      · have e : len + n = len + P.length + 1 := by have := hn1.out; simp at this; omega
        rw [e]; rfl
      · have h := R.1
        rw [← hn1.out, HP'.out] at h
        exact h
    · cases f with
      | zero => exact absurd (Pl.fits_zero hf) hlt
      | succ f =>
        have HP' : Hid ((P ++ [X % 128 + 128]) ++ Pl.putF f (X / 128) = Pl.putI v) := by
          have h := HP.out
          rw [Pl.put_more (by omega)] at h
          show _ = _
          rw [← h]; simp
        have F := Pl.fits_step hf
        have hor : bits .or .u8 (X % 256) 128 = X % 128 + 128 := by
          rw [Pl.or128 _ (by omega) (by omega)]; omega
        clear HP hf
        go_wp2_with (at_builtin; refine wpList_append_fits _ rfl (.tmp 19) (.tmp 23) 27 rfl w.heap.size 5 i0 1 Try.underlying27 hi hz1 w.heap.size (len + P.length) (len + n) (bs (zs ++ P)) rfl (hown.alloc _) ⟨wr.heap.size, 0, none⟩ 1 1 [.int .u8 (X % 128 + 128)] rfl rfl (cell_one_new _ _ _) (ints_oneCell _ [X % 128 + 128]) hroom ?_; intro w2 hown2 hgrow2)
        have R := own_more hB hsz hown2 hgrow2
        clear hown2 hgrow2 hown
        go_wp2
        go_roundw
        case rel => exact ⟨f, X / 128, P ++ [X % 128 + 128], rfl, F, HP', by simp [Nat.add_assoc], R.1, R.2.1, R.2.2⟩
        case measure => simp [intOf]; omega
end Go.Proofs.Ytpbjdhinogphfaa
