/-
  What Open of the landed logs answers and leaves.
-/
import Derived.Test.YtlfmhdljldbjmaaWalC5
import Derived.Test.YtlfmhdljldbjmaaRefWal4
namespace Go.Proofs.Ytlfmhdljldbjmaa
open Go.RowKit
set_option linter.unusedVariables false

theorem wown_le {u : World} {B n c : Nat} {a : Option Addr} {zs : List Value} (h : u.ownsRow B 5 1 (.slice a n c) n zs) : n ≤ c := by
  rcases h.2 with ⟨h1, h2⟩ | ⟨g, cap, cur, h1, _, _, h5, _⟩
  · cases h1; exact Nat.le_refl _
  · cases h1; exact h5
set_option maxHeartbeats 1000000 in
theorem wopen_err (b : Nat) (S : DS) (X : Foot) (s : List Int) (E : Int) (w : World) (h : DiskD w b S X) (hs : By s) (hl : s.length ≤ 1000) (he : S.err s = E) (h0 : E ≠ 0) (h4 : E ≠ 4) :
    Calls Try.prog 11 #[.pointer (some ⟨b, 0, none⟩), .string (strOfNums s)] w fun e w' => e = .returned (.tuple #[.pointer none, .int .i64 E]) ∧ ∃ X', DiskD w' b S X' ∧ Did w w' X X' := by
  have CR := dread_err b S X s w h hs (by omega) (by rw [he]; exact h0)
  rw [he] at CR
  replace CR : Hid (Calls Try.prog 29 #[.pointer (some ⟨b, 0, none⟩), .string (strOfNums s)] w fun e w' => e = .returned (.tuple #[.slice none 0 0, .int .i64 E]) ∧ w' = w) := CR
  have HD : Hid (DiskD w b S X) := h
  have b0 : (E != 0) = true := by simpa using h0
  have b4 : (E != 4) = true := by simpa using h4
  clear h he
  go_enter Try.func11, Try.ntmps11
  go_wp2_with (go_at_call 29; refine CR.out.mono ?_; rintro e w1 ⟨rfl, h1⟩; obtain rfl := h1.symm; clear h1)
  go_returns
  exact ⟨rfl, X, HD.out, Did.stay (Below.refl _ _) HD.out.lt⟩
theorem wopen_off (b : Nat) (S : DS) (X : Foot) (s : List Int) (w : World) (h : DiskD w b S X) (ho : S.off = true) (hs : By s) (hl : s.length ≤ 1000) :
    Calls Try.prog 11 #[.pointer (some ⟨b, 0, none⟩), .string (strOfNums s)] w fun e w' => e = .returned (.tuple #[.pointer none, .int .i64 7]) ∧ ∃ X', DiskD w' b S X' ∧ Did w w' X X' := by
  have e : S.err s = 7 := by unfold DS.err; rw [if_pos ho]
  exact wopen_err b S X s 7 w h hs hl e (by decide) (by decide)
theorem wopen_bad (b : Nat) (S : DS) (X : Foot) (s : List Int) (w : World) (h : DiskD w b S X) (ho : S.off = false) (hm : mayN s = false) (hs : By s) (hl : s.length ≤ 1000) :
    Calls Try.prog 11 #[.pointer (some ⟨b, 0, none⟩), .string (strOfNums s)] w fun e w' => e = .returned (.tuple #[.pointer none, .int .i64 1]) ∧ ∃ X', DiskD w' b S X' ∧ Did w w' X X' := by
  have e : S.err s = 1 := by unfold DS.err; rw [if_neg (by rw [ho]; simp), if_pos hm]
  exact wopen_err b S X s 1 w h hs hl e (by decide) (by decide)
theorem newRow_stay {u u' : World} {B c : Nat} {x : Option Addr} {rs : List Int} (h : NewRow u B x c rs) (hk : ∀ ad, x = some ad → u'.heap[ad.block]? = u.heap[ad.block]?) : NewRow u' B x c rs := by
  refine ⟨⟨h.row.bytes, h.row.cells.imp id ?_⟩, h.nil, h.le, fun a ha => ?_⟩
  · rintro ⟨b', o', he, hc⟩
    exact ⟨b', o', he, fun j hj => (cell_kept (hk _ he) _).trans (hc j hj)⟩
  · obtain ⟨h1, cur, fr, h2⟩ := h.block a ha
    exact ⟨h1, cur, fr, (hk a ha).trans h2⟩
/-- Records of the call's own stay where their blocks do. -/
theorem rows_stay {u u' : World} {base n cx : Nat} {ax : Option Addr} {L : List (List Int)} (h : OwnRows u base (.slice ax n cx) n L) (hk : ∀ k, base ≤ k → k < u.heap.size → u'.heap[k]? = u.heap[k]?) : RowsOf u' ax cx L := by
  obtain ⟨hl, vs, hown, hvs⟩ := h
  have h2 : OwnRows u' base (.slice ax n cx) n L := ⟨hl, vs, owns_kept hown (fun q e => hk q (hown.lt q e).1 (hown.lt q e).2), fun r hr => by
    obtain ⟨x, c, hx, hn⟩ := hvs r hr
    refine ⟨x, c, hx, newRow_stay hn (fun ad ha => ?_)⟩
    obtain ⟨h1, cur, fr, hb⟩ := hn.block ad ha
    exact hk _ h1 (heap_lt hb)⟩
  exact h2.rows
theorem scan_more : ∀ (n : Nat) (zs : List Int), zs.length ≤ n → (∀ r ∈ (scanN zs).1, r.length ≤ 8000) ∧ (scanN zs).1.length * 12 ≤ zs.length
  | 0, zs, h => by
    have e : zs = [] := List.eq_nil_of_length_eq_zero (by omega)
    subst e
    rw [scan_nil]
    exact ⟨fun r hr => by simp at hr, Nat.le_refl _⟩
  | n + 1, zs, h => by
    by_cases h0 : zs = []
    · subst h0
      rw [scan_nil]
      exact ⟨fun r hr => by simp at hr, Nat.le_refl _⟩
    · cases ht : takeN zs with
      | none =>
        rw [scan_none h0 ht]
        exact ⟨(fun r hr => by simp at hr), Nat.zero_le _⟩
      | some r =>
        obtain ⟨t1, t2, t3⟩ := take_some ht
        obtain ⟨i1, i2⟩ := scan_more n (zs.drop (12 + r.length)) (by rw [List.length_drop]; omega)
        rw [List.length_drop] at i2
        rw [scan_some ht]
        refine ⟨fun x hx => ?_, by show (_ + 1) * 12 ≤ _; omega⟩
        rcases List.mem_cons.1 hx with rfl | hx
        · exact t1
        · exact i1 x hx
set_option maxHeartbeats 2000000 in
set_option maxRecDepth 4000 in
theorem wopen_none (B b : Nat) (S : DS) (X : Foot) (s : List Int) (w : World) (h : DiskD w b S X) (hB : B ≤ w.heap.size) (ho : S.off = false) (hm : mayN s = true) (hf : findN S.fs s = none) :
    Calls Try.prog 11 #[.pointer (some ⟨b, 0, none⟩), .string (strOfNums s)] w fun e w' => ∃ p X' Z, e = .returned (.tuple #[.pointer (some ⟨p, 0, none⟩), .int .i64 0]) ∧ PD w' B p b (S.opened s) (S.log s) X' Z ∧ Did w w' X X' ∧ ∀ k, Z k → w.heap.size ≤ k := by
  have hl : s.length ≤ 1000000 := by have := hm; unfold mayN at this; simp at this; omega
  have er : S.err s = 4 := by unfold DS.err; rw [ho, hm, hf]; rfl
  have CR := dread_err b S X s w h (may_by _ hm) hl (by rw [er]; decide)
  rw [er] at CR
  replace CR : Hid (Calls Try.prog 29 #[.pointer (some ⟨b, 0, none⟩), .string (strOfNums s)] w fun e w' => e = .returned (.tuple #[.slice none 0 0, .int .i64 4]) ∧ w' = w) := CR
  have CC : Hid (Calls Try.prog 33 #[.string (strOfNums s)] w fun e w' => e = .returned (.string (strOfNums s)) ∧ Below w.heap.size w w') := sclone_any _ w (by rw [strOfNums_size]; exact hl)
  have CL : Hid (∀ u, Below w.heap.size w u → Calls Try.prog 34 #[.pointer (some ⟨b, 0, none⟩)] u fun e w' => e = .returned (.int .i64 S.lives) ∧ w' = u) := fun u hb => dlives_any b S X u (h.past hb)
  have HEND : Hid (∀ u, Below w.heap.size w u → PD (u.alloc (.cells #[.pointer (some ⟨b, 0, none⟩), .string (strOfNums s), .int .i64 S.lives, .bool false, .slice none 0 0, .int .i64 0] 65)) B u.heap.size b (S.opened s) (S.log s) X (fun k => k = u.heap.size) ∧ Did w (u.alloc (.cells #[.pointer (some ⟨b, 0, none⟩), .string (strOfNums s), .int .i64 S.lives, .bool false, .slice none 0 0, .int .i64 0] 65)) X X) := fun u hb => by
    have e1 : S.opened s = S := by unfold DS.opened; rw [hf]
    have e2 : S.log s = ⟨s, S.lives, false, [], 0⟩ := by unfold DS.log; rw [hf]
    rw [e1, e2]
    have hb2 : Below w.heap.size w (u.alloc (.cells #[.pointer (some ⟨b, 0, none⟩), .string (strOfNums s), .int .i64 S.lives, .bool false, .slice none 0 0, .int .i64 0] 65)) := hb.alloc hb.size _
    exact ⟨⟨h.past hb2, ⟨WalS.made u B b s S.lives 65 (Nat.le_trans hB hb.size) hm⟩, fun k x e => by have := h.lt k x; have := hb.size; omega⟩, Did.stay hb2 h.lt⟩
  clear h ho hm hf er
  go_enter Try.func11, Try.ntmps11
  go_wp2_with (first | (go_at_call 29; refine CR.out.mono ?_; rintro e w1 ⟨rfl, h1⟩; obtain rfl := h1.symm; clear h1) | (go_at_call 33; refine CC.out.mono ?_; rintro e w2 ⟨rfl, h1⟩; have B2 : Hid (Below w.heap.size w w2) := h1; clear h1) | (go_at_call 34; refine (CL.out _ B2.out).mono ?_; rintro e w3 ⟨rfl, h1⟩; obtain rfl := h1.symm; clear h1))
  go_returns
  exact ⟨w2.heap.size, X, _, rfl, (HEND.out w2 B2.out).1, (HEND.out w2 B2.out).2, fun k e => by rw [e]; exact B2.out.size⟩
/-- A disk, a log on it, and records of the call's own beside them. -/
structure PDR (w V u : World) (B p b : Nat) (S : DS) (l : LS) (X X0 : Foot) (ax : Option Addr) (n cx : Nat) (L : List (List Int)) : Prop where
  pd : PD u B p b S l X (fun k => k = p)
  did : DidP V u X0 (fun k => k = p) X (fun k => k = p)
  rows : ∀ v, Chg u v (fun k => X k ∨ k = p) → RowsOf v ax cx L
theorem PDR.disk_step {w V u u' : World} {B p b : Nat} {S S' : DS} {l : LS} {X X' X0 : Foot} {ax : Option Addr} {n cx : Nat} {L : List (List Int)} (h : PDR w V u B p b S l X X0 ax n cx L) (hd : DiskD u' b S' X') (d : Did u u' X X') : PDR w V u' B p b S' l X' X0 ax n cx L := by
  obtain ⟨k1, k2⟩ := h.pd.disk_step hd d
  refine ⟨k1, h.did.trans k2, fun v hv => h.rows v (k2.chg.trans hv (fun j hj hx => ?_))⟩
  rcases hx with hx | hx
  · rcases (d.new j hx).1 with e | e
    · exact .inl e
    · omega
  · exact .inr hx
set_option maxHeartbeats 4000000 in
set_option maxRecDepth 4000 in
theorem wopen_file (B b : Nat) (S : DS) (X : Foot) (s : List Int) (w : World) (h : DiskD w b S X) (hB : B ≤ w.heap.size) (ho : S.off = false) (hm : mayN s = true) (i : Nat) (hf : findN S.fs s = some i) (hz : sizeN S.fs ≤ 1048576) :
    Calls Try.prog 11 #[.pointer (some ⟨b, 0, none⟩), .string (strOfNums s)] w fun e w' => ∃ p X' Z, e = .returned (.tuple #[.pointer (some ⟨p, 0, none⟩), .int .i64 0]) ∧ PD w' B p b (S.opened s) (S.log s) X' Z ∧ Did w w' X X' ∧ ∀ k, Z k → w.heap.size ≤ k := by
  have hs := may_by _ hm
  have hl : s.length ≤ 1000000 := by have := hm; unfold mayN at this; simp at this; omega
  have er : S.err s = 0 := by unfold DS.err; rw [ho, hm, hf]; rfl
  obtain ⟨f, hif, hfn⟩ := find_file _ _ _ hf
  have hfb : By f.b := h.good.bytes f (List.mem_of_getElem? hif)
  have hfz : f.b.length ≤ 1048576 := Nat.le_trans (size_one (List.mem_of_getElem? hif)) hz
  obtain ⟨L, hL⟩ : ∃ L, L = (scanN f.b).1 := ⟨_, rfl⟩
  obtain ⟨us, hus⟩ : ∃ us, us = (scanN f.b).2.1 := ⟨_, rfl⟩
  obtain ⟨wh, hwh⟩ : ∃ wh, wh = (scanN f.b).2.2 := ⟨_, rfl⟩
  obtain ⟨s1, s2, s3, s4⟩ := scan_facts f.b.length f.b (Nat.le_refl _) hfb
  obtain ⟨t1, t2⟩ := scan_more f.b.length f.b (Nat.le_refl _)
  rw [← hus] at s1
  rw [← hL] at t1 t2
  obtain ⟨M, hM⟩ : ∃ M, M = f.b.length := ⟨_, rfl⟩
  have CR : Hid (Calls Try.prog 29 #[.pointer (some ⟨b, 0, none⟩), .string (strOfNums s)] w fun e w' => ∃ a c, e = .returned (.tuple #[.slice a M c, .int .i64 0]) ∧ w'.ownsRow w.heap.size 5 1 (.slice a M c) M (bs f.b) ∧ Below w.heap.size w w') := by
    have e : S.read s = (0, f.b) := by unfold DS.read; rw [if_pos er, hf]; simp [file_at' hif]
    have := dread_any b S X s w h hs hl (by omega)
    rw [e] at this
    rw [hM]
    exact this
  have CC : Hid (∀ u, Calls Try.prog 33 #[.string (strOfNums s)] u fun e w' => e = .returned (.string (strOfNums s)) ∧ Below u.heap.size u w') := fun u => sclone_any _ u (by rw [strOfNums_size]; exact hl)
  have CL : Hid (∀ u, Below w.heap.size w u → Calls Try.prog 34 #[.pointer (some ⟨b, 0, none⟩)] u fun e w' => e = .returned (.int .i64 S.lives) ∧ w' = u) := fun u hb => dlives_any b S X u (h.past hb)
  have CS : Hid (∀ (u V : World) a c, Below w.heap.size w u → V = u.alloc (.cells #[.pointer (some ⟨b, 0, none⟩), .string (strOfNums s), .int .i64 S.lives, .bool false, .slice none 0 0, .int .i64 0] 65) → u.ownsRow w.heap.size 5 1 (.slice a M c) M (bs f.b) → Calls Try.prog 35 #[.slice a M c] V fun e w' => ∃ ax n cx, e = .returned (.tuple #[.slice ax n cx, .int .i64 (us : Nat), .bool wh]) ∧ L.length = n ∧ PDR w V w' B u.heap.size b S ⟨s, S.lives, false, [], 0⟩ X X ax n cx L) := fun u V a c hbu hV hown => by
    have hVb : Below u.heap.size u V := by rw [hV]; exact (Below.refl _ _).alloc (Nat.le_refl _) _
    have hwV : Below w.heap.size w V := hbu.trans (hVb.mono hbu.size)
    have hVs : V.heap.size = u.heap.size + 1 := by rw [hV]; simp
    have hrow : Row V a f.b := (own_row hown hfb).below hVb (Nat.le_refl _)
    refine (scan_any a c f.b M V hM.symm hrow (by exact wown_le hown) (by omega)).mono ?_
    rintro e w' ⟨ax, n, cx, rfl, hown2, hb⟩
    rw [← hus, ← hwh]
    rw [← hL] at hown2
    have hlog : WalS V B u.heap.size b ⟨s, S.lives, false, [], 0⟩ (fun k => k = u.heap.size) := by rw [hV]; exact WalS.made u B b s S.lives 65 (Nat.le_trans hB hbu.size) hm
    have hpd : PD V B u.heap.size b S ⟨s, S.lives, false, [], 0⟩ X (fun k => k = u.heap.size) := ⟨h.past hwV, ⟨hlog⟩, fun k x e => by have := h.lt k x; have := hbu.size; omega⟩
    refine ⟨ax, n, cx, rfl, hown2.len, hpd.past hb, DidP.stay hpd hb, fun v hv => rows_stay hown2 (fun k k1 k2 => hv.block k k2 (fun hx => ?_))⟩
    rcases hx with hx | hx
    · have := h.lt k hx; have := hwV.size; omega
    · omega
  have CU : Hid (∀ (V u : World) p ax n cx, PDR w V u B p b S ⟨s, S.lives, false, [], 0⟩ X X ax n cx L → Calls Try.prog 36 #[.pointer (some ⟨b, 0, none⟩), .string (strOfNums s), .int .i64 (us : Nat)] u fun e w' => ∃ X4, e = .returned (.int .i64 0) ∧ PDR w V w' B p b (S.cut s (us : Nat)).2 ⟨s, S.lives, false, [], 0⟩ X4 X ax n cx L) := fun V u p ax n cx hu => by
    refine (dkcut_any b S X s (us : Nat) u hu.pd.disk hs hl (by omega)).mono ?_
    rintro e w' ⟨X4, rfl, h1, h2⟩
    have e0 : (S.cut s (us : Nat)).1 = 0 := by
      unfold DS.cut
      rw [if_pos er, hf]
      simp only [file_at' hif]
      rw [if_neg (by omega)]
    rw [e0]
    exact ⟨X4, rfl, hu.disk_step h1 h2⟩
  have CY : Hid (∀ (V u : World) p S4 X4 ax n cx, (S4.sync s).1 = 0 → PDR w V u B p b S4 ⟨s, S.lives, false, [], 0⟩ X4 X ax n cx L → Calls Try.prog 37 #[.pointer (some ⟨b, 0, none⟩), .string (strOfNums s)] u fun e w' => ∃ X5, e = .returned (.int .i64 0) ∧ PDR w V w' B p b (S4.sync s).2 ⟨s, S.lives, false, [], 0⟩ X5 X ax n cx L) := fun V u p S4 X4 ax n cx h0 hu => by
    refine (dsync_any b S4 X4 s u hu.pd.disk hs hl).mono ?_
    rintro e w' ⟨X5, rfl, h1, h2⟩
    rw [h0]
    exact ⟨X5, rfl, hu.disk_step h1 h2⟩
  have CK : Hid (∀ (V u : World) p S5 X5 ax n cx, L.length = n → B ≤ u.heap.size → PDR w V u B p b S5 ⟨s, S.lives, false, [], 0⟩ X5 X ax n cx L → Calls Try.prog 38 #[.pointer (some ⟨p, 0, none⟩), .slice ax n cx] u fun e w' => e = .returned (.tuple #[]) ∧ ∃ Z', (PD w' B p b S5 ⟨s, S.lives, false, L, 0⟩ X5 Z' ∧ DidP V w' X (fun k => k = p) X5 Z') ∧ ∃ a4 c4, w'.cell? ⟨p, 4, none⟩ = some (.slice a4 n c4) ∧ w'.cell? ⟨p, 5, none⟩ = some (.int .i64 0) ∧ w'.frozen? ⟨p, 5, none⟩ = false) := fun V u p S5 X5 ax n cx hn hBu hu => by
    refine (wkeep_any B p b S5 ⟨s, S.lives, false, [], 0⟩ X5 (fun k => k = p) ax cx n L u hu.pd hBu hn hu.rows t1 (by show 0 + n ≤ _; omega)).mono ?_
    rintro e w' ⟨rfl, Z', h1, h2⟩
    have h1' : PD w' B p b S5 ⟨s, S.lives, false, L, 0⟩ X5 Z' := h1
    obtain ⟨a4, c4, k4, _⟩ := h1'.log.rep.c4
    exact ⟨rfl, Z', ⟨h1', hu.did.trans h2⟩, a4, c4, by rw [← hn]; exact k4, h1'.log.rep.c5, h1'.log.rep.free 5⟩
  obtain ⟨o1, o2⟩ := opened_cut ho hm hf hif hfb
  rw [← hus] at o1
  rw [← hwh] at o2
  have y0 : (S.sync s).1 = 0 := by unfold DS.sync; rw [if_pos er, hf]
  have y1 : ((S.cut s (us : Nat)).2.sync s).1 = 0 := by
    have e1 : (S.cut s (us : Nat)).2 = { S with fs := setF S.fs i ⟨f.name, f.b.take us, min f.safe us⟩ } := by
      unfold DS.cut
      rw [if_pos er, hf]
      simp only [file_at' hif]
      rw [if_neg (by omega)]
      simp
    rw [e1]
    have hf2 := find_set (f' := ⟨f.name, f.b.take us, min f.safe us⟩) hf hif rfl
    unfold DS.sync DS.err
    simp only
    rw [ho, hm, hf2]
    rfl
  have HLG : Hid (S.log s = ⟨s, S.lives, false, L, L.length⟩) := by show _ = _; unfold DS.log; rw [hf]; simp only [file_at' hif]; rw [hL]
  have HEND : Hid (∀ (u V w5 w6 : World) (X5 Z' : Foot) (n : Nat) (S5 : DS), Below w.heap.size w u → V.heap.size = u.heap.size + 1 → Below w.heap.size w V → S5 = S.opened s → L.length = n → PD w6 B u.heap.size b S5 ⟨s, S.lives, false, L, 0⟩ X5 Z' → DidP V w6 X (fun k => k = u.heap.size) X5 Z' → PD (w6.setCell ⟨u.heap.size, 5, none⟩ (.int .i64 (n : Int))) B u.heap.size b (S.opened s) (S.log s) X5 Z' ∧ Did w (w6.setCell ⟨u.heap.size, 5, none⟩ (.int .i64 (n : Int))) X X5 ∧ ∀ k, Z' k → w.heap.size ≤ k) := fun u V w5 w6 X5 Z' n S5 hbu hVs hwV e5 hn hp hd => by
    obtain ⟨r1, r2⟩ := hp.log_step (o := 5) (l' := ⟨s, S.lives, false, L, n⟩) (hp.log.rep.nowsafe n)
    rw [HLG.out, ← e5, hn]
    have hd2 := hd.trans r2
    have hwu := hbu.size
    refine ⟨r1, ⟨(Chg.of_below hwV X).trans hd2.chg (fun j hj hx => hx.elim id (fun e => by omega)), fun k x => ⟨(hd2.nx k x).1.imp id (fun e => by omega), (hd2.nx k x).2⟩⟩, fun k z => ?_⟩
    rcases (hd2.nz k z).1 with e | e <;> omega
  have hML : Hid (Below w.heap.size w w) := Below.refl _ _
  cases wh with
  | true =>
    have OEQ : Hid ((S.sync s).2 = S.opened s) := o2 rfl
    have Y0 : Hid ((S.sync s).1 = 0) := y0
    clear h ho hm hf er hif hfn hL hus hwh hM o1 o2 s1 s2 s3 s4 t1 t2 y0 y1
    go_enter Try.func11, Try.ntmps11
    go_wp2_with (first
      | (go_at_call 29; refine CR.out.mono ?_; rintro e w1 ⟨a1, c1, rfl, h1, h2⟩; have O1 : Hid (w1.ownsRow w.heap.size 5 1 (.slice a1 M c1) M (bs f.b)) := h1; have B1 : Hid (Below w.heap.size w w1) := h2; clear h1 h2)
      | (go_at_call 33; refine (CC.out _).mono ?_; rintro e w2 ⟨rfl, h1⟩; have B2 : Hid (Below w.heap.size w w2) := B1.out.trans (h1.mono B1.out.size); have O2 : Hid (w2.ownsRow w.heap.size 5 1 (.slice a1 M c1) M (bs f.b)) := own_below O1.out h1 (Nat.le_refl _); clear h1)
      | (go_at_call 34; refine (CL.out _ B2.out).mono ?_; rintro e w3 ⟨rfl, h1⟩; obtain rfl := h1.symm; clear h1)
      | (go_at_call 35; refine (CS.out w2 _ a1 c1 B2.out rfl O2.out).mono ?_; rintro e w4 ⟨ax, n, cx, rfl, h1, h2⟩; have N4 : Hid (L.length = n) := h1; have P4 : Hid (PDR w (w2.alloc (.cells #[.pointer (some ⟨b, 0, none⟩), .string (strOfNums s), .int .i64 S.lives, .bool false, .slice none 0 0, .int .i64 0] 65)) w4 B w2.heap.size b S ⟨s, S.lives, false, [], 0⟩ X X ax n cx L) := h2; clear h1 h2)
      | (go_at_call 37; refine (CY.out _ _ _ _ _ _ _ _ Y0.out P4.out).mono ?_; rintro e w5 ⟨X5, rfl, h2⟩; have P5 : Hid (PDR w (w2.alloc (.cells #[.pointer (some ⟨b, 0, none⟩), .string (strOfNums s), .int .i64 S.lives, .bool false, .slice none 0 0, .int .i64 0] 65)) w5 B w2.heap.size b (S.sync s).2 ⟨s, S.lives, false, [], 0⟩ X5 X ax n cx L) := h2; clear h2)
      | (go_at_call 38; refine (CK.out _ _ _ _ _ _ _ _ N4.out (Nat.le_trans (Nat.le_trans hB (B2.out.alloc B2.out.size _).size) P5.out.did.chg.size) P5.out).mono ?_; rintro e w6 ⟨rfl, Z', h1, a6, c6, k4, k5, f5⟩; have P6 : Hid (PD w6 B w2.heap.size b (S.sync s).2 ⟨s, S.lives, false, L, 0⟩ X5 Z' ∧ DidP (w2.alloc (.cells #[.pointer (some ⟨b, 0, none⟩), .string (strOfNums s), .int .i64 S.lives, .bool false, .slice none 0 0, .int .i64 0] 65)) w6 X (fun k => k = w2.heap.size) X5 Z') := h1; clear h1))
    go_returns
    obtain ⟨r1, r2, r3⟩ := HEND.out w2 _ w5 w6 X5 Z' n _ B2.out (by simp) (B2.out.alloc B2.out.size _) OEQ.out N4.out P6.out.1 P6.out.2
    exact ⟨w2.heap.size, X5, Z', rfl, r1, r2, r3⟩
  | false =>
    have OEQ : Hid (((S.cut s (us : Nat)).2.sync s).2 = S.opened s) := o1
    have Y1 : Hid (((S.cut s (us : Nat)).2.sync s).1 = 0) := y1
    clear h ho hm hf er hif hfn hL hus hwh hM o1 o2 s1 s2 s3 s4 t1 t2 y0 y1
    go_enter Try.func11, Try.ntmps11
    go_wp2_with (first
      | (go_at_call 29; refine CR.out.mono ?_; rintro e w1 ⟨a1, c1, rfl, h1, h2⟩; have O1 : Hid (w1.ownsRow w.heap.size 5 1 (.slice a1 M c1) M (bs f.b)) := h1; have B1 : Hid (Below w.heap.size w w1) := h2; clear h1 h2)
      | (go_at_call 33; refine (CC.out _).mono ?_; rintro e w2 ⟨rfl, h1⟩; have B2 : Hid (Below w.heap.size w w2) := B1.out.trans (h1.mono B1.out.size); have O2 : Hid (w2.ownsRow w.heap.size 5 1 (.slice a1 M c1) M (bs f.b)) := own_below O1.out h1 (Nat.le_refl _); clear h1)
      | (go_at_call 34; refine (CL.out _ B2.out).mono ?_; rintro e w3 ⟨rfl, h1⟩; obtain rfl := h1.symm; clear h1)
      | (go_at_call 35; refine (CS.out w2 _ a1 c1 B2.out rfl O2.out).mono ?_; rintro e w4 ⟨ax, n, cx, rfl, h1, h2⟩; have N4 : Hid (L.length = n) := h1; have P3 : Hid (PDR w (w2.alloc (.cells #[.pointer (some ⟨b, 0, none⟩), .string (strOfNums s), .int .i64 S.lives, .bool false, .slice none 0 0, .int .i64 0] 65)) w4 B w2.heap.size b S ⟨s, S.lives, false, [], 0⟩ X X ax n cx L) := h2; clear h1 h2)
      | (go_at_call 36; refine (CU.out _ _ _ _ _ _ P3.out).mono ?_; rintro e w7 ⟨X4, rfl, h2⟩; have P4 : Hid (PDR w (w2.alloc (.cells #[.pointer (some ⟨b, 0, none⟩), .string (strOfNums s), .int .i64 S.lives, .bool false, .slice none 0 0, .int .i64 0] 65)) w7 B w2.heap.size b (S.cut s (us : Nat)).2 ⟨s, S.lives, false, [], 0⟩ X4 X ax n cx L) := h2; clear h2)
      | (go_at_call 37; refine (CY.out _ _ _ _ _ _ _ _ Y1.out P4.out).mono ?_; rintro e w5 ⟨X5, rfl, h2⟩; have P5 : Hid (PDR w (w2.alloc (.cells #[.pointer (some ⟨b, 0, none⟩), .string (strOfNums s), .int .i64 S.lives, .bool false, .slice none 0 0, .int .i64 0] 65)) w5 B w2.heap.size b ((S.cut s (us : Nat)).2.sync s).2 ⟨s, S.lives, false, [], 0⟩ X5 X ax n cx L) := h2; clear h2)
      | (go_at_call 38; refine (CK.out _ _ _ _ _ _ _ _ N4.out (Nat.le_trans (Nat.le_trans hB (B2.out.alloc B2.out.size _).size) P5.out.did.chg.size) P5.out).mono ?_; rintro e w6 ⟨rfl, Z', h1, a6, c6, k4, k5, f5⟩; have P6 : Hid (PD w6 B w2.heap.size b ((S.cut s (us : Nat)).2.sync s).2 ⟨s, S.lives, false, L, 0⟩ X5 Z' ∧ DidP (w2.alloc (.cells #[.pointer (some ⟨b, 0, none⟩), .string (strOfNums s), .int .i64 S.lives, .bool false, .slice none 0 0, .int .i64 0] 65)) w6 X (fun k => k = w2.heap.size) X5 Z') := h1; clear h1))
    go_returns
    obtain ⟨r1, r2, r3⟩ := HEND.out w2 _ w5 w6 X5 Z' n _ B2.out (by simp) (B2.out.alloc B2.out.size _) OEQ.out N4.out P6.out.1 P6.out.2
    exact ⟨w2.heap.size, X5, Z', rfl, r1, r2, r3⟩
theorem wopen_ok (B b : Nat) (S : DS) (X : Foot) (s : List Int) (w : World) (h : DiskD w b S X) (hB : B ≤ w.heap.size) (ho : S.off = false) (hm : mayN s = true) (hz : sizeN S.fs ≤ 1048576) :
    Calls Try.prog 11 #[.pointer (some ⟨b, 0, none⟩), .string (strOfNums s)] w fun e w' => ∃ p X' Z, e = .returned (.tuple #[.pointer (some ⟨p, 0, none⟩), .int .i64 0]) ∧ PD w' B p b (S.opened s) (S.log s) X' Z ∧ Did w w' X X' ∧ ∀ k, Z k → w.heap.size ≤ k := by
  cases hf : findN S.fs s with
  | none => exact wopen_none B b S X s w h hB ho hm hf
  | some i => exact wopen_file B b S X s w h hB ho hm i hf hz
end Go.Proofs.Ytlfmhdljldbjmaa
