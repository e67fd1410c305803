/-
  The document's own records: what Get holds while it reads.
  The document's own records: Get.
  The document's own records: Get.
-/
import Derived.Test.YtmiafadmcpmjgaaLo
import Derived.Test.YtmiafadmcpmjgaaRefRd8
import Derived.Test.YtmiafadmcpmjgaaRr

namespace Go.Proofs.Ytmiafadmcpmjgaa
open Go.RowKit
set_option linter.unusedVariables false
set_option linter.unusedSimpArgs false

/-- A record in a box q, another (r0) for the answer, and the document's reader (g) beside them; W: the world in which the reader was made. -/
structure DB (W u : World) (r0 g q : Nat) (a : Option Addr) (cap : Nat) (zs : List Int) (k : Nat) (b : Bool) (kd id s m t n : Int) (ax : Option Addr) (N cx : Nat) (y : Bool) (pa : Option Addr) (M pc : Nat) : Prop where
  rd : Rd u g a cap zs k b
  base : Rd W g a cap zs 0 false
  chg : Chg W u (fun j => j = g)
  box : RBox u q kd id s m t n ax N cx y pa M pc
  free : ∀ i, u.frozen? ⟨q, i, none⟩ = false
  res : RBox u r0 0 0 0 0 0 0 none 0 0 false none 0 0
  rfree : ∀ i, u.frozen? ⟨r0, i, none⟩ = false
  hq : W.heap.size ≤ q
  hr : r0 < W.heap.size
  ne : r0 ≠ g
theorem DB.hg {W u : World} {r0 g q : Nat} {a : Option Addr} {cap : Nat} {zs : List Int} {k : Nat} {b : Bool} {kd id s m t n : Int} {ax : Option Addr} {N cx : Nat} {y : Bool} {pa : Option Addr} {M pc : Nat} (h : DB W u r0 g q a cap zs k b kd id s m t n ax N cx y pa M pc) : g < W.heap.size := lt_of_cell h.base.c0
theorem DB.turn {W u u' : World} {r0 g q : Nat} {a : Option Addr} {cap : Nat} {zs : List Int} {k k' : Nat} {b b' : Bool} {kd id s m t n : Int} {ax : Option Addr} {N cx : Nat} {y : Bool} {pa : Option Addr} {M pc : Nat} (h : DB W u r0 g q a cap zs k b kd id s m t n ax N cx y pa M pc) (hc : Chg u u' (fun j => j = g)) (hl : Rd u' g a cap zs k' b') : DB W u' r0 g q a cap zs k' b' kd id s m t n ax N cx y pa M pc := by
  have h1 := h.hq
  have h2 := h.hg
  have h3 := h.ne
  have b1 := hc.block q h.box.lt (by omega)
  have b2 := hc.block r0 h.res.lt (by omega)
  exact ⟨hl, h.base, h.chg.trans hc (fun _ _ x => x), h.box.kept b1, fun i => (cell_of_block b1 i).2.trans (h.free i), h.res.kept b2, fun i => (cell_of_block b2 i).2.trans (h.rfree i), h.hq, h.hr, h.ne⟩
theorem DB.past {W u u' : World} {r0 g q : Nat} {a : Option Addr} {cap : Nat} {zs : List Int} {k : Nat} {b : Bool} {kd id s m t n : Int} {ax : Option Addr} {N cx : Nat} {y : Bool} {pa : Option Addr} {M pc : Nat} (h : DB W u r0 g q a cap zs k b kd id s m t n ax N cx y pa M pc) (hb : Below u.heap.size u u') : DB W u' r0 g q a cap zs k b kd id s m t n ax N cx y pa M pc := h.turn (Chg.of_below hb _) (h.rd.past hb)
/-- Blocks turn that are neither the reader's, nor the answer's, nor there when the reader was made. -/
theorem DB.set {W u u' : World} {r0 g q : Nat} {a : Option Addr} {cap : Nat} {zs : List Int} {k : Nat} {b : Bool} {kd id s m t n : Int} {ax : Option Addr} {N cx : Nat} {y : Bool} {pa : Option Addr} {M pc : Nat} {kd' id' s' m' t' n' : Int} {ax' : Option Addr} {N' cx' : Nat} {y' : Bool} {pa' : Option Addr} {M' pc' : Nat} {X : Foot} (h : DB W u r0 g q a cap zs k b kd id s m t n ax N cx y pa M pc) (hc : Chg u u' X) (hX : ∀ j, X j → W.heap.size ≤ j) (hf : ∀ i, u'.frozen? ⟨q, i, none⟩ = u.frozen? ⟨q, i, none⟩) (hb : RBox u' q kd' id' s' m' t' n' ax' N' cx' y' pa' M' pc') : DB W u' r0 g q a cap zs k b kd' id' s' m' t' n' ax' N' cx' y' pa' M' pc' := by
  have h1 := h.hq
  have h2 := h.hg
  have h3 := h.hr
  have hs := h.chg.size
  have b2 := hc.block r0 h.res.lt (fun e => by have := hX r0 e; omega)
  have b3 := hc.block g (by omega) (fun e => by have := hX g e; omega)
  have hw : Chg W u' (fun j => j = g) := h.chg.trans hc (fun j hj e => by have := hX j e; omega)
  exact ⟨h.base.as hw h.rd b3, h.base, hw, hb, fun i => (hf i).trans (h.free i), h.res.kept b2, fun i => (cell_of_block b2 i).2.trans (h.rfree i), h.hq, h.hr, h.ne⟩
theorem DB.set2 {W u : World} {r0 g q : Nat} {a : Option Addr} {cap : Nat} {zs : List Int} {k : Nat} {b : Bool} {kd id s m t n : Int} {ax : Option Addr} {N cx : Nat} {y : Bool} {pa : Option Addr} {M pc : Nat} (h : DB W u r0 g q a cap zs k b kd id s m t n ax N cx y pa M pc) (x z : Int) : DB W ((u.setCell ⟨q, 2, none⟩ (.int .i64 x)).setCell ⟨q, 3, none⟩ (.int .u8 z)) r0 g q a cap zs k b kd id x z t n ax N cx y pa M pc :=
  h.set ((Chg.set (X := fun j => j = q) u ⟨q, 2, none⟩ _ rfl).trans (Chg.set (X := fun j => j = q) _ ⟨q, 3, none⟩ _ rfl) (fun _ _ x => x)) (fun j e => by have := h.hq; omega) (fun i => by simp only [World.frozen?_setCell]) (h.box.set2 x z)
theorem DB.set4 {W u : World} {r0 g q : Nat} {a : Option Addr} {cap : Nat} {zs : List Int} {k : Nat} {b : Bool} {kd id s m t n : Int} {ax : Option Addr} {N cx : Nat} {y : Bool} {pa : Option Addr} {M pc : Nat} (h : DB W u r0 g q a cap zs k b kd id s m t n ax N cx y pa M pc) (x z : Int) : DB W ((u.setCell ⟨q, 4, none⟩ (.int .i64 x)).setCell ⟨q, 5, none⟩ (.int .u8 z)) r0 g q a cap zs k b kd id s m x z ax N cx y pa M pc :=
  h.set ((Chg.set (X := fun j => j = q) u ⟨q, 4, none⟩ _ rfl).trans (Chg.set (X := fun j => j = q) _ ⟨q, 5, none⟩ _ rfl) (fun _ _ x => x)) (fun j e => by have := h.hq; omega) (fun i => by simp only [World.frozen?_setCell]) (h.box.set4 x z)
theorem DB.set6 {W u : World} {r0 g q : Nat} {a : Option Addr} {cap : Nat} {zs : List Int} {k : Nat} {b : Bool} {kd id s m t n : Int} {ax : Option Addr} {N cx : Nat} {y : Bool} {pa : Option Addr} {M pc : Nat} (h : DB W u r0 g q a cap zs k b kd id s m t n ax N cx y pa M pc) (a' : Option Addr) (N' c' : Nat) : DB W (u.setCell ⟨q, 6, none⟩ (.slice a' N' c')) r0 g q a cap zs k b kd id s m t n a' N' c' y pa M pc :=
  h.set (Chg.set (X := fun j => j = q) u ⟨q, 6, none⟩ _ rfl) (fun j e => by have := h.hq; omega) (fun i => by simp only [World.frozen?_setCell]) (h.box.set6 a' N' c')
theorem DB.set7 {W u : World} {r0 g q : Nat} {a : Option Addr} {cap : Nat} {zs : List Int} {k : Nat} {b : Bool} {kd id s m t n : Int} {ax : Option Addr} {N cx : Nat} {y : Bool} {pa : Option Addr} {M pc : Nat} (h : DB W u r0 g q a cap zs k b kd id s m t n ax N cx y pa M pc) (x : Bool) : DB W (u.setCell ⟨q, 7, none⟩ (.bool x)) r0 g q a cap zs k b kd id s m t n ax N cx x pa M pc :=
  h.set (Chg.set (X := fun j => j = q) u ⟨q, 7, none⟩ _ rfl) (fun j e => by have := h.hq; omega) (fun i => by simp only [World.frozen?_setCell]) (h.box.set7 x)
theorem DB.set8 {W u : World} {r0 g q : Nat} {a : Option Addr} {cap : Nat} {zs : List Int} {k : Nat} {b : Bool} {kd id s m t n : Int} {ax : Option Addr} {N cx : Nat} {y : Bool} {pa : Option Addr} {M pc : Nat} (h : DB W u r0 g q a cap zs k b kd id s m t n ax N cx y pa M pc) (a' : Option Addr) (N' c' : Nat) : DB W (u.setCell ⟨q, 8, none⟩ (.slice a' N' c')) r0 g q a cap zs k b kd id s m t n ax N cx y a' N' c' :=
  h.set (Chg.set (X := fun j => j = q) u ⟨q, 8, none⟩ _ rfl) (fun j e => by have := h.hq; omega) (fun i => by simp only [World.frozen?_setCell]) (h.box.set8 a' N' c')
theorem DB.made {W w2 : World} {r0 g : Nat} {a : Option Addr} {cap : Nat} {zs : List Int} {k : Nat} {b : Bool} (T : TypeId) (kd id : Int) (hb : Rd W g a cap zs 0 false) (hres : RBox W r0 0 0 0 0 0 0 none 0 0 false none 0 0) (hfr : ∀ i, W.frozen? ⟨r0, i, none⟩ = false) (hne : r0 ≠ g) (R : Rd w2 g a cap zs k b) (C : Chg W w2 (fun j => j = g)) :
    DB W (w2.alloc (.cells #[.int .i64 kd, .int .i64 id, .int .i64 0, .int .u8 0, .int .i64 0, .int .u8 0, .slice none 0 0, .bool false, .slice none 0 0] T)) r0 g w2.heap.size a cap zs k b kd id 0 0 0 0 none 0 0 false none 0 0 := by
  have ba : Below w2.heap.size w2 (w2.alloc (.cells #[.int .i64 kd, .int .i64 id, .int .i64 0, .int .u8 0, .int .i64 0, .int .u8 0, .slice none 0 0, .bool false, .slice none 0 0] T)) := (Below.refl _ _).alloc (Nat.le_refl _) _
  have hs := C.size
  have hr := hres.lt
  have bk := C.block r0 hr hne
  refine ⟨R.past ba, hb, C.trans (Chg.of_below ba _) (fun _ _ x => x), RBox.made w2 T kd id 0 0 0 0 none 0 0 false none 0 0, fun i => World.frozen?_alloc_new _ _ _ _, (hres.kept bk).past ba, fun i => ?_, hs, hr, hne⟩
  rw [ba.frozen (p := ⟨r0, i, none⟩) (show r0 < w2.heap.size by omega), (cell_of_block bk i).2]
  exact hfr i
theorem info_rrcd : (Try.prog.info? 43).map (·.size) = some 9 := by kernel_rfl
theorem results_rrcd2 {fn : Func} {c d : Tmp} (h : fn.results = #[.cell c 43, .tmp d]) (tmps : Array Value) (w : World) (b : Nat) (kd id s m t n : Int) (a : Option Addr) (N cp : Nat) (y : Bool) (pa : Option Addr) (M pc : Nat) (v : Value) (hp : tmps.getD c undef = .pointer (some ⟨b, 0, none⟩)) (hv : tmps.getD d undef = v) (hb : RBox w b kd id s m t n a N cp y pa M pc) :
    (results fn tmps).run Try.prog w = .ok (.tuple #[.agg #[.int .i64 kd, .int .i64 id, .int .i64 s, .int .u8 m, .int .i64 t, .int .u8 n, .slice a N cp, .bool y, .slice pa M pc], v]) w := by
  obtain ⟨c0, c1, c2, c3, c4, c5, c6, c7, c8⟩ := hb
  have hl := run_loadVar_mid (P := Try.prog) w b 0 43 [.int .i64 kd, .int .i64 id, .int .i64 s, .int .u8 m, .int .i64 t, .int .u8 n, .slice a N cp, .bool y, .slice pa M pc] _ (fun j v hv => by
    have hj : j = 0 ∨ j = 1 ∨ j = 2 ∨ j = 3 ∨ j = 4 ∨ j = 5 ∨ j = 6 ∨ j = 7 ∨ j = 8 := by
      have := (List.getElem?_eq_some_iff.1 hv).1
      simp at this; omega
    rw [Nat.zero_add]
    rcases hj with rfl | rfl | rfl | rfl | rfl | rfl | rfl | rfl | rfl <;> (injection hv with hv; rw [← hv]; assumption)) Try.underlying43 rfl (by rw [info_rrcd]; rfl)
  unfold results
  rw [h]
  simp only [List.mapM_toArray, List.mapM_cons, List.mapM_nil, hp, hv]
  simp [asAddr, hl]
theorem step_append_chg {t e : TypeId} {size bytes : Nat} (E : ElT t e size bytes) {B : Nat} {w : World} {ops : Array Oper} {o : Oper} {a : Act} {K : Act → World → Prop} {Q : Exit → Act → World → Prop} {D : Prop} (hgd : o.guard = none) (s x : Operand)
    (ho : o.op = .call { callee := .builtin .append, args := #[s, x], argTypes := #[t, t] }) (hB : B ≤ w.heap.size)
    (v : Value) (n : Nat) (xs news : List Value) (hs : a.eval s = v) (hown : w.ownsRow B e size v n xs) (ao : Option Addr) (m c : Nat) (hx : a.eval x = .slice ao m c) (hl : news.length = m * size) (hsrc : Lies w ao news) (h1 : ∀ u ∈ news, u.oneCell' = true) (hnil : ao = none → m = 0 ∧ c = 0) (hn : n + m ≤ 1000000)
    (h : ∀ a' cap' w', w'.ownsRow B e size (.slice a' (n + m) cap') (n + m) (xs ++ news) → Chg w w' (fun j => B ≤ j) → K (a.put o.dst (.slice a' (n + m) cap')) w') :
    if Region.wanted o (yielded ops a.tmps) = true then Oper.wp Try.prog o a w K Q else D := by
  have hw : Region.wanted o (yielded ops a.tmps) = true := by simp [Region.wanted, hgd]
  rw [if_pos hw]
  obtain ⟨a', cap', w', hrun, h2, h3⟩ := run_append_els E w B v n xs hown ao m c news hl hsrc h1 hnil hn hB o.type
  unfold Oper.wp
  simp [execOp, ho, resolve, invoke, builtin, hs, hx, hrun, Result.andThen]
  exact h a' cap' w' h2 (Chg.of_grown h3 (fun k hk => (hown.lt k hk).1))
/-- What is read in all, and what is answered of it. -/
theorem dget_end {zs : List Int} {k : Nat} {b : Bool} {r : Rcd} (h : Rds recP (some zs) (stR zs k b) r) : (stR zs k b = some [] → recP zs = some (r, [])) ∧ (stR zs k b ≠ some [] → getR zs = none) := by
  rcases h.cases with ⟨e1, e2⟩ | ⟨s, e1, e2⟩
  · refine ⟨fun e => by rw [e] at e2; simp at e2, fun _ => ?_⟩
    unfold getR; rw [e1]
  · refine ⟨fun e => ?_, fun e => ?_⟩
    · rw [e] at e2
      injection e2 with e2
      rw [e1, ← e2]
    · unfold getR
      rw [e1]
      cases s with
      | nil => exact absurd e2 e
      | cons z r => rfl
end Go.Proofs.Ytmiafadmcpmjgaa

namespace Go.Proofs.Ytmiafadmcpmjgaa
open Go.RowKit
set_option linter.unusedVariables false
set_option linter.unusedSimpArgs false

theorem RcW.over {u u' : World} {x : RcM} {X : Foot} {B : Nat} (h : RcW u x) (hc : Chg u u' X) (hX : ∀ j, X j → j < B) (hl : x.r.l ≠ [] → ∀ b o, x.a = some ⟨b, o, none⟩ → B ≤ b) (hp : x.r.ps ≠ [] → ∀ b o, x.pa = some ⟨b, o, none⟩ → B ≤ b) : RcW u' x :=
  ⟨wrts_over h.wr hc hX hl, h.room, h.few, ints_over h.ps hc hX hp, h.proom, h.pfew, h.kd, h.ok⟩
/-- A record that was read, and where its lists lie. -/
structure RcF (W u : World) (x : RcM) : Prop where
  rc : RcW u x
  farl : x.r.l ≠ [] → ∀ b o, x.a = some ⟨b, o, none⟩ → W.heap.size ≤ b
  farp : x.r.ps ≠ [] → ∀ b o, x.pa = some ⟨b, o, none⟩ → W.heap.size ≤ b
theorem RcF.past {W u u' : World} {x : RcM} (h : RcF W u x) (hb : Below u.heap.size u u') : RcF W u' x := ⟨h.rc.past hb, h.farl, h.farp⟩
theorem rc_none' (w : World) (kd id s m t n : Int) (y : Bool) (hk : -9223372036854775808 ≤ kd ∧ kd ≤ 9223372036854775807) (hi : -9223372036854775808 ≤ id ∧ id ≤ 9223372036854775807) (hm : 0 ≤ m ∧ m ≤ 255) (hn : 0 ≤ n ∧ n ≤ 255) : RcW w ⟨⟨kd, id, s, m, t, n, [], y, []⟩, none, 0, none, 0⟩ :=
  ⟨WrtsAt.none _ _, Nat.zero_le _, Nat.zero_le _, IntsAt.none _ _, Nat.zero_le _, Nat.zero_le _, hk, ⟨hi.1, hi.2, hm.1, hm.2, hn.1, hn.2, fun W hW => by simp at hW, fun W hW => by simp at hW⟩⟩
theorem RcF.none (W u : World) (kd id t n : Int) (hk : 0 ≤ kd ∧ kd ≤ 5) (hi : -9223372036854775808 ≤ id ∧ id ≤ 9223372036854775807) (hn : 0 ≤ n ∧ n ≤ 255) : RcF W u ⟨⟨kd, id, 0, 0, t, n, [], false, []⟩, Option.none, 0, Option.none, 0⟩ :=
  ⟨rc_none' u kd id 0 0 t n false (by omega) hi (by omega) hn, fun h => absurd rfl h, fun h => absurd rfl h⟩
theorem of_not_true {b : Bool} (h : (!b) = true) : b = false := by cases b <;> simp_all
theorem of_not_false {b : Bool} (h : (!b) = false) : b = true := by cases b <;> simp_all
/-- What the rounds of kind 4 hold. -/
structure PGd (W wr : World) (r0 g q : Nat) (a : Option Addr) (cap : Nat) (zs : List Int) (kd id t n : Int) (y : Bool) (o0 : Option (List Int)) (N m : Nat) : Prop where
  ex : ∃ (k : Nat) (b : Bool) (ax : Option Addr) (cx : Nat) (done : List Int), DB W wr r0 g q a cap zs k b kd id 0 0 t n none 0 0 y ax m cx ∧ wr.ownsRow (q + 1) 3 1 (.slice ax m cx) m (ivs done) ∧ (∀ z ∈ done, 0 ≤ z ∧ z ≤ 7) ∧ done.length = m ∧ ∀ o2 L, Rds (manyP (countP 7) (N - m)) (stR zs k b) o2 L → Rds (manyP (countP 7) N) o0 o2 (done ++ L)
theorem PGd.start {W wr : World} {r0 g q : Nat} {a : Option Addr} {cap : Nat} {zs : List Int} {k : Nat} {b : Bool} {kd id t n : Int} {y : Bool} (N : Nat) (h : DB W wr r0 g q a cap zs k b kd id 0 0 t n none 0 0 y none 0 0) : PGd W wr r0 g q a cap zs kd id t n y (stR zs k b) N 0 :=
  ⟨k, b, none, 0, [], h, ⟨rfl, .inl ⟨rfl, rfl⟩⟩, fun z hz => by simp at hz, rfl, fun o2 L h => h⟩
theorem PGd.next {W wr w3 w6 : World} {r0 g q : Nat} {a : Option Addr} {cap : Nat} {zs : List Int} {k k3 : Nat} {b b3 : Bool} {kd id t n v : Int} {y : Bool} {o0 : Option (List Int)} {N m : Nat} {ax ax6 : Option Addr} {cx cx6 : Nat} {done : List Int} (h : DB W wr r0 g q a cap zs k b kd id 0 0 t n none 0 0 y ax m cx) (bds : ∀ z ∈ done, 0 ≤ z ∧ z ≤ 7) (dl : done.length = m) (fn : ∀ o2 L, Rds (manyP (countP 7) (N - m)) (stR zs k b) o2 L → Rds (manyP (countP 7) N) o0 o2 (done ++ L)) (hlt : m < N) (v0 : 0 ≤ v) (v1 : v ≤ 7) (R3 : Rd w3 g a cap zs k3 b3) (C3 : Chg wr w3 (fun j => j = g)) (D3 : Rds (countP 7) (stR zs k b) (stR zs k3 b3) v) (o6 : w6.ownsRow (q + 1) 3 1 (.slice ax6 (m + 1) cx6) (m + 1) (ivs done ++ [.int .i64 v])) (c6 : Chg (w3.alloc (.cells #[.int .i64 v] 3)) w6 (fun j => q + 1 ≤ j)) :
    PGd W (w6.setCell ⟨q, 8, none⟩ (.slice ax6 (m + 1) cx6)) r0 g q a cap zs kd id t n y o0 N (m + 1) := by
  have ba : Below w3.heap.size w3 (w3.alloc (.cells #[.int .i64 v] 3)) := (Below.refl _ _).alloc (Nat.le_refl _) _
  have h3 := (h.turn C3 R3).past ba
  have hq := h.hq
  have bk := c6.block q h3.box.lt (by omega)
  have hbx := (h3.box.kept bk).set8 ax6 (m + 1) cx6
  have cc : Chg (w3.alloc (.cells #[.int .i64 v] 3)) (w6.setCell ⟨q, 8, none⟩ (.slice ax6 (m + 1) cx6)) (fun j => q ≤ j) := (c6.mono (Y := fun j => q ≤ j) (fun k _ e => by omega)).trans (Chg.set (X := fun j => q ≤ j) w6 ⟨q, 8, none⟩ _ (Nat.le_refl q)) (fun _ _ x => x)
  have h6 := h3.set cc (fun j e => by omega) (fun i => by rw [World.frozen?_setCell]; exact (cell_of_block bk i).2) hbx
  refine ⟨k3, b3, ax6, cx6, done ++ [v], h6, ?_, fun z hz => ?_, by simp [dl], fun o2 L h2 => ?_⟩
  · rw [ivs_app]
    exact owns_stay o6 (fun r h1 h2 => (Chg.set (X := fun j => j = q) w6 ⟨q, 8, none⟩ _ rfl).block r h2 (by omega))
  · rcases List.mem_append.1 hz with e | e
    · exact bds z e
    · simp at e; rw [e]; exact ⟨v0, v1⟩
  · have e : N - m = (N - (m + 1)) + 1 := by omega
    rw [List.append_assoc]
    refine fn o2 _ ?_
    rw [e]
    exact many_seq D3 h2
theorem below_fin {w u : World} (hb : Below w.heap.size w u) (vs : List Value) : Below w.heap.size w (u.setCells w.heap.size 0 vs) :=
  hb.trans (((chg_cells w.heap.size vs 0 u).mono (Y := fun j => w.heap.size ≤ j) (fun k _ e => by omega)).below hb.size (fun k e => e))
theorem rcf_fin {W u : World} {x : RcM} {r0 : Nat} (h : RcF W u x) (hr : r0 < W.heap.size) (vs : List Value) : RcW (u.setCells r0 0 vs) x :=
  h.rc.over (chg_cells r0 vs 0 u) (B := W.heap.size) (fun j e => by omega) h.farl h.farp
theorem wrc_made {W v : World} {q : Nat} {kd id t4 n4 t5 n5 : Int} {ax : Option Addr} {N cx : Nat} {l : List Wrt} (hk : 0 ≤ kd ∧ kd ≤ 5) (hi : -9223372036854775808 ≤ id ∧ id ≤ 9223372036854775807) (h4 : 0 ≤ n4 ∧ n4 ≤ 255) (h5 : 0 ≤ n5 ∧ n5 ≤ 255) (hN : l.length = N) (h16 : N ≤ 16) (hcx : N ≤ cx) (hat : WrtsAt v ax l) (hfar : l ≠ [] → ∀ b o, ax = some ⟨b, o, none⟩ → q + 1 ≤ b) (hq : W.heap.size ≤ q) :
    RcF W (v.setCell ⟨q, 6, none⟩ (.slice ax N cx)) ⟨⟨kd, id, t4, n4, t5, n5, l, false, []⟩, ax, cx, none, 0⟩ := by
  have hwa := wrts_over (B := q + 1) hat (Chg.set (X := fun j => j = q) v ⟨q, 6, none⟩ (.slice ax N cx) rfl) (fun j e => by omega) hfar
  exact ⟨⟨hwa, by show l.length ≤ cx; omega, by show l.length ≤ 1000; omega, IntsAt.none _ _, Nat.zero_le _, Nat.zero_le _, ⟨by show -9223372036854775808 ≤ kd; omega, by show kd ≤ 9223372036854775807; omega⟩, ⟨hi.1, hi.2, h4.1, h4.2, h5.1, h5.2, fun W hW => (hat.oks W hW).key, fun W hW => (hat.oks W hW).val⟩⟩, fun x b o e => by have := hfar x b o e; omega, fun h => absurd rfl h⟩
theorem drewN_below {u v : World} (h : ∃ q, v = u.drewN q) : Below u.heap.size u v := by
  obtain ⟨q, rfl⟩ := h
  exact below_dN (Below.refl _ _) q
end Go.Proofs.Ytmiafadmcpmjgaa

namespace Go.Proofs.Ytmiafadmcpmjgaa
open Go.RowKit
set_option linter.unusedVariables false
set_option linter.unusedSimpArgs false

set_option maxHeartbeats 16000000 in
set_option maxRecDepth 8000 in
theorem rGet_any (a : Option Addr) (cap len : Nat) (zs : List Int) (w : World) (hr : Row w a zs) (hl : zs.length = len) (hc : len ≤ cap) (hm : len ≤ 1000000) :
    Calls Try.prog 15 #[.slice a len cap] w fun e w' => ∃ (x : RcM) (ok : Bool), e = .returned (.tuple #[rcv x, .bool ok]) ∧ RcW w' x ∧ ((getR zs = some x.r ∧ ok = true) ∨ (getR zs = Option.none ∧ ok = false ∧ x = zeroM)) ∧ Below w.heap.size w w' := by
  obtain ⟨W, hW⟩ : ∃ W, W = (w.alloc (.cells #[.int .i64 0, .int .i64 0, .int .i64 0, .int .u8 0, .int .i64 0, .int .u8 0, .slice none 0 0, .bool false, .slice none 0 0] 43)).alloc (.cells #[.slice a len cap, .int .i64 0, .bool false] 80) := ⟨_, rfl⟩
  have HW : Hid ((w.alloc (.cells #[.int .i64 0, .int .i64 0, .int .i64 0, .int .u8 0, .int .i64 0, .int .u8 0, .slice none 0 0, .bool false, .slice none 0 0] 43)).alloc (.cells #[.slice a len cap, .int .i64 0, .bool false] 80) = W) := hW.symm
  have hWs : W.heap.size = w.heap.size + 2 := by rw [hW]; simp
  have hb0 : Below w.heap.size w W := by rw [hW]; exact ((Below.refl _ _).alloc (Nat.le_refl _) _).alloc (by simp) _
  have hres : RBox W w.heap.size 0 0 0 0 0 0 none 0 0 false none 0 0 := by rw [hW]; exact (RBox.made w 43 0 0 0 0 0 0 none 0 0 false none 0 0).past ((Below.refl _ _).alloc (Nat.le_refl _) _)
  have hfr : ∀ i, W.frozen? ⟨w.heap.size, i, none⟩ = false := fun i => by
    rw [hW, ((Below.refl (w.alloc (.cells #[.int .i64 0, .int .i64 0, .int .i64 0, .int .u8 0, .int .i64 0, .int .u8 0, .slice none 0 0, .bool false, .slice none 0 0] 43)).heap.size (w.alloc (.cells #[.int .i64 0, .int .i64 0, .int .i64 0, .int .u8 0, .int .i64 0, .int .u8 0, .slice none 0 0, .bool false, .slice none 0 0] 43))).alloc (Nat.le_refl _) (.cells #[.slice a len cap, .int .i64 0, .bool false] 80)).frozen (p := ⟨w.heap.size, i, none⟩) (by simp)]
    exact World.frozen?_alloc_new _ _ _ _
  have hrd : Rd W (w.heap.size + 1) a cap zs 0 false := by
    rw [hW]
    have := Rd.made (w.alloc (.cells #[.int .i64 0, .int .i64 0, .int .i64 0, .int .u8 0, .int .i64 0, .int .u8 0, .slice none 0 0, .bool false, .slice none 0 0] 43)) 80 (hr.below ((Below.refl _ _).alloc (Nat.le_refl _) _) (Nat.le_refl _)) (by rw [hl]; exact hc) (by omega)
    rw [hl, World.size_alloc] at this
    exact this
  have HRD : Hid (Rd W (w.heap.size + 1) a cap zs 0 false) := hrd
  have HRES : Hid (RBox W w.heap.size 0 0 0 0 0 0 none 0 0 false none 0 0 ∧ ∀ i, W.frozen? ⟨w.heap.size, i, none⟩ = false) := ⟨hres, hfr⟩
  have HB0 : Hid (Below w.heap.size w W ∧ W.heap.size = w.heap.size + 2) := ⟨hb0, hWs⟩
  have HBW : Hid (∀ u, Chg W u (fun j => j = w.heap.size + 1) → Below w.heap.size w u) := fun u hu => hb0.trans ((hu.mono (Y := fun j => w.heap.size ≤ j) (fun k _ e => by omega)).below (by omega) (fun k e => e))
  clear hr hl hc hm hW hWs hb0 hres hfr hrd
  go_enter Try.func15, Try.ntmps15
  go_wp2_with (first
    | (have hgo := S2.out; clear hgo; go_at_call 43; refine (rzag_any v _ v0 v1).mono ?_; rintro e w2' ⟨rfl, hw2⟩; obtain rfl : w2 = w2' := hw2.symm; obtain ⟨id, hid⟩ : ∃ id, id = Pl.zagI v := ⟨_, rfl⟩; rw [← hid]; have HID : Hid (id = Pl.zagI v) := hid; have HIB : Hid (-9223372036854775808 ≤ id ∧ id ≤ 9223372036854775807) := (by rw [hid]; exact Pl.zag_bd v v0 v1); have G3 : Hid (DB W (w2.alloc (.cells #[.int .i64 kd, .int .i64 id, .int .i64 0, .int .u8 0, .int .i64 0, .int .u8 0, .slice none 0 0, .bool false, .slice none 0 0] 43)) w.heap.size (w.heap.size + 1) w2.heap.size a cap zs k2 b2 kd id 0 0 0 0 none 0 0 false none 0 0) := DB.made 43 kd id HRD.out HRES.out.1 HRES.out.2 (by omega) S2.out.1 S2.out.2.1; clear hw2 hid)
    | (have hgo := S1.out; clear hgo; go_at_call 44; refine (rrnum_any _ a cap zs k1 b1 _ S1.out.1).mono ?_; rintro e w2 ⟨v, k2, b2, rfl, v0, v1, R2, C2, D2⟩; have S2 : Hid (Rd w2 (w.heap.size + 1) a cap zs k2 b2 ∧ Chg W w2 (fun j => j = w.heap.size + 1) ∧ Rds numP (stR zs k1 b1) (stR zs k2 b2) v) := ⟨R2, S1.out.2.1.trans C2 (fun _ _ x => x), D2⟩; clear R2 C2 D2)
    | (have hgo := HRD.out; clear hgo; go_at_call 42; rw [HW.out]; refine (rcount14_any _ a cap zs 0 false _ 5 (by omega) (by omega) HRD.out).mono ?_; rintro e w1 ⟨kd, k1, b1, rfl, kd0, kd1, R1, C1, D1⟩; have S1 : Hid (Rd w1 (w.heap.size + 1) a cap zs k1 b1 ∧ Chg W w1 (fun j => j = w.heap.size + 1) ∧ Rds (countP 5) (some zs) (stR zs k1 b1) kd ∧ (0 ≤ kd ∧ kd ≤ 5)) := ⟨R1, C1, D1, ⟨kd0, kd1⟩⟩; clear R1 C1 D1))
  · have HKD : Hid (kd = 1) := eq_of_beq (by assumption)
    have HK : Hid (0 ≤ kd ∧ kd ≤ 5) := S1.out.2.2.2
    have HD1 : Hid (Rds (countP 5) (some zs) (stR zs k1 b1) kd) := S1.out.2.2.1
    have HD2 : Hid (Rds numP (stR zs k1 b1) (stR zs k2 b2) v) := S2.out.2.2
    clear S1 S2
    go_wp2_with (first
      | (have hgo := GE.out; clear hgo; go_at_call 20; refine CG.out.mono ?_; rintro e vG ⟨rfl, hb⟩; have GF : Hid (DB W vG w.heap.size (w.heap.size + 1) w2.heap.size a cap zs k6 b6 kd id t4 n4 t5 n5 ax N cx false none 0 0 ∧ RcF W vG ⟨⟨kd, id, t4, n4, t5, n5, l, false, []⟩, ax, cx, none, 0⟩) := ⟨GE.out.1.past hb, GE.out.2.past hb⟩; obtain ⟨gg0, gg1, gg2, gg3, gg4, gg5, gg6, gg7, gg8⟩ := GF.out.1.box; obtain ⟨rgg0, rgg1, rgg2, rgg3, rgg4, rgg5, rgg6, rgg7, rgg8⟩ := GF.out.1.res; have tgg0 := GF.out.1.rfree 0; have tgg1 := GF.out.1.rfree 1; have tgg2 := GF.out.1.rfree 2; have tgg3 := GF.out.1.rfree 3; have tgg4 := GF.out.1.rfree 4; have tgg5 := GF.out.1.rfree 5; have tgg6 := GF.out.1.rfree 6; have tgg7 := GF.out.1.rfree 7; have tgg8 := GF.out.1.rfree 8; clear hb ee0 ee1 ee2 ee3 ee4 ee5 ee6 ee7 ee8 ree0 ree1 ree2 ree3 ree4 ree5 ree6 ree7 ree8 tee0 tee1 tee2 tee3 tee4 tee5 tee6 tee7 tee8)
      | (have hgo := G9.out; clear hgo; go_at_call 48; refine (rrend_any _ a cap zs k6 b6 _ G9.out.rd).mono ?_; rintro e vE ⟨rfl, hE⟩; have hBE := drewN_below hE; have GE : Hid (DB W vE w.heap.size (w.heap.size + 1) w2.heap.size a cap zs k6 b6 kd id t4 n4 t5 n5 ax N cx false none 0 0 ∧ RcF W vE ⟨⟨kd, id, t4, n4, t5, n5, l, false, []⟩, ax, cx, none, 0⟩) := ⟨G9.out.past hBE, RC.out.past hBE⟩; obtain ⟨en, hen⟩ : ∃ en, en = decide (stR zs k6 b6 = some []) := ⟨_, rfl⟩; rw [← hen]; have HEN : Hid (en = decide (stR zs k6 b6 = some [])) := hen; obtain ⟨ee0, ee1, ee2, ee3, ee4, ee5, ee6, ee7, ee8⟩ := GE.out.1.box; obtain ⟨ree0, ree1, ree2, ree3, ree4, ree5, ree6, ree7, ree8⟩ := GE.out.1.res; have tee0 := GE.out.1.rfree 0; have tee1 := GE.out.1.rfree 1; have tee2 := GE.out.1.rfree 2; have tee3 := GE.out.1.rfree 3; have tee4 := GE.out.1.rfree 4; have tee5 := GE.out.1.rfree 5; have tee6 := GE.out.1.rfree 6; have tee7 := GE.out.1.rfree 7; have tee8 := GE.out.1.rfree 8; have CG : Hid (Calls Try.prog 20 #[.agg #[.int .i64 kd, .int .i64 id, .int .i64 t4, .int .u8 n4, .int .i64 t5, .int .u8 n5, .slice ax N cx, .bool false, .slice none 0 0]] vE fun e w' => e = .returned (.bool (goodR ⟨kd, id, t4, n4, t5, n5, l, false, []⟩)) ∧ Below vE.heap.size vE w') := (by have h := rgood14_any ⟨⟨kd, id, t4, n4, t5, n5, l, false, []⟩, ax, cx, none, 0⟩ vE GE.out.2.rc; unfold rcv encR at h; simp only [HNL.out, List.length_nil] at h; exact h); obtain ⟨gr, hgr⟩ : ∃ gr, gr = goodR ⟨kd, id, t4, n4, t5, n5, l, false, []⟩ := ⟨_, rfl⟩; rw [← hgr] at CG; have HGR : Hid (gr = goodR ⟨kd, id, t4, n4, t5, n5, l, false, []⟩) := hgr; clear hE hBE hen hgr)
      | (have hgo := G7.out; clear hgo; go_at_call 46; refine (rwrites14_any _ a cap zs k5 b5 _ G7.out.rd).mono ?_; rintro e v6 ⟨ax, N, cx, l, rfl, hN, h16, hcx, hat, hfar, ⟨k6, b6, R6, C6, D6⟩⟩; have G8 : Hid (DB W v6 w.heap.size (w.heap.size + 1) w2.heap.size a cap zs k6 b6 kd id t4 n4 t5 n5 none 0 0 false none 0 0) := G7.out.turn C6 R6; have G9 : Hid (DB W (v6.setCell ⟨w2.heap.size, 6, none⟩ (.slice ax N cx)) w.heap.size (w.heap.size + 1) w2.heap.size a cap zs k6 b6 kd id t4 n4 t5 n5 ax N cx false none 0 0) := G8.out.set6 ax N cx; have y6_6 := G8.out.box.c6; have fy6_6 := G8.out.free 6; have HNL : Hid (l.length = N) := hN; have RC : Hid (RcF W (v6.setCell ⟨w2.heap.size, 6, none⟩ (.slice ax N cx)) ⟨⟨kd, id, t4, n4, t5, n5, l, false, []⟩, ax, cx, none, 0⟩) := wrc_made HK.out HIB.out ⟨nl4, nh4⟩ ⟨nl5, nh5⟩ hN h16 hcx hat (fun x b o e => Nat.le_trans G7.out.box.lt (hfar x b o e)) G7.out.hq; have HD_6 : Hid (Rds writesP (stR zs k5 b5) (stR zs k6 b6) l) := D6; clear R6 C6 D6 G7 G8 hN h16 hcx hat hfar)
      | (have hgo := G5.out; clear hgo; go_at_call 45; refine (rstamp14_any _ a cap zs k4 b4 _ G5.out.rd).mono ?_; rintro e v5 ⟨t5, n5, rfl, ok5, nl5, nh5, ⟨k5, b5, R5, C5, D5⟩⟩; have G6 : Hid (DB W v5 w.heap.size (w.heap.size + 1) w2.heap.size a cap zs k5 b5 kd id t4 n4 0 0 none 0 0 false none 0 0) := G5.out.turn C5 R5; have G7 : Hid (DB W ((v5.setCell ⟨w2.heap.size, 4, none⟩ (.int .i64 t5)).setCell ⟨w2.heap.size, 5, none⟩ (.int .u8 n5)) w.heap.size (w.heap.size + 1) w2.heap.size a cap zs k5 b5 kd id t4 n4 t5 n5 none 0 0 false none 0 0) := G6.out.set4 t5 n5; have y5_4 := G6.out.box.c4; have fy5_4 := G6.out.free 4; have y5_5 := G6.out.box.c5; have fy5_5 := G6.out.free 5; have HD_5 : Hid (Rds stampP (stR zs k4 b4) (stR zs k5 b5) (t5, n5)) := D5; clear R5 C5 D5 G5 G6)
      | (have hgo := G3.out; clear hgo; go_at_call 45; refine (rstamp14_any _ a cap zs k2 b2 _ G3.out.rd).mono ?_; rintro e v4 ⟨t4, n4, rfl, ok4, nl4, nh4, ⟨k4, b4, R4, C4, D4⟩⟩; have G4 : Hid (DB W v4 w.heap.size (w.heap.size + 1) w2.heap.size a cap zs k4 b4 kd id 0 0 0 0 none 0 0 false none 0 0) := G3.out.turn C4 R4; have G5 : Hid (DB W ((v4.setCell ⟨w2.heap.size, 2, none⟩ (.int .i64 t4)).setCell ⟨w2.heap.size, 3, none⟩ (.int .u8 n4)) w.heap.size (w.heap.size + 1) w2.heap.size a cap zs k4 b4 kd id t4 n4 0 0 none 0 0 false none 0 0) := G4.out.set2 t4 n4; have y4_2 := G4.out.box.c2; have fy4_2 := G4.out.free 2; have y4_3 := G4.out.box.c3; have fy4_3 := G4.out.free 3; have HD_4 : Hid (Rds stampP (stR zs k2 b2) (stR zs k4 b4) (t4, n4)) := D4; clear R4 C4 D4 G3 G4))
    · have RD : Rds recP (some zs) (stR zs k6 b6) ⟨kd, id, t4, n4, t5, n5, l, false, []⟩ := by
        refine HD1.out.seq (HD2.out.seq ?_)
        rw [← HID.out]
        unfold tailP
        rw [if_pos HKD.out]
        exact HD_4.out.seq (HD_5.out.seq (HD_6.out.seq (.ret _ _)))
      have he : en = true := by assumption
      have hg : gr = false := of_not_true (by assumption)
      have h1 := (dget_end RD).1 (of_decide_eq_true (by rw [← HEN.out]; exact he))
      have HBAD : getR zs = Option.none := by unfold getR; rw [h1]; simp only; rw [← HGR.out, hg]; rfl
      refine bodyPost_ret (results_rrcd2 rfl _ _ w.heap.size 0 0 0 0 0 0 none 0 0 false none 0 0 (.bool false) rfl rfl (GF.out.1.res.set9 0 0 0 0 0 0 none 0 0 false none 0 0)) rfl ?_
      exact ⟨zeroM, false, rfl, zeroM_w _, .inr ⟨HBAD, rfl, rfl⟩, below_fin (HBW.out _ GF.out.1.chg) [.int .i64 0, .int .i64 0, .int .i64 0, .int .u8 0, .int .i64 0, .int .u8 0, .slice none 0 0, .bool false, .slice none 0 0]⟩
    · have RD : Rds recP (some zs) (stR zs k6 b6) ⟨kd, id, t4, n4, t5, n5, l, false, []⟩ := by
        refine HD1.out.seq (HD2.out.seq ?_)
        rw [← HID.out]
        unfold tailP
        rw [if_pos HKD.out]
        exact HD_4.out.seq (HD_5.out.seq (HD_6.out.seq (.ret _ _)))
      have he : en = true := by assumption
      have hg : gr = true := of_not_false (by assumption)
      have h1 := (dget_end RD).1 (of_decide_eq_true (by rw [← HEN.out]; exact he))
      have HOK : getR zs = some ⟨kd, id, t4, n4, t5, n5, l, false, []⟩ := by unfold getR; rw [h1]; simp only; rw [← HGR.out, hg]; rfl
      refine bodyPost_ret (results_rrcd2 rfl _ _ w.heap.size kd id t4 n4 t5 n5 ax N cx false none 0 0 (.bool true) rfl rfl (GF.out.1.res.set9 kd id t4 n4 t5 n5 ax N cx false none 0 0)) rfl ?_
      refine ⟨⟨⟨kd, id, t4, n4, t5, n5, l, false, []⟩, ax, cx, none, 0⟩, true, ?_, rcf_fin GF.out.2 GF.out.1.hr [.int .i64 kd, .int .i64 id, .int .i64 t4, .int .u8 n4, .int .i64 t5, .int .u8 n5, .slice ax N cx, .bool false, .slice none 0 0], .inl ⟨HOK, rfl⟩, below_fin (HBW.out _ GF.out.1.chg) [.int .i64 kd, .int .i64 id, .int .i64 t4, .int .u8 n4, .int .i64 t5, .int .u8 n5, .slice ax N cx, .bool false, .slice none 0 0]⟩
      unfold rcv encR
      simp only [HNL.out, List.length_nil]
    · have RD : Rds recP (some zs) (stR zs k6 b6) ⟨kd, id, t4, n4, t5, n5, l, false, []⟩ := by
        refine HD1.out.seq (HD2.out.seq ?_)
        rw [← HID.out]
        unfold tailP
        rw [if_pos HKD.out]
        exact HD_4.out.seq (HD_5.out.seq (HD_6.out.seq (.ret _ _)))
      have he : en = false := Bool.eq_false_iff.2 (by assumption)
      have HBAD : getR zs = Option.none := (dget_end RD).2 (fun e => by have := HEN.out; rw [he, e] at this; simp at this)
      refine bodyPost_ret (results_rrcd2 rfl _ _ w.heap.size 0 0 0 0 0 0 none 0 0 false none 0 0 (.bool false) rfl rfl (GE.out.1.res.set9 0 0 0 0 0 0 none 0 0 false none 0 0)) rfl ?_
      exact ⟨zeroM, false, rfl, zeroM_w _, .inr ⟨HBAD, rfl, rfl⟩, below_fin (HBW.out _ GE.out.1.chg) [.int .i64 0, .int .i64 0, .int .i64 0, .int .u8 0, .int .i64 0, .int .u8 0, .slice none 0 0, .bool false, .slice none 0 0]⟩
  · have HKD : Hid (kd = 2) := eq_of_beq (by assumption)
    have HK : Hid (0 ≤ kd ∧ kd ≤ 5) := S1.out.2.2.2
    have HD1 : Hid (Rds (countP 5) (some zs) (stR zs k1 b1) kd) := S1.out.2.2.1
    have HD2 : Hid (Rds numP (stR zs k1 b1) (stR zs k2 b2) v) := S2.out.2.2
    clear S1 S2
    go_wp2_with (first
      | (have hgo := GE.out; clear hgo; go_at_call 20; refine CG.out.mono ?_; rintro e vG ⟨rfl, hb⟩; have GF : Hid (DB W vG w.heap.size (w.heap.size + 1) w2.heap.size a cap zs k4 b4 kd id 0 0 t4 n4 none 0 0 false none 0 0 ∧ RcF W vG ⟨⟨kd, id, 0, 0, t4, n4, [], false, []⟩, none, 0, none, 0⟩) := ⟨GE.out.1.past hb, GE.out.2.past hb⟩; obtain ⟨gg0, gg1, gg2, gg3, gg4, gg5, gg6, gg7, gg8⟩ := GF.out.1.box; obtain ⟨rgg0, rgg1, rgg2, rgg3, rgg4, rgg5, rgg6, rgg7, rgg8⟩ := GF.out.1.res; have tgg0 := GF.out.1.rfree 0; have tgg1 := GF.out.1.rfree 1; have tgg2 := GF.out.1.rfree 2; have tgg3 := GF.out.1.rfree 3; have tgg4 := GF.out.1.rfree 4; have tgg5 := GF.out.1.rfree 5; have tgg6 := GF.out.1.rfree 6; have tgg7 := GF.out.1.rfree 7; have tgg8 := GF.out.1.rfree 8; clear hb ee0 ee1 ee2 ee3 ee4 ee5 ee6 ee7 ee8 ree0 ree1 ree2 ree3 ree4 ree5 ree6 ree7 ree8 tee0 tee1 tee2 tee3 tee4 tee5 tee6 tee7 tee8)
      | (have hgo := G5.out; clear hgo; go_at_call 48; refine (rrend_any _ a cap zs k4 b4 _ G5.out.rd).mono ?_; rintro e vE ⟨rfl, hE⟩; have hBE := drewN_below hE; have GE : Hid (DB W vE w.heap.size (w.heap.size + 1) w2.heap.size a cap zs k4 b4 kd id 0 0 t4 n4 none 0 0 false none 0 0 ∧ RcF W vE ⟨⟨kd, id, 0, 0, t4, n4, [], false, []⟩, none, 0, none, 0⟩) := ⟨G5.out.past hBE, RC.out.past hBE⟩; obtain ⟨en, hen⟩ : ∃ en, en = decide (stR zs k4 b4 = some []) := ⟨_, rfl⟩; rw [← hen]; have HEN : Hid (en = decide (stR zs k4 b4 = some [])) := hen; obtain ⟨ee0, ee1, ee2, ee3, ee4, ee5, ee6, ee7, ee8⟩ := GE.out.1.box; obtain ⟨ree0, ree1, ree2, ree3, ree4, ree5, ree6, ree7, ree8⟩ := GE.out.1.res; have tee0 := GE.out.1.rfree 0; have tee1 := GE.out.1.rfree 1; have tee2 := GE.out.1.rfree 2; have tee3 := GE.out.1.rfree 3; have tee4 := GE.out.1.rfree 4; have tee5 := GE.out.1.rfree 5; have tee6 := GE.out.1.rfree 6; have tee7 := GE.out.1.rfree 7; have tee8 := GE.out.1.rfree 8; have CG : Hid (Calls Try.prog 20 #[.agg #[.int .i64 kd, .int .i64 id, .int .i64 0, .int .u8 0, .int .i64 t4, .int .u8 n4, .slice none 0 0, .bool false, .slice none 0 0]] vE fun e w' => e = .returned (.bool (goodR ⟨kd, id, 0, 0, t4, n4, [], false, []⟩)) ∧ Below vE.heap.size vE w') := (by have h := rgood14_any ⟨⟨kd, id, 0, 0, t4, n4, [], false, []⟩, none, 0, none, 0⟩ vE GE.out.2.rc; unfold rcv encR at h; simp only [List.length_nil] at h; exact h); obtain ⟨gr, hgr⟩ : ∃ gr, gr = goodR ⟨kd, id, 0, 0, t4, n4, [], false, []⟩ := ⟨_, rfl⟩; rw [← hgr] at CG; have HGR : Hid (gr = goodR ⟨kd, id, 0, 0, t4, n4, [], false, []⟩) := hgr; clear hE hBE hen hgr)
      | (have hgo := G3.out; clear hgo; go_at_call 45; refine (rstamp14_any _ a cap zs k2 b2 _ G3.out.rd).mono ?_; rintro e v4 ⟨t4, n4, rfl, ok4, nl4, nh4, ⟨k4, b4, R4, C4, D4⟩⟩; have G4 : Hid (DB W v4 w.heap.size (w.heap.size + 1) w2.heap.size a cap zs k4 b4 kd id 0 0 0 0 none 0 0 false none 0 0) := G3.out.turn C4 R4; have G5 : Hid (DB W ((v4.setCell ⟨w2.heap.size, 4, none⟩ (.int .i64 t4)).setCell ⟨w2.heap.size, 5, none⟩ (.int .u8 n4)) w.heap.size (w.heap.size + 1) w2.heap.size a cap zs k4 b4 kd id 0 0 t4 n4 none 0 0 false none 0 0) := G4.out.set4 t4 n4; have y4_4 := G4.out.box.c4; have fy4_4 := G4.out.free 4; have y4_5 := G4.out.box.c5; have fy4_5 := G4.out.free 5; have RC : Hid (RcF W ((v4.setCell ⟨w2.heap.size, 4, none⟩ (.int .i64 t4)).setCell ⟨w2.heap.size, 5, none⟩ (.int .u8 n4)) ⟨⟨kd, id, 0, 0, t4, n4, [], false, []⟩, none, 0, none, 0⟩) := RcF.none _ _ kd id t4 n4 HK.out HIB.out ⟨nl4, nh4⟩; have HD_4 : Hid (Rds stampP (stR zs k2 b2) (stR zs k4 b4) (t4, n4)) := D4; clear R4 C4 D4 G3 G4))
    · have RD : Rds recP (some zs) (stR zs k4 b4) ⟨kd, id, 0, 0, t4, n4, [], false, []⟩ := by
        refine HD1.out.seq (HD2.out.seq ?_)
        rw [← HID.out]
        unfold tailP
        rw [if_neg (by rw [HKD.out]; omega), if_pos (by rw [HKD.out]; simp)]
        exact HD_4.out.seq (.ret _ _)
      have he : en = true := by assumption
      have hg : gr = false := of_not_true (by assumption)
      have h1 := (dget_end RD).1 (of_decide_eq_true (by rw [← HEN.out]; exact he))
      have HBAD : getR zs = Option.none := by unfold getR; rw [h1]; simp only; rw [← HGR.out, hg]; rfl
      refine bodyPost_ret (results_rrcd2 rfl _ _ w.heap.size 0 0 0 0 0 0 none 0 0 false none 0 0 (.bool false) rfl rfl (GF.out.1.res.set9 0 0 0 0 0 0 none 0 0 false none 0 0)) rfl ?_
      exact ⟨zeroM, false, rfl, zeroM_w _, .inr ⟨HBAD, rfl, rfl⟩, below_fin (HBW.out _ GF.out.1.chg) [.int .i64 0, .int .i64 0, .int .i64 0, .int .u8 0, .int .i64 0, .int .u8 0, .slice none 0 0, .bool false, .slice none 0 0]⟩
    · have RD : Rds recP (some zs) (stR zs k4 b4) ⟨kd, id, 0, 0, t4, n4, [], false, []⟩ := by
        refine HD1.out.seq (HD2.out.seq ?_)
        rw [← HID.out]
        unfold tailP
        rw [if_neg (by rw [HKD.out]; omega), if_pos (by rw [HKD.out]; simp)]
        exact HD_4.out.seq (.ret _ _)
      have he : en = true := by assumption
      have hg : gr = true := of_not_false (by assumption)
      have h1 := (dget_end RD).1 (of_decide_eq_true (by rw [← HEN.out]; exact he))
      have HOK : getR zs = some ⟨kd, id, 0, 0, t4, n4, [], false, []⟩ := by unfold getR; rw [h1]; simp only; rw [← HGR.out, hg]; rfl
      refine bodyPost_ret (results_rrcd2 rfl _ _ w.heap.size kd id 0 0 t4 n4 none 0 0 false none 0 0 (.bool true) rfl rfl (GF.out.1.res.set9 kd id 0 0 t4 n4 none 0 0 false none 0 0)) rfl ?_
      refine ⟨⟨⟨kd, id, 0, 0, t4, n4, [], false, []⟩, none, 0, none, 0⟩, true, ?_, rcf_fin GF.out.2 GF.out.1.hr [.int .i64 kd, .int .i64 id, .int .i64 0, .int .u8 0, .int .i64 t4, .int .u8 n4, .slice none 0 0, .bool false, .slice none 0 0], .inl ⟨HOK, rfl⟩, below_fin (HBW.out _ GF.out.1.chg) [.int .i64 kd, .int .i64 id, .int .i64 0, .int .u8 0, .int .i64 t4, .int .u8 n4, .slice none 0 0, .bool false, .slice none 0 0]⟩
      unfold rcv encR
      simp only [List.length_nil]
    · have RD : Rds recP (some zs) (stR zs k4 b4) ⟨kd, id, 0, 0, t4, n4, [], false, []⟩ := by
        refine HD1.out.seq (HD2.out.seq ?_)
        rw [← HID.out]
        unfold tailP
        rw [if_neg (by rw [HKD.out]; omega), if_pos (by rw [HKD.out]; simp)]
        exact HD_4.out.seq (.ret _ _)
      have he : en = false := Bool.eq_false_iff.2 (by assumption)
      have HBAD : getR zs = Option.none := (dget_end RD).2 (fun e => by have := HEN.out; rw [he, e] at this; simp at this)
      refine bodyPost_ret (results_rrcd2 rfl _ _ w.heap.size 0 0 0 0 0 0 none 0 0 false none 0 0 (.bool false) rfl rfl (GE.out.1.res.set9 0 0 0 0 0 0 none 0 0 false none 0 0)) rfl ?_
      exact ⟨zeroM, false, rfl, zeroM_w _, .inr ⟨HBAD, rfl, rfl⟩, below_fin (HBW.out _ GE.out.1.chg) [.int .i64 0, .int .i64 0, .int .i64 0, .int .u8 0, .int .i64 0, .int .u8 0, .slice none 0 0, .bool false, .slice none 0 0]⟩
  · have HKD : Hid (kd = 5) := eq_of_beq (by assumption)
    have HK : Hid (0 ≤ kd ∧ kd ≤ 5) := S1.out.2.2.2
    have HD1 : Hid (Rds (countP 5) (some zs) (stR zs k1 b1) kd) := S1.out.2.2.1
    have HD2 : Hid (Rds numP (stR zs k1 b1) (stR zs k2 b2) v) := S2.out.2.2
    clear S1 S2
    go_wp2_with (first
      | (have hgo := GE.out; clear hgo; go_at_call 20; refine CG.out.mono ?_; rintro e vG ⟨rfl, hb⟩; have GF : Hid (DB W vG w.heap.size (w.heap.size + 1) w2.heap.size a cap zs k4 b4 kd id 0 0 t4 n4 none 0 0 false none 0 0 ∧ RcF W vG ⟨⟨kd, id, 0, 0, t4, n4, [], false, []⟩, none, 0, none, 0⟩) := ⟨GE.out.1.past hb, GE.out.2.past hb⟩; obtain ⟨gg0, gg1, gg2, gg3, gg4, gg5, gg6, gg7, gg8⟩ := GF.out.1.box; obtain ⟨rgg0, rgg1, rgg2, rgg3, rgg4, rgg5, rgg6, rgg7, rgg8⟩ := GF.out.1.res; have tgg0 := GF.out.1.rfree 0; have tgg1 := GF.out.1.rfree 1; have tgg2 := GF.out.1.rfree 2; have tgg3 := GF.out.1.rfree 3; have tgg4 := GF.out.1.rfree 4; have tgg5 := GF.out.1.rfree 5; have tgg6 := GF.out.1.rfree 6; have tgg7 := GF.out.1.rfree 7; have tgg8 := GF.out.1.rfree 8; clear hb ee0 ee1 ee2 ee3 ee4 ee5 ee6 ee7 ee8 ree0 ree1 ree2 ree3 ree4 ree5 ree6 ree7 ree8 tee0 tee1 tee2 tee3 tee4 tee5 tee6 tee7 tee8)
      | (have hgo := G5.out; clear hgo; go_at_call 48; refine (rrend_any _ a cap zs k4 b4 _ G5.out.rd).mono ?_; rintro e vE ⟨rfl, hE⟩; have hBE := drewN_below hE; have GE : Hid (DB W vE w.heap.size (w.heap.size + 1) w2.heap.size a cap zs k4 b4 kd id 0 0 t4 n4 none 0 0 false none 0 0 ∧ RcF W vE ⟨⟨kd, id, 0, 0, t4, n4, [], false, []⟩, none, 0, none, 0⟩) := ⟨G5.out.past hBE, RC.out.past hBE⟩; obtain ⟨en, hen⟩ : ∃ en, en = decide (stR zs k4 b4 = some []) := ⟨_, rfl⟩; rw [← hen]; have HEN : Hid (en = decide (stR zs k4 b4 = some [])) := hen; obtain ⟨ee0, ee1, ee2, ee3, ee4, ee5, ee6, ee7, ee8⟩ := GE.out.1.box; obtain ⟨ree0, ree1, ree2, ree3, ree4, ree5, ree6, ree7, ree8⟩ := GE.out.1.res; have tee0 := GE.out.1.rfree 0; have tee1 := GE.out.1.rfree 1; have tee2 := GE.out.1.rfree 2; have tee3 := GE.out.1.rfree 3; have tee4 := GE.out.1.rfree 4; have tee5 := GE.out.1.rfree 5; have tee6 := GE.out.1.rfree 6; have tee7 := GE.out.1.rfree 7; have tee8 := GE.out.1.rfree 8; have CG : Hid (Calls Try.prog 20 #[.agg #[.int .i64 kd, .int .i64 id, .int .i64 0, .int .u8 0, .int .i64 t4, .int .u8 n4, .slice none 0 0, .bool false, .slice none 0 0]] vE fun e w' => e = .returned (.bool (goodR ⟨kd, id, 0, 0, t4, n4, [], false, []⟩)) ∧ Below vE.heap.size vE w') := (by have h := rgood14_any ⟨⟨kd, id, 0, 0, t4, n4, [], false, []⟩, none, 0, none, 0⟩ vE GE.out.2.rc; unfold rcv encR at h; simp only [List.length_nil] at h; exact h); obtain ⟨gr, hgr⟩ : ∃ gr, gr = goodR ⟨kd, id, 0, 0, t4, n4, [], false, []⟩ := ⟨_, rfl⟩; rw [← hgr] at CG; have HGR : Hid (gr = goodR ⟨kd, id, 0, 0, t4, n4, [], false, []⟩) := hgr; clear hE hBE hen hgr)
      | (have hgo := G3.out; clear hgo; go_at_call 45; refine (rstamp14_any _ a cap zs k2 b2 _ G3.out.rd).mono ?_; rintro e v4 ⟨t4, n4, rfl, ok4, nl4, nh4, ⟨k4, b4, R4, C4, D4⟩⟩; have G4 : Hid (DB W v4 w.heap.size (w.heap.size + 1) w2.heap.size a cap zs k4 b4 kd id 0 0 0 0 none 0 0 false none 0 0) := G3.out.turn C4 R4; have G5 : Hid (DB W ((v4.setCell ⟨w2.heap.size, 4, none⟩ (.int .i64 t4)).setCell ⟨w2.heap.size, 5, none⟩ (.int .u8 n4)) w.heap.size (w.heap.size + 1) w2.heap.size a cap zs k4 b4 kd id 0 0 t4 n4 none 0 0 false none 0 0) := G4.out.set4 t4 n4; have y4_4 := G4.out.box.c4; have fy4_4 := G4.out.free 4; have y4_5 := G4.out.box.c5; have fy4_5 := G4.out.free 5; have RC : Hid (RcF W ((v4.setCell ⟨w2.heap.size, 4, none⟩ (.int .i64 t4)).setCell ⟨w2.heap.size, 5, none⟩ (.int .u8 n4)) ⟨⟨kd, id, 0, 0, t4, n4, [], false, []⟩, none, 0, none, 0⟩) := RcF.none _ _ kd id t4 n4 HK.out HIB.out ⟨nl4, nh4⟩; have HD_4 : Hid (Rds stampP (stR zs k2 b2) (stR zs k4 b4) (t4, n4)) := D4; clear R4 C4 D4 G3 G4))
    · have RD : Rds recP (some zs) (stR zs k4 b4) ⟨kd, id, 0, 0, t4, n4, [], false, []⟩ := by
        refine HD1.out.seq (HD2.out.seq ?_)
        rw [← HID.out]
        unfold tailP
        rw [if_neg (by rw [HKD.out]; omega), if_pos (by rw [HKD.out]; simp)]
        exact HD_4.out.seq (.ret _ _)
      have he : en = true := by assumption
      have hg : gr = false := of_not_true (by assumption)
      have h1 := (dget_end RD).1 (of_decide_eq_true (by rw [← HEN.out]; exact he))
      have HBAD : getR zs = Option.none := by unfold getR; rw [h1]; simp only; rw [← HGR.out, hg]; rfl
      refine bodyPost_ret (results_rrcd2 rfl _ _ w.heap.size 0 0 0 0 0 0 none 0 0 false none 0 0 (.bool false) rfl rfl (GF.out.1.res.set9 0 0 0 0 0 0 none 0 0 false none 0 0)) rfl ?_
      exact ⟨zeroM, false, rfl, zeroM_w _, .inr ⟨HBAD, rfl, rfl⟩, below_fin (HBW.out _ GF.out.1.chg) [.int .i64 0, .int .i64 0, .int .i64 0, .int .u8 0, .int .i64 0, .int .u8 0, .slice none 0 0, .bool false, .slice none 0 0]⟩
    · have RD : Rds recP (some zs) (stR zs k4 b4) ⟨kd, id, 0, 0, t4, n4, [], false, []⟩ := by
        refine HD1.out.seq (HD2.out.seq ?_)
        rw [← HID.out]
        unfold tailP
        rw [if_neg (by rw [HKD.out]; omega), if_pos (by rw [HKD.out]; simp)]
        exact HD_4.out.seq (.ret _ _)
      have he : en = true := by assumption
      have hg : gr = true := of_not_false (by assumption)
      have h1 := (dget_end RD).1 (of_decide_eq_true (by rw [← HEN.out]; exact he))
      have HOK : getR zs = some ⟨kd, id, 0, 0, t4, n4, [], false, []⟩ := by unfold getR; rw [h1]; simp only; rw [← HGR.out, hg]; rfl
      refine bodyPost_ret (results_rrcd2 rfl _ _ w.heap.size kd id 0 0 t4 n4 none 0 0 false none 0 0 (.bool true) rfl rfl (GF.out.1.res.set9 kd id 0 0 t4 n4 none 0 0 false none 0 0)) rfl ?_
      refine ⟨⟨⟨kd, id, 0, 0, t4, n4, [], false, []⟩, none, 0, none, 0⟩, true, ?_, rcf_fin GF.out.2 GF.out.1.hr [.int .i64 kd, .int .i64 id, .int .i64 0, .int .u8 0, .int .i64 t4, .int .u8 n4, .slice none 0 0, .bool false, .slice none 0 0], .inl ⟨HOK, rfl⟩, below_fin (HBW.out _ GF.out.1.chg) [.int .i64 kd, .int .i64 id, .int .i64 0, .int .u8 0, .int .i64 t4, .int .u8 n4, .slice none 0 0, .bool false, .slice none 0 0]⟩
      unfold rcv encR
      simp only [List.length_nil]
    · have RD : Rds recP (some zs) (stR zs k4 b4) ⟨kd, id, 0, 0, t4, n4, [], false, []⟩ := by
        refine HD1.out.seq (HD2.out.seq ?_)
        rw [← HID.out]
        unfold tailP
        rw [if_neg (by rw [HKD.out]; omega), if_pos (by rw [HKD.out]; simp)]
        exact HD_4.out.seq (.ret _ _)
      have he : en = false := Bool.eq_false_iff.2 (by assumption)
      have HBAD : getR zs = Option.none := (dget_end RD).2 (fun e => by have := HEN.out; rw [he, e] at this; simp at this)
      refine bodyPost_ret (results_rrcd2 rfl _ _ w.heap.size 0 0 0 0 0 0 none 0 0 false none 0 0 (.bool false) rfl rfl (GE.out.1.res.set9 0 0 0 0 0 0 none 0 0 false none 0 0)) rfl ?_
      exact ⟨zeroM, false, rfl, zeroM_w _, .inr ⟨HBAD, rfl, rfl⟩, below_fin (HBW.out _ GE.out.1.chg) [.int .i64 0, .int .i64 0, .int .i64 0, .int .u8 0, .int .i64 0, .int .u8 0, .slice none 0 0, .bool false, .slice none 0 0]⟩
  · have HKD : Hid (kd = 4) := eq_of_beq (by assumption)
    have HK : Hid (0 ≤ kd ∧ kd ≤ 5) := S1.out.2.2.2
    have HD1 : Hid (Rds (countP 5) (some zs) (stR zs k1 b1) kd) := S1.out.2.2.1
    have HD2 : Hid (Rds numP (stR zs k1 b1) (stR zs k2 b2) v) := S2.out.2.2
    clear S1 S2
    go_wp2_with (first
      | (have hgo := G7.out; clear hgo; go_at_call 42; refine (rcount14_any _ a cap zs k5 b5 _ 8 (by omega) (by omega) G7.out.rd).mono ?_; rintro e v6 ⟨cn, k6, b6, rfl, c0, c1, R6, C6, D6⟩; obtain ⟨NN, rfl⟩ : ∃ NN : Nat, cn = NN := ⟨cn.toNat, by omega⟩; have HNN : Hid (NN ≤ 8) := (by show NN ≤ 8; omega); have S0 : Hid (PGd W v6 w.heap.size (w.heap.size + 1) w2.heap.size a cap zs kd id t5 n5 yy (stR zs k6 b6) NN 0) := PGd.start NN (G7.out.turn C6 R6); have HD_6 : Hid (Rds (countP 8) (stR zs k5 b5) (stR zs k6 b6) (NN : Int)) := D6; clear R6 C6 D6 G7)
      | (have hgo := G5.out; clear hgo; go_at_call 45; refine (rstamp14_any _ a cap zs k4 b4 _ G5.out.rd).mono ?_; rintro e v5 ⟨t5, n5, rfl, ok5, nl5, nh5, ⟨k5, b5, R5, C5, D5⟩⟩; have G6 : Hid (DB W v5 w.heap.size (w.heap.size + 1) w2.heap.size a cap zs k5 b5 kd id 0 0 0 0 none 0 0 yy none 0 0) := G5.out.turn C5 R5; have G7 : Hid (DB W ((v5.setCell ⟨w2.heap.size, 4, none⟩ (.int .i64 t5)).setCell ⟨w2.heap.size, 5, none⟩ (.int .u8 n5)) w.heap.size (w.heap.size + 1) w2.heap.size a cap zs k5 b5 kd id 0 0 t5 n5 none 0 0 yy none 0 0) := G6.out.set4 t5 n5; have y5_4 := G6.out.box.c4; have fy5_4 := G6.out.free 4; have y5_5 := G6.out.box.c5; have fy5_5 := G6.out.free 5; have HD_5 : Hid (Rds stampP (stR zs k4 b4) (stR zs k5 b5) (t5, n5)) := D5; clear R5 C5 D5 G5 G6)
      | (have hgo := G3.out; clear hgo; go_at_call 47; refine (rbool14_any _ a cap zs k2 b2 _ G3.out.rd).mono ?_; rintro e v4 ⟨yy, k4, b4, rfl, R4, C4, D4⟩; have G4 : Hid (DB W v4 w.heap.size (w.heap.size + 1) w2.heap.size a cap zs k4 b4 kd id 0 0 0 0 none 0 0 false none 0 0) := G3.out.turn C4 R4; have G5 : Hid (DB W (v4.setCell ⟨w2.heap.size, 7, none⟩ (.bool yy)) w.heap.size (w.heap.size + 1) w2.heap.size a cap zs k4 b4 kd id 0 0 0 0 none 0 0 yy none 0 0) := G4.out.set7 yy; have y4_7 := G4.out.box.c7; have fy4_7 := G4.out.free 7; have HD_4 : Hid (Rds boolP (stR zs k2 b2) (stR zs k4 b4) yy) := D4; clear R4 C4 D4 G3 G4))
    have hnn : NN ≤ 8 := HNN.out
    go_loopw [7] (fun iv wr => ∃ mm : Nat, iv = .int .i64 mm ∧ mm ≤ NN ∧ Hid (PGd W wr w.heap.size (w.heap.size + 1) w2.heap.size a cap zs kd id t5 n5 yy (stR zs k6 b6) NN mm)) (fun iv _ => NN - (intOf iv).toNat)
    case atStart => exact ⟨0, rfl, Nat.zero_le _, S0⟩
    case round =>
      obtain ⟨mm, rfl, hmm, HP⟩ := hrel
      obtain ⟨k, b, ax, cx, done, G, own, bds, dl, fn⟩ := HP.out.ex
      have HG : Hid (DB W wr w.heap.size (w.heap.size + 1) w2.heap.size a cap zs k b kd id 0 0 t5 n5 none 0 0 yy ax mm cx) := G
      have HO : Hid (wr.ownsRow (w2.heap.size + 1) 3 1 (.slice ax mm cx) mm (ivs done)) := own
      have hi0 : (0 : Int) ≤ (mm : Int) := by omega
      by_cases hlt : mm < NN
      · have bl : (mm : Int) < (NN : Int) := by omega
        obtain ⟨GG, hGG⟩ : ∃ GG : Foot, GG = fun j => j = w.heap.size + 1 ∨ w2.heap.size < j := ⟨_, rfl⟩
        have FG : Hid (∀ u, Chg wr u GG → u.cell? ⟨w2.heap.size, 8, none⟩ = some (.slice ax mm cx) ∧ u.frozen? ⟨w2.heap.size, 8, none⟩ = false) := fun u hu => by
          have hb := hu.block w2.heap.size HG.out.box.lt (fun e => by rw [hGG] at e; have h1 := HG.out.hq; have h2 := HG.out.hg; rcases e with e | e <;> omega)
          exact ⟨(cell_of_block hb 8).1.trans HG.out.box.c8, (cell_of_block hb 8).2.trans (HG.out.free 8)⟩
        have HGS : Hid (∀ u u', Chg u u' (fun j => j = w.heap.size + 1) → Chg u u' GG) := fun u u' h => h.mono (fun j _ e => by rw [hGG]; exact .inl e)
        have HGO : Hid (∀ u u', Chg u u' (fun j => w2.heap.size + 1 ≤ j) → Chg u u' GG) := fun u u' h => h.mono (fun j _ e => by rw [hGG]; exact .inr e)
        have HNX : Hid (∀ w3 v k3 b3 w6 ax6 cx6, 0 ≤ v → v ≤ 7 → Rd w3 (w.heap.size + 1) a cap zs k3 b3 → Chg wr w3 (fun j => j = w.heap.size + 1) → Rds (countP 7) (stR zs k b) (stR zs k3 b3) v → w6.ownsRow (w2.heap.size + 1) 3 1 (.slice ax6 (mm + 1) cx6) (mm + 1) (ivs done ++ [.int .i64 v]) → Chg (w3.alloc (.cells #[.int .i64 v] 3)) w6 (fun j => w2.heap.size + 1 ≤ j) → PGd W (w6.setCell ⟨w2.heap.size, 8, none⟩ (.slice ax6 (mm + 1) cx6)) w.heap.size (w.heap.size + 1) w2.heap.size a cap zs kd id t5 n5 yy (stR zs k6 b6) NN (mm + 1)) := fun w3 v k3 b3 w6 ax6 cx6 v0 v1 R3 C3 D3 o6 c6 => PGd.next HG.out bds dl fn hlt v0 v1 R3 C3 D3 o6 c6
        have HRD3 : Hid (Rd wr.drew (w.heap.size + 1) a cap zs k b) := HG.out.rd.drew
        have hsz : w2.heap.size + 1 ≤ wr.heap.size := HG.out.box.lt
        clear hGG G own bds dl fn HP
        go_wp2
        refine wp_region_noPanic ?_
        refine region_till 7 (fun u => Chg wr u GG) (by kernel_rfl) ?_ (fun hHeld => ?_)
        · exact (Chg.refl _ _).drew
        refine till_take (i := 0) (v := ?_) 0 (by kernel_rfl) (Or.inl rfl) (by kernel_rfl) rfl (by kernel_rfl) (by kernel_rfl) (by kernel_rfl) (fun _ _ _ h => h) (Or.inl ⟨by rfl, ?_⟩) hHeld ?_
        rotate_left
        · intro u hSu
          (go_simp) <;> (with_reducible rfl)
        change wpTill _ _ _ _ _ _ _ _ (Act.put _ (some 51) _) _
        simp only [Act.put, List.setIfInBounds_toArray, List.set_cons_zero, List.set_cons_succ]
        refine till_take (i := 1) (v := ?_) 1 (by kernel_rfl) (Or.inl rfl) (by kernel_rfl) rfl (by kernel_rfl) (by kernel_rfl) (by kernel_rfl) (fun _ _ _ h => h) (Or.inl ⟨by rfl, ?_⟩) hHeld ?_
        rotate_left
        · intro u hSu
          obtain ⟨q8, f8⟩ := FG.out u hSu
          (go_simp) <;> (with_reducible rfl)
        change wpTill _ _ _ _ _ _ _ _ (Act.put _ (some 52) _) _
        simp only [Act.put, List.setIfInBounds_toArray, List.set_cons_zero, List.set_cons_succ]
        refine till_take (i := 2) (v := ?_) 2 (by kernel_rfl) (Or.inl rfl) (by kernel_rfl) rfl (by kernel_rfl) (by kernel_rfl) (by kernel_rfl) (fun _ _ _ h => h) (Or.inl ⟨by rfl, ?_⟩) hHeld ?_
        rotate_left
        · intro u hSu
          (go_simp) <;> (with_reducible rfl)
        change wpTill _ _ _ _ _ _ _ _ (Act.put _ (some 53) _) _
        simp only [Act.put, List.setIfInBounds_toArray, List.set_cons_zero, List.set_cons_succ]
        refine till_ready (rs := [3]) (by kernel_rfl) (by simp) ?_
        refine AllTill.cons rfl (fun K hK => ?_) AllTill.nil
        go_simp; go_at_call 42; refine (rcount14_any _ a cap zs k b _ 7 (by omega) (by omega) HRD3.out).mono ?_; rintro e w3 ⟨v, k3, b3, rfl, v0, v1, R3, C3, D3⟩; have C3' : Hid (Chg wr w3 (fun j => j = w.heap.size + 1)) := ⟨C3.os, C3.tape, C3.output, C3.size, C3.block⟩; have HR3 : Hid (Rd w3 (w.heap.size + 1) a cap zs k3 b3) := R3; have HD3 : Hid (Rds (countP 7) (stR zs k b) (stR zs k3 b3) v) := D3; clear R3 C3 D3
        refine hK.out _ _ ?_ (fun hHeld2 => ?_)
        · exact HGS.out _ _ C3'.out
        clear hK K hHeld
        have hHeld := hHeld2
        clear hHeld2
        refine till_ready (rs := [4]) (by kernel_rfl) (by simp) ?_
        refine AllTill.cons rfl (fun K hK => ?_) AllTill.nil
        go_simp
        refine hK.out _ _ ?_ (fun hHeld2 => ?_)
        · exact hHeld.alloc _
        clear hK K hHeld
        have hHeld := hHeld2
        clear hHeld2
        refine till_ready (rs := [5]) (by kernel_rfl) (by simp) ?_
        refine AllTill.cons rfl (fun K hK => ?_) AllTill.nil
        refine step_append_chg intEl (B := w2.heap.size + 1) rfl (.tmp 52) (.tmp 55) rfl (by have := C3'.out.size; simp; omega) _ mm (ivs done) [.int .i64 v] rfl (owns_stay HO.out (fun r h1 h2 => (Below.heap_alloc _ _ r (Nat.lt_of_lt_of_le h2 C3'.out.size)).trans (C3'.out.block r h2 (by have h3 := HG.out.hq; have h4 := HG.out.hg; omega)))) _ _ _ rfl rfl (lies_made2 _ _ _ _ rfl) (by simp [Value.oneCell']) (fun h => by cases h) (by omega) ?_; intro ax6 cx6 w6 o6 c6; have S6 : Hid (PGd W (w6.setCell ⟨w2.heap.size, 8, none⟩ (.slice ax6 (mm + 1) cx6)) w.heap.size (w.heap.size + 1) w2.heap.size a cap zs kd id t5 n5 yy (stR zs k6 b6) NN (mm + 1)) := HNX.out w3 v k3 b3 w6 ax6 cx6 v0 v1 HR3.out C3'.out HD3.out o6 c6; have C6 : Hid (Chg wr w6 GG) := hHeld.trans (HGO.out _ _ c6) (fun _ _ x => x); clear o6 c6
        refine hK.out _ _ ?_ (fun hHeld2 => ?_)
        · exact C6.out
        clear hK K hHeld
        have hHeld := hHeld2
        clear hHeld2
        change wpTill _ _ _ _ _ _ _ _ (Act.put _ (some 56) _) _
        simp only [Act.put, List.setIfInBounds_toArray, List.set_cons_zero, List.set_cons_succ]
        refine till_take (i := 6) (v := ?_) 6 (by kernel_rfl) (Or.inl rfl) (by kernel_rfl) rfl (by kernel_rfl) (by kernel_rfl) (by kernel_rfl) (fun _ _ _ h => h) (Or.inl ⟨by rfl, ?_⟩) hHeld ?_
        rotate_left
        · intro u hSu
          (go_simp) <;> (with_reducible rfl)
        change wpTill _ _ _ _ _ _ _ _ (Act.put _ (some 57) _) _
        simp only [Act.put, List.setIfInBounds_toArray, List.set_cons_zero, List.set_cons_succ]
        refine till_last (by kernel_rfl) (by kernel_rfl) rfl (fun K hK => ?_)
        (obtain ⟨q8, f8⟩ := FG.out w6 C6.out); go_simp; refine hK.out _ _ ?_; refine NoPanic.normal ?_; clear hK K hHeld q8 f8
        go_wp2
        go_roundw
        case rel => exact ⟨mm + 1, by go_num, by omega, S6⟩
        case measure => simp [intOf]; omega
      · obtain rfl : mm = NN := by omega
        have bl : ¬ (mm : Int) < (mm : Int) := by omega
        have q := own_ints HO.out (fun z hz => by have := bds z hz; omega)
        have HD_7 : Hid (Rds partsP (stR zs k5 b5) (stR zs k b) done) := HD_6.out.seq (by rw [Int.toNat_natCast]; have h := fn (stR zs k b) [] (by rw [Nat.sub_self]; exact .ret [] _); rw [List.append_nil] at h; exact h)
        have HNL : Hid (done.length = mm) := dl
        have RC : Hid (RcF W wr ⟨⟨kd, id, 0, 0, t5, n5, [], yy, done⟩, none, 0, ax, cx⟩) := ⟨⟨WrtsAt.none _ _, Nat.zero_le _, Nat.zero_le _, q.2.2.1, by show done.length ≤ cx; have := q.2.1; omega, by show done.length ≤ 1000; omega, ⟨by show -9223372036854775808 ≤ kd; have := HK.out; omega, by show kd ≤ 9223372036854775807; have := HK.out; omega⟩, ⟨HIB.out.1, HIB.out.2, by simp, by simp, nl5, nh5, fun W hW => by simp at hW, fun W hW => by simp at hW⟩⟩, fun h => absurd rfl h, fun h b o e => Nat.le_trans HG.out.hq (Nat.le_of_succ_le (q.2.2.2 h b o e))⟩
        clear q G own bds dl fn HP
        obtain ⟨hh0, hh1, hh2, hh3, hh4, hh5, hh6, hh7, hh8⟩ := HG.out.box; obtain ⟨rhh0, rhh1, rhh2, rhh3, rhh4, rhh5, rhh6, rhh7, rhh8⟩ := HG.out.res; have thh0 := HG.out.rfree 0; have thh1 := HG.out.rfree 1; have thh2 := HG.out.rfree 2; have thh3 := HG.out.rfree 3; have thh4 := HG.out.rfree 4; have thh5 := HG.out.rfree 5; have thh6 := HG.out.rfree 6; have thh7 := HG.out.rfree 7; have thh8 := HG.out.rfree 8
        go_wp2_with (first
        | (have hgo := GE.out; clear hgo; go_at_call 20; refine CG.out.mono ?_; rintro e vG ⟨rfl, hb⟩; have GF : Hid (DB W vG w.heap.size (w.heap.size + 1) w2.heap.size a cap zs k b kd id 0 0 t5 n5 none 0 0 yy ax mm cx ∧ RcF W vG ⟨⟨kd, id, 0, 0, t5, n5, [], yy, done⟩, none, 0, ax, cx⟩) := ⟨GE.out.1.past hb, GE.out.2.past hb⟩; obtain ⟨gg0, gg1, gg2, gg3, gg4, gg5, gg6, gg7, gg8⟩ := GF.out.1.box; obtain ⟨rgg0, rgg1, rgg2, rgg3, rgg4, rgg5, rgg6, rgg7, rgg8⟩ := GF.out.1.res; have tgg0 := GF.out.1.rfree 0; have tgg1 := GF.out.1.rfree 1; have tgg2 := GF.out.1.rfree 2; have tgg3 := GF.out.1.rfree 3; have tgg4 := GF.out.1.rfree 4; have tgg5 := GF.out.1.rfree 5; have tgg6 := GF.out.1.rfree 6; have tgg7 := GF.out.1.rfree 7; have tgg8 := GF.out.1.rfree 8; clear hb ee0 ee1 ee2 ee3 ee4 ee5 ee6 ee7 ee8 ree0 ree1 ree2 ree3 ree4 ree5 ree6 ree7 ree8 tee0 tee1 tee2 tee3 tee4 tee5 tee6 tee7 tee8)
        | (have hgo := HG.out; clear hgo; go_at_call 48; refine (rrend_any _ a cap zs k b _ HG.out.rd).mono ?_; rintro e vE ⟨rfl, hE⟩; have hBE := drewN_below hE; have GE : Hid (DB W vE w.heap.size (w.heap.size + 1) w2.heap.size a cap zs k b kd id 0 0 t5 n5 none 0 0 yy ax mm cx ∧ RcF W vE ⟨⟨kd, id, 0, 0, t5, n5, [], yy, done⟩, none, 0, ax, cx⟩) := ⟨HG.out.past hBE, RC.out.past hBE⟩; obtain ⟨en, hen⟩ : ∃ en, en = decide (stR zs k b = some []) := ⟨_, rfl⟩; rw [← hen]; have HEN : Hid (en = decide (stR zs k b = some [])) := hen; obtain ⟨ee0, ee1, ee2, ee3, ee4, ee5, ee6, ee7, ee8⟩ := GE.out.1.box; obtain ⟨ree0, ree1, ree2, ree3, ree4, ree5, ree6, ree7, ree8⟩ := GE.out.1.res; have tee0 := GE.out.1.rfree 0; have tee1 := GE.out.1.rfree 1; have tee2 := GE.out.1.rfree 2; have tee3 := GE.out.1.rfree 3; have tee4 := GE.out.1.rfree 4; have tee5 := GE.out.1.rfree 5; have tee6 := GE.out.1.rfree 6; have tee7 := GE.out.1.rfree 7; have tee8 := GE.out.1.rfree 8; have CG : Hid (Calls Try.prog 20 #[.agg #[.int .i64 kd, .int .i64 id, .int .i64 0, .int .u8 0, .int .i64 t5, .int .u8 n5, .slice none 0 0, .bool yy, .slice ax mm cx]] vE fun e w' => e = .returned (.bool (goodR ⟨kd, id, 0, 0, t5, n5, [], yy, done⟩)) ∧ Below vE.heap.size vE w') := (by have h := rgood14_any ⟨⟨kd, id, 0, 0, t5, n5, [], yy, done⟩, none, 0, ax, cx⟩ vE GE.out.2.rc; unfold rcv encR at h; simp only [HNL.out, List.length_nil] at h; exact h); obtain ⟨gr, hgr⟩ : ∃ gr, gr = goodR ⟨kd, id, 0, 0, t5, n5, [], yy, done⟩ := ⟨_, rfl⟩; rw [← hgr] at CG; have HGR : Hid (gr = goodR ⟨kd, id, 0, 0, t5, n5, [], yy, done⟩) := hgr; clear hE hBE hen hgr))
        · have RD : Rds recP (some zs) (stR zs k b) ⟨kd, id, 0, 0, t5, n5, [], yy, done⟩ := by
            refine HD1.out.seq (HD2.out.seq ?_)
            rw [← HID.out]
            unfold tailP
            rw [if_neg (by rw [HKD.out]; omega), if_neg (by rw [HKD.out]; omega), if_pos HKD.out]
            exact HD_4.out.seq (HD_5.out.seq (HD_7.out.seq (.ret _ _)))
          have he : en = true := by assumption
          have hg : gr = false := of_not_true (by assumption)
          have h1 := (dget_end RD).1 (of_decide_eq_true (by rw [← HEN.out]; exact he))
          have HBAD : getR zs = Option.none := by unfold getR; rw [h1]; simp only; rw [← HGR.out, hg]; rfl
          refine bodyPost_ret (results_rrcd2 rfl _ _ w.heap.size 0 0 0 0 0 0 none 0 0 false none 0 0 (.bool false) rfl rfl (GF.out.1.res.set9 0 0 0 0 0 0 none 0 0 false none 0 0)) rfl ?_
          exact ⟨zeroM, false, rfl, zeroM_w _, .inr ⟨HBAD, rfl, rfl⟩, below_fin (HBW.out _ GF.out.1.chg) [.int .i64 0, .int .i64 0, .int .i64 0, .int .u8 0, .int .i64 0, .int .u8 0, .slice none 0 0, .bool false, .slice none 0 0]⟩
        · have RD : Rds recP (some zs) (stR zs k b) ⟨kd, id, 0, 0, t5, n5, [], yy, done⟩ := by
            refine HD1.out.seq (HD2.out.seq ?_)
            rw [← HID.out]
            unfold tailP
            rw [if_neg (by rw [HKD.out]; omega), if_neg (by rw [HKD.out]; omega), if_pos HKD.out]
            exact HD_4.out.seq (HD_5.out.seq (HD_7.out.seq (.ret _ _)))
          have he : en = true := by assumption
          have hg : gr = true := of_not_false (by assumption)
          have h1 := (dget_end RD).1 (of_decide_eq_true (by rw [← HEN.out]; exact he))
          have HOK : getR zs = some ⟨kd, id, 0, 0, t5, n5, [], yy, done⟩ := by unfold getR; rw [h1]; simp only; rw [← HGR.out, hg]; rfl
          refine bodyPost_ret (results_rrcd2 rfl _ _ w.heap.size kd id 0 0 t5 n5 none 0 0 yy ax mm cx (.bool true) rfl rfl (GF.out.1.res.set9 kd id 0 0 t5 n5 none 0 0 yy ax mm cx)) rfl ?_
          refine ⟨⟨⟨kd, id, 0, 0, t5, n5, [], yy, done⟩, none, 0, ax, cx⟩, true, ?_, rcf_fin GF.out.2 GF.out.1.hr [.int .i64 kd, .int .i64 id, .int .i64 0, .int .u8 0, .int .i64 t5, .int .u8 n5, .slice none 0 0, .bool yy, .slice ax mm cx], .inl ⟨HOK, rfl⟩, below_fin (HBW.out _ GF.out.1.chg) [.int .i64 kd, .int .i64 id, .int .i64 0, .int .u8 0, .int .i64 t5, .int .u8 n5, .slice none 0 0, .bool yy, .slice ax mm cx]⟩
          unfold rcv encR
          simp only [HNL.out, List.length_nil]
        · have RD : Rds recP (some zs) (stR zs k b) ⟨kd, id, 0, 0, t5, n5, [], yy, done⟩ := by
            refine HD1.out.seq (HD2.out.seq ?_)
            rw [← HID.out]
            unfold tailP
            rw [if_neg (by rw [HKD.out]; omega), if_neg (by rw [HKD.out]; omega), if_pos HKD.out]
            exact HD_4.out.seq (HD_5.out.seq (HD_7.out.seq (.ret _ _)))
          have he : en = false := Bool.eq_false_iff.2 (by assumption)
          have HBAD : getR zs = Option.none := (dget_end RD).2 (fun e => by have := HEN.out; rw [he, e] at this; simp at this)
          refine bodyPost_ret (results_rrcd2 rfl _ _ w.heap.size 0 0 0 0 0 0 none 0 0 false none 0 0 (.bool false) rfl rfl (GE.out.1.res.set9 0 0 0 0 0 0 none 0 0 false none 0 0)) rfl ?_
          exact ⟨zeroM, false, rfl, zeroM_w _, .inr ⟨HBAD, rfl, rfl⟩, below_fin (HBW.out _ GE.out.1.chg) [.int .i64 0, .int .i64 0, .int .i64 0, .int .u8 0, .int .i64 0, .int .u8 0, .slice none 0 0, .bool false, .slice none 0 0]⟩
  · have n1 : ¬ kd = 1 := ne_of_beq_false (by assumption)
    have n2 : ¬ kd = 2 := ne_of_beq_false (by assumption)
    have n5 : ¬ kd = 5 := ne_of_beq_false (by assumption)
    have n4 : ¬ kd = 4 := ne_of_beq_false (by assumption)
    have HK : Hid (0 ≤ kd ∧ kd ≤ 5) := S1.out.2.2.2
    have HD1 : Hid (Rds (countP 5) (some zs) (stR zs k1 b1) kd) := S1.out.2.2.1
    have HD2 : Hid (Rds numP (stR zs k1 b1) (stR zs k2 b2) v) := S2.out.2.2
    clear S1 S2
    have RC : Hid (RcF W (w2.alloc (.cells #[.int .i64 kd, .int .i64 id, .int .i64 0, .int .u8 0, .int .i64 0, .int .u8 0, .slice none 0 0, .bool false, .slice none 0 0] 43)) ⟨⟨kd, id, 0, 0, 0, 0, [], false, []⟩, none, 0, none, 0⟩) := RcF.none _ _ kd id 0 0 HK.out HIB.out (by omega)
    go_wp2_with (first
      | (have hgo := GE.out; clear hgo; go_at_call 20; refine CG.out.mono ?_; rintro e vG ⟨rfl, hb⟩; have GF : Hid (DB W vG w.heap.size (w.heap.size + 1) w2.heap.size a cap zs k2 b2 kd id 0 0 0 0 none 0 0 false none 0 0 ∧ RcF W vG ⟨⟨kd, id, 0, 0, 0, 0, [], false, []⟩, none, 0, none, 0⟩) := ⟨GE.out.1.past hb, GE.out.2.past hb⟩; obtain ⟨gg0, gg1, gg2, gg3, gg4, gg5, gg6, gg7, gg8⟩ := GF.out.1.box; obtain ⟨rgg0, rgg1, rgg2, rgg3, rgg4, rgg5, rgg6, rgg7, rgg8⟩ := GF.out.1.res; have tgg0 := GF.out.1.rfree 0; have tgg1 := GF.out.1.rfree 1; have tgg2 := GF.out.1.rfree 2; have tgg3 := GF.out.1.rfree 3; have tgg4 := GF.out.1.rfree 4; have tgg5 := GF.out.1.rfree 5; have tgg6 := GF.out.1.rfree 6; have tgg7 := GF.out.1.rfree 7; have tgg8 := GF.out.1.rfree 8; clear hb ee0 ee1 ee2 ee3 ee4 ee5 ee6 ee7 ee8 ree0 ree1 ree2 ree3 ree4 ree5 ree6 ree7 ree8 tee0 tee1 tee2 tee3 tee4 tee5 tee6 tee7 tee8)
      | (have hgo := G3.out; clear hgo; go_at_call 48; refine (rrend_any _ a cap zs k2 b2 _ G3.out.rd).mono ?_; rintro e vE ⟨rfl, hE⟩; have hBE := drewN_below hE; have GE : Hid (DB W vE w.heap.size (w.heap.size + 1) w2.heap.size a cap zs k2 b2 kd id 0 0 0 0 none 0 0 false none 0 0 ∧ RcF W vE ⟨⟨kd, id, 0, 0, 0, 0, [], false, []⟩, none, 0, none, 0⟩) := ⟨G3.out.past hBE, RC.out.past hBE⟩; obtain ⟨en, hen⟩ : ∃ en, en = decide (stR zs k2 b2 = some []) := ⟨_, rfl⟩; rw [← hen]; have HEN : Hid (en = decide (stR zs k2 b2 = some [])) := hen; obtain ⟨ee0, ee1, ee2, ee3, ee4, ee5, ee6, ee7, ee8⟩ := GE.out.1.box; obtain ⟨ree0, ree1, ree2, ree3, ree4, ree5, ree6, ree7, ree8⟩ := GE.out.1.res; have tee0 := GE.out.1.rfree 0; have tee1 := GE.out.1.rfree 1; have tee2 := GE.out.1.rfree 2; have tee3 := GE.out.1.rfree 3; have tee4 := GE.out.1.rfree 4; have tee5 := GE.out.1.rfree 5; have tee6 := GE.out.1.rfree 6; have tee7 := GE.out.1.rfree 7; have tee8 := GE.out.1.rfree 8; have CG : Hid (Calls Try.prog 20 #[.agg #[.int .i64 kd, .int .i64 id, .int .i64 0, .int .u8 0, .int .i64 0, .int .u8 0, .slice none 0 0, .bool false, .slice none 0 0]] vE fun e w' => e = .returned (.bool (goodR ⟨kd, id, 0, 0, 0, 0, [], false, []⟩)) ∧ Below vE.heap.size vE w') := (by have h := rgood14_any ⟨⟨kd, id, 0, 0, 0, 0, [], false, []⟩, none, 0, none, 0⟩ vE GE.out.2.rc; unfold rcv encR at h; simp only [List.length_nil] at h; exact h); obtain ⟨gr, hgr⟩ : ∃ gr, gr = goodR ⟨kd, id, 0, 0, 0, 0, [], false, []⟩ := ⟨_, rfl⟩; rw [← hgr] at CG; have HGR : Hid (gr = goodR ⟨kd, id, 0, 0, 0, 0, [], false, []⟩) := hgr; clear hE hBE hen hgr))
    · have RD : Rds recP (some zs) (stR zs k2 b2) ⟨kd, id, 0, 0, 0, 0, [], false, []⟩ := by
        refine HD1.out.seq (HD2.out.seq ?_)
        rw [← HID.out]
        unfold tailP
        rw [if_neg n1, if_neg (by omega), if_neg n4]
        exact .ret _ _
      have he : en = true := by assumption
      have hg : gr = false := of_not_true (by assumption)
      have h1 := (dget_end RD).1 (of_decide_eq_true (by rw [← HEN.out]; exact he))
      have HBAD : getR zs = Option.none := by unfold getR; rw [h1]; simp only; rw [← HGR.out, hg]; rfl
      refine bodyPost_ret (results_rrcd2 rfl _ _ w.heap.size 0 0 0 0 0 0 none 0 0 false none 0 0 (.bool false) rfl rfl (GF.out.1.res.set9 0 0 0 0 0 0 none 0 0 false none 0 0)) rfl ?_
      exact ⟨zeroM, false, rfl, zeroM_w _, .inr ⟨HBAD, rfl, rfl⟩, below_fin (HBW.out _ GF.out.1.chg) [.int .i64 0, .int .i64 0, .int .i64 0, .int .u8 0, .int .i64 0, .int .u8 0, .slice none 0 0, .bool false, .slice none 0 0]⟩
    · have RD : Rds recP (some zs) (stR zs k2 b2) ⟨kd, id, 0, 0, 0, 0, [], false, []⟩ := by
        refine HD1.out.seq (HD2.out.seq ?_)
        rw [← HID.out]
        unfold tailP
        rw [if_neg n1, if_neg (by omega), if_neg n4]
        exact .ret _ _
      have he : en = true := by assumption
      have hg : gr = true := of_not_false (by assumption)
      have h1 := (dget_end RD).1 (of_decide_eq_true (by rw [← HEN.out]; exact he))
      have HOK : getR zs = some ⟨kd, id, 0, 0, 0, 0, [], false, []⟩ := by unfold getR; rw [h1]; simp only; rw [← HGR.out, hg]; rfl
      refine bodyPost_ret (results_rrcd2 rfl _ _ w.heap.size kd id 0 0 0 0 none 0 0 false none 0 0 (.bool true) rfl rfl (GF.out.1.res.set9 kd id 0 0 0 0 none 0 0 false none 0 0)) rfl ?_
      refine ⟨⟨⟨kd, id, 0, 0, 0, 0, [], false, []⟩, none, 0, none, 0⟩, true, ?_, rcf_fin GF.out.2 GF.out.1.hr [.int .i64 kd, .int .i64 id, .int .i64 0, .int .u8 0, .int .i64 0, .int .u8 0, .slice none 0 0, .bool false, .slice none 0 0], .inl ⟨HOK, rfl⟩, below_fin (HBW.out _ GF.out.1.chg) [.int .i64 kd, .int .i64 id, .int .i64 0, .int .u8 0, .int .i64 0, .int .u8 0, .slice none 0 0, .bool false, .slice none 0 0]⟩
      unfold rcv encR
      simp only [List.length_nil]
    · have RD : Rds recP (some zs) (stR zs k2 b2) ⟨kd, id, 0, 0, 0, 0, [], false, []⟩ := by
        refine HD1.out.seq (HD2.out.seq ?_)
        rw [← HID.out]
        unfold tailP
        rw [if_neg n1, if_neg (by omega), if_neg n4]
        exact .ret _ _
      have he : en = false := Bool.eq_false_iff.2 (by assumption)
      have HBAD : getR zs = Option.none := (dget_end RD).2 (fun e => by have := HEN.out; rw [he, e] at this; simp at this)
      refine bodyPost_ret (results_rrcd2 rfl _ _ w.heap.size 0 0 0 0 0 0 none 0 0 false none 0 0 (.bool false) rfl rfl (GE.out.1.res.set9 0 0 0 0 0 0 none 0 0 false none 0 0)) rfl ?_
      exact ⟨zeroM, false, rfl, zeroM_w _, .inr ⟨HBAD, rfl, rfl⟩, below_fin (HBW.out _ GE.out.1.chg) [.int .i64 0, .int .i64 0, .int .i64 0, .int .u8 0, .int .i64 0, .int .u8 0, .slice none 0 0, .bool false, .slice none 0 0]⟩
end Go.Proofs.Ytmiafadmcpmjgaa

