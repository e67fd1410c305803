/-
  A chain of the call's own beside the document's own store, and beside blocks that stay as they are.
-/
import Derived.Test.YtimiciellbdphaaChainKeep
import Derived.Test.YtimiciellbdphaaChainTwo
import Derived.Test.YtimiciellbdphaaVersOpen
import Derived.Test.YtimiciellbdphaaRefTrim
import Derived.Test.YtimiciellbdphaaRefVPut
namespace Go.Proofs.Ytimiciellbdphaa
open Go.RowKit
set_option linter.unusedVariables false

/-- A chain's blocks, no more than these. -/
theorem ChD.tight {u : World} {p : Nat} {L : List Ver} {X : Foot} (h : ChD u p L X) : ∃ X0 : Foot, ChD u p L X0 ∧ (∀ k, X0 k → X k) ∧ ∀ k, X0 k → k = p ∨ ∃ cs, u.heap[k]? = some (.cells cs 31 (0, 0)) := by
  obtain ⟨a, c, h1, h2, h3⟩ := h.list
  refine ⟨fun k => k = p ∨ (Value.slice a L.length c).ownBlock = some k, ⟨.inl rfl, fun k hk => ?_, h.chn, ⟨a, c, h1, h2, fun k e => ⟨.inr e, (h3 k e).2⟩⟩, h.free, h.ty⟩, fun k hk => ?_, fun k hk => ?_⟩
  · rcases hk with rfl | e
    · exact h.lt _ h.own
    · exact (h2.lt k e).2
  · rcases hk with rfl | e
    · exact h.own
    · exact (h3 k e).1
  · rcases hk with rfl | e
    · exact .inl rfl
    · right
      rcases h2.2 with ⟨e1, _⟩ | ⟨g, cap, cur, e1, _, hh, _⟩
      · rw [e1] at e; cases e
      · rw [e1] at e
        have e2 : g = k := by simpa [Value.ownBlock] using e
        rw [← e2]
        exact ⟨cur, hh⟩
theorem StoreR.kept {u u' : World} {B q : Nat} {M : List Ver} (h : StoreR u B q M) (hs : u.heap.size ≤ u'.heap.size) (hq : u'.heap[q]? = u.heap[q]?) (hk : ∀ (k : Nat) (cs : Array Value), u.heap[k]? = some (Obj.cells cs 47 (0, 0)) → u'.heap[k]? = u.heap[k]?) : StoreR u' B q M := by
  obtain ⟨a, c, h1, h2, h3⟩ := h.list
  refine ⟨Nat.lt_of_lt_of_le h.lt hs, h.lo, ⟨a, c, (cell_kept hq 0).trans h1, ?_, h3⟩, (frozen_kept hq 0).trans h.free, h.oks, h.few⟩
  refine ⟨h2.1, ?_⟩
  rcases h2.2 with e | ⟨g, cap, cur, e1, e2, hh, r⟩
  · exact .inl e
  · exact .inr ⟨g, cap, cur, e1, e2, (hk g cur hh).trans hh, r⟩
/-- The chain in p, the store in q, since w; the blocks of F are no part of either. -/
def Pl (w u : World) (p q : Nat) (L M : List Ver) (F : Foot) : Prop := ∃ X, ChD u p L X ∧ StoreR u w.heap.size q M ∧ Below w.heap.size w u ∧ (∀ k, X k → w.heap.size ≤ k ∧ k ≠ q) ∧ ∀ k, F k → k < u.heap.size ∧ ¬ X k ∧ k ≠ q
theorem Pl.below {w u : World} {p q : Nat} {L M : List Ver} {F : Foot} (h : Pl w u p q L M F) : Below w.heap.size w u := by obtain ⟨X, _, _, h, _⟩ := h; exact h
theorem Pl.chn {w u : World} {p q : Nat} {L M : List Ver} {F : Foot} (h : Pl w u p q L M F) : Chn L := by obtain ⟨X, h, _⟩ := h; exact h.chn
theorem Pl.store {w u : World} {p q : Nat} {L M : List Ver} {F : Foot} (h : Pl w u p q L M F) : StoreR u w.heap.size q M := by obtain ⟨X, _, h, _⟩ := h; exact h
theorem Pl.past {w u u' : World} {p q : Nat} {L M : List Ver} {F : Foot} (h : Pl w u p q L M F) (hb : Below u.heap.size u u') : Pl w u' p q L M F := by
  obtain ⟨X, h1, h2, h3, h4, h5⟩ := h
  exact ⟨X, h1.past hb, h2.past hb, h3.trans (hb.mono h3.size), h4, fun k hk => ⟨Nat.lt_of_lt_of_le (h5 k hk).1 hb.size, (h5 k hk).2⟩⟩
theorem Pl.keep {w u : World} {p q : Nat} {L M : List Ver} {F : Foot} (h : Pl w u p q L M F) (o : Obj) : Pl w (u.alloc o) p q L M (fun k => F k ∨ k = u.heap.size) := by
  obtain ⟨X, h1, h2, h3, h4, h5⟩ := h
  have hb : Below u.heap.size u (u.alloc o) := (Below.refl _ _).alloc (Nat.le_refl _) o
  refine ⟨X, h1.past hb, h2.past hb, h3.trans (hb.mono h3.size), h4, fun k hk => ?_⟩
  rcases hk with hk | rfl
  · exact ⟨Nat.lt_of_lt_of_le (h5 k hk).1 hb.size, (h5 k hk).2⟩
  · have h6 := h2.lt
    refine ⟨by simp, fun hx => ?_, by omega⟩
    have := h1.lt _ hx
    omega
theorem Pl.less {w u : World} {p q : Nat} {L M : List Ver} {F G : Foot} (h : Pl w u p q L M F) (hG : ∀ k, G k → F k) : Pl w u p q L M G := by
  obtain ⟨X, h1, h2, h3, h4, h5⟩ := h
  exact ⟨X, h1, h2, h3, h4, fun k hk => h5 k (hG k hk)⟩
theorem Pl.turnC {w u : World} {p q : Nat} {L M : List Ver} {F : Foot} (h : Pl w u p q L M F) : ∃ X0, ChD u p L X0 ∧ ∀ u' L' X', ChD u' p L' X' → Did u u' X0 X' → Pl w u' p q L' M F ∧ ∀ k, F k → u'.heap[k]? = u.heap[k]? := by
  obtain ⟨X, h1, h2, h3, h4, h5⟩ := h
  obtain ⟨X0, k1, k2, k3⟩ := h1.tight
  refine ⟨X0, k1, fun u' L' X' hc d => ⟨⟨X', hc, ?_, ?_, fun k hk => ?_, fun k hk => ?_⟩, fun k hk => ?_⟩⟩
  · refine h2.kept d.chg.size (d.chg.block q h2.lt (fun e => (h4 q (k2 q e)).2 rfl)) (fun k cs hcs => d.chg.block k (Array.getElem?_eq_some_iff.1 hcs).1 (fun e => ?_))
    rcases k3 k e with rfl | ⟨cs2, e2⟩
    · obtain ⟨cs3, fz, e3⟩ := k1.ty
      rw [hcs] at e3
      injection e3 with e3
      injection e3 with _ e4 _
      exact absurd e4 (by decide)
    · rw [hcs] at e2
      injection e2 with e2
      injection e2 with _ e4 _
      exact absurd e4 (by decide)
  · exact h3.trans (d.chg.below h3.size (fun k hk => (h4 k (k2 k hk)).1))
  · rcases (d.new k hk).1 with e | e
    · exact h4 k (k2 k e)
    · have := h2.lt
      have := h3.size
      exact ⟨by omega, by omega⟩
  · refine ⟨Nat.lt_of_lt_of_le (h5 k hk).1 d.chg.size, fun hx => ?_, (h5 k hk).2.2⟩
    rcases (d.new k hx).1 with e | e
    · exact (h5 k hk).2.1 (k2 k e)
    · have := (h5 k hk).1
      omega
  · exact d.chg.block k (h5 k hk).1 (fun e => (h5 k hk).2.1 (k2 k e))
theorem Pl.turnS {w u u' : World} {p q : Nat} {L M M' : List Ver} {F : Foot} (h : Pl w u p q L M F) (hs : StoreR u' w.heap.size q M') (c : Chg u u' (fun k => k = q)) : Pl w u' p q L M' F ∧ ∀ k, F k → u'.heap[k]? = u.heap[k]? := by
  obtain ⟨X, h1, h2, h3, h4, h5⟩ := h
  refine ⟨⟨X, h1.kept c.size (fun k hk => c.block k (h1.lt k hk) (h4 k hk).2), hs, ?_, h4, fun k hk => ⟨Nat.lt_of_lt_of_le (h5 k hk).1 c.size, (h5 k hk).2⟩⟩, fun k hk => c.block k (h5 k hk).1 (h5 k hk).2.2⟩
  exact h3.trans (c.below h3.size (fun k hk => by rw [hk]; exact h2.lo))
/-- The two, and the blocks of F as they were in u0. -/
def PlF (w u : World) (p q : Nat) (L M : List Ver) (F : Foot) (u0 : World) : Prop := Pl w u p q L M F ∧ ∀ k, F k → u.heap[k]? = u0.heap[k]?
theorem pput_any {w u u0 : World} {p q : Nat} {L M : List Ver} {F : Foot} (h : PlF w u p q L M F u0) {V : Ver} (hV : VerIn V) :
    Calls Try.prog 10 #[.pointer (some ⟨p, 0, none⟩), cvv V] u fun e w' => e = .returned (.int .i64 (putV L V).1) ∧ PlF w w' p q (putV L V).2 M F u0 := by
  obtain ⟨X0, c, ht⟩ := h.1.turnC
  refine (cput_any p L X0 V hV u c).mono ?_
  rintro e w' ⟨rfl, X', c', d⟩
  obtain ⟨h1, h2⟩ := ht w' _ X' c' d
  exact ⟨rfl, h1, fun k hk => (h2 k hk).trans (h.2 k hk)⟩
theorem ptrim_any {w u u0 : World} {p q : Nat} {L M : List Ver} {F : Foot} (h : PlF w u p q L M F u0) (t n : Int) :
    Calls Try.prog 12 #[.pointer (some ⟨p, 0, none⟩), .agg #[.int .i64 t, .int .u8 n]] u fun e w' => e = .returned (.int .i64 ((L.length : Int) - ((restV L t n).length : Int))) ∧ PlF w w' p q (restV L t n) M F u0 := by
  obtain ⟨X0, c, ht⟩ := h.1.turnC
  refine (ctrim_any p L X0 t n u c).mono ?_
  rintro e w' ⟨rfl, X', c', d⟩
  obtain ⟨h1, h2⟩ := ht w' _ X' c' d
  exact ⟨rfl, h1, fun k hk => (h2 k hk).trans (h.2 k hk)⟩
theorem prput_any {w u u0 : World} {p q : Nat} {L M : List Ver} {F : Foot} (h : PlF w u p q L M F u0) {V : Ver} (hV : VerOk V) (hM : M.length + 1 ≤ 1000000) :
    Calls Try.prog 14 #[.pointer (some ⟨q, 0, none⟩), vv V] u fun e w' => e = .returned (.int .i64 (putV M V).1) ∧ PlF w w' p q L (putV M V).2 F u0 := by
  refine (rput10_any w.heap.size q M V hV u h.1.store h.1.below.size hM).mono ?_
  rintro e w' ⟨rfl, hs, c⟩
  obtain ⟨h1, h2⟩ := h.1.turnS hs c
  exact ⟨rfl, h1, fun k hk => (h2 k hk).trans (h.2 k hk)⟩
theorem prtrim_any {w u u0 : World} {p q : Nat} {L M : List Ver} {F : Foot} (h : PlF w u p q L M F u0) (t n : Int) :
    Calls Try.prog 16 #[.pointer (some ⟨q, 0, none⟩), .agg #[.int .i64 t, .int .u8 n]] u fun e w' => e = .returned (.int .i64 ((M.length : Int) - ((restV M t n).length : Int))) ∧ PlF w w' p q L (restV M t n) F u0 := by
  refine (rtrim10_any w.heap.size q M t n u h.1.store h.1.below.size).mono ?_
  rintro e w' ⟨rfl, hs, c⟩
  obtain ⟨h1, h2⟩ := h.1.turnS hs c
  exact ⟨rfl, h1, fun k hk => (h2 k hk).trans (h.2 k hk)⟩
theorem PlF.past {w u u' u0 : World} {p q : Nat} {L M : List Ver} {F : Foot} (h : PlF w u p q L M F u0) (hb : Below u.heap.size u u') : PlF w u' p q L M F u0 :=
  ⟨h.1.past hb, fun k hk => (hb.block k (by obtain ⟨X, _, _, _, _, h5⟩ := h.1; exact (h5 k hk).1)).trans (h.2 k hk)⟩
theorem Pl.cd {w u : World} {p q : Nat} {L M : List Ver} {F : Foot} (h : Pl w u p q L M F) : ∃ X, ChD u p L X := by obtain ⟨X, h, _⟩ := h; exact ⟨X, h⟩
/-- A new chain, a new store. -/
theorem pl_new {w u : World} {p : Nat} (h : ChW w u p []) (T : TypeId) : Pl w (u.alloc (.cells #[.slice none 0 0] T)) p u.heap.size [] [] (fun _ => False) := by
  obtain ⟨X, h1, h2, h3⟩ := h
  have hb : Below u.heap.size u (u.alloc (.cells #[.slice none 0 0] T)) := (Below.refl _ _).alloc (Nat.le_refl _) _
  have hs : StoreR (u.alloc (.cells #[.slice none 0 0] T)) w.heap.size u.heap.size [] := by
    have := store_made (u := u) (B := w.heap.size) (a := none) (c := 0) (n := 0) (L := []) rfl (World.ownsRow_nil _ _ _ _) h2.size (fun V hV => by simp at hV) (by simp) T
    exact this
  exact ⟨X, h1.past hb, hs, h2.trans (hb.mono h2.size), fun k hk => ⟨h3 k hk, by have := h1.lt k hk; omega⟩, fun k hk => hk.elim⟩
/-- The version of an act, in its block. -/
structure XF (u : World) (b : Nat) (t n : Int) (s : ByteArray) (g : Bool) : Prop where
  c1 : u.cell? ⟨b, 1, none⟩ = some (.int .i64 t)
  c2 : u.cell? ⟨b, 2, none⟩ = some (.int .u8 n)
  c3 : u.cell? ⟨b, 3, none⟩ = some (.string s)
  c4 : u.cell? ⟨b, 4, none⟩ = some (.bool g)
theorem XF.made (u : World) (op t n : Int) (s : ByteArray) (g : Bool) (T : TypeId) : XF (u.alloc (.cells #[.int .i64 op, .int .i64 t, .int .u8 n, .string s, .bool g] T)) u.heap.size t n s g := by
  constructor <;> (rw [World.cell?_alloc_new]; rfl)
theorem XF.kept {u u' : World} {b : Nat} {t n : Int} {s : ByteArray} {g : Bool} (h : XF u b t n s g) (hk : u'.heap[b]? = u.heap[b]?) : XF u' b t n s g :=
  ⟨(cell_kept hk 1).trans h.c1, (cell_kept hk 2).trans h.c2, (cell_kept hk 3).trans h.c3, (cell_kept hk 4).trans h.c4⟩
theorem KeyAt.kept {u u' : World} {b : Nat} {k : List Int} (h : KeyAt u b 0 k) (hk : u'.heap[b]? = u.heap[b]?) : KeyAt u' b 0 k := ⟨fun j hj => (cell_kept hk _).trans (h.cell j hj)⟩
/-- Between two rounds: the chain and the store hold the same; the key is as it was. -/
def Mid (w u : World) (p q kb : Nat) (L : List Ver) : Prop := Pl w u p q L L (fun k => k = kb) ∧ KeyAt u kb 0 zeroK
theorem Mid.past {w u u' : World} {p q kb : Nat} {L : List Ver} (h : Mid w u p q kb L) (hb : Below u.heap.size u u') : Mid w u' p q kb L := ⟨h.1.past hb, h.2.past hb⟩
/-- Within a round: the chain may be ahead of the store. -/
def Rnd (w u : World) (p q kb xb : Nat) (L M : List Ver) (t n : Int) (s : ByteArray) (g : Bool) : Prop := Pl w u p q L M (fun k => k = kb ∨ k = xb) ∧ KeyAt u kb 0 zeroK ∧ XF u xb t n s g
theorem Mid.round {w u : World} {p q kb : Nat} {L : List Ver} (h : Mid w u p q kb L) (op t n : Int) (s : ByteArray) (g : Bool) (T : TypeId) : Rnd w (u.alloc (.cells #[.int .i64 op, .int .i64 t, .int .u8 n, .string s, .bool g] T)) p q kb u.heap.size L L t n s g :=
  ⟨h.1.keep _, h.2.past ((Below.refl _ _).alloc (Nat.le_refl _) _), XF.made u op t n s g T⟩
theorem Rnd.past {w u u' : World} {p q kb xb : Nat} {L M : List Ver} {t n : Int} {s : ByteArray} {g : Bool} (h : Rnd w u p q kb xb L M t n s g) (hb : Below u.heap.size u u') : Rnd w u' p q kb xb L M t n s g :=
  ⟨h.1.past hb, h.2.1.past hb, h.2.2.kept (hb.block xb (lt_of_cell h.2.2.c1))⟩
theorem Rnd.mid {w u : World} {p q kb xb : Nat} {L : List Ver} {t n : Int} {s : ByteArray} {g : Bool} (h : Rnd w u p q kb xb L L t n s g) : Mid w u p q kb L := ⟨h.1.less (fun k hk => .inl hk), h.2.1⟩
theorem Rnd.of {w u u' : World} {p q kb xb : Nat} {L M L' M' : List Ver} {t n : Int} {s : ByteArray} {g : Bool} (h : Rnd w u p q kb xb L M t n s g) (h' : PlF w u' p q L' M' (fun k => k = kb ∨ k = xb) u) : Rnd w u' p q kb xb L' M' t n s g :=
  ⟨h'.1, h.2.1.kept (h'.2 kb (.inl rfl)), h.2.2.kept (h'.2 xb (.inr rfl))⟩
theorem Rnd.f {w u : World} {p q kb xb : Nat} {L M : List Ver} {t n : Int} {s : ByteArray} {g : Bool} (h : Rnd w u p q kb xb L M t n s g) : PlF w u p q L M (fun k => k = kb ∨ k = xb) u := ⟨h.1, fun _ _ => rfl⟩
theorem qput_any {w u : World} {p q kb xb : Nat} {L M : List Ver} {t n : Int} {s : ByteArray} {g : Bool} (h : Rnd w u p q kb xb L M t n s g) {V : Ver} (hV : VerIn V) :
    Calls Try.prog 10 #[.pointer (some ⟨p, 0, none⟩), cvv V] u fun e w' => e = .returned (.int .i64 (putV L V).1) ∧ Rnd w w' p q kb xb (putV L V).2 M t n s g :=
  (pput_any h.f hV).mono fun e w' ⟨h1, h2⟩ => ⟨h1, h.of h2⟩
theorem qtrim_any {w u : World} {p q kb xb : Nat} {L M : List Ver} {t n : Int} {s : ByteArray} {g : Bool} (h : Rnd w u p q kb xb L M t n s g) (t' n' : Int) :
    Calls Try.prog 12 #[.pointer (some ⟨p, 0, none⟩), .agg #[.int .i64 t', .int .u8 n']] u fun e w' => e = .returned (.int .i64 ((L.length : Int) - ((restV L t' n').length : Int))) ∧ Rnd w w' p q kb xb (restV L t' n') M t n s g :=
  (ptrim_any h.f t' n').mono fun e w' ⟨h1, h2⟩ => ⟨h1, h.of h2⟩
theorem qrput_any {w u : World} {p q kb xb : Nat} {L M : List Ver} {t n : Int} {s : ByteArray} {g : Bool} (h : Rnd w u p q kb xb L M t n s g) {V : Ver} (hV : VerOk V) (hM : M.length + 1 ≤ 1000000) :
    Calls Try.prog 14 #[.pointer (some ⟨q, 0, none⟩), vv V] u fun e w' => e = .returned (.int .i64 (putV M V).1) ∧ Rnd w w' p q kb xb L (putV M V).2 t n s g :=
  (prput_any h.f hV hM).mono fun e w' ⟨h1, h2⟩ => ⟨h1, h.of h2⟩
theorem qrtrim_any {w u : World} {p q kb xb : Nat} {L M : List Ver} {t n : Int} {s : ByteArray} {g : Bool} (h : Rnd w u p q kb xb L M t n s g) (t' n' : Int) :
    Calls Try.prog 16 #[.pointer (some ⟨q, 0, none⟩), .agg #[.int .i64 t', .int .u8 n']] u fun e w' => e = .returned (.int .i64 ((M.length : Int) - ((restV M t' n').length : Int))) ∧ Rnd w w' p q kb xb L (restV M t' n') t n s g :=
  (prtrim_any h.f t' n').mono fun e w' ⟨h1, h2⟩ => ⟨h1, h.of h2⟩
theorem mid_new {w u : World} {p : Nat} (h : ChW w u p []) (T T' : TypeId) : Mid w ((u.alloc (.cells #[.slice none 0 0] T)).alloc (.cells (kcs zeroK) T')) p u.heap.size (u.heap.size + 1) [] := by
  have e : (u.alloc (.cells #[.slice none 0 0] T)).heap.size = u.heap.size + 1 := by simp
  have h1 := (pl_new h T).keep (.cells (kcs zeroK) T')
  have h2 := KeyAt.made (u.alloc (.cells #[.slice none 0 0] T)) T' zeroK zeroK_ky
  rw [e] at h1 h2
  exact ⟨h1.less (fun k hk => .inr hk), h2⟩
/-- What a round has seen, each in a block of its own. -/
structure Seen (W u : World) (p q kb : Nat) (L : List Ver) (ab vb nb mb : Nat) (A : Ver) (tx nx : Int) (X1 : ByteArray) (gx : Bool) (ty ny : Int) (Y1 : ByteArray) (gy : Bool) : Prop where
  mid : Mid W u p q kb L
  a : BxA u ab tx nx X1 gx
  v : VerAt u vb 0 A
  n : BxA u nb ty ny Y1 gy
  m0 : u.cell? ⟨mb, 0, none⟩ = some (.int .i64 ty)
  m1 : u.cell? ⟨mb, 1, none⟩ = some (.int .u8 ny)
theorem Seen.past {W u u' : World} {p q kb : Nat} {L : List Ver} {ab vb nb mb : Nat} {A : Ver} {tx nx : Int} {X1 : ByteArray} {gx : Bool} {ty ny : Int} {Y1 : ByteArray} {gy : Bool} (h : Seen W u p q kb L ab vb nb mb A tx nx X1 gx ty ny Y1 gy) (hb : Below u.heap.size u u') : Seen W u' p q kb L ab vb nb mb A tx nx X1 gx ty ny Y1 gy :=
  ⟨h.mid.past hb, h.a.past hb, h.v.past hb, h.n.past hb, (hb.cell (p := ⟨mb, 0, none⟩) (lt_of_cell h.m0)).trans h.m0, (hb.cell (p := ⟨mb, 1, none⟩) (lt_of_cell h.m1)).trans h.m1⟩
theorem new_zero (o : Option Ver) : newT o = (orZero o).t ∧ newN o = (orZero o).n := by cases o <;> exact ⟨rfl, rfl⟩
theorem since_take {L : List Ver} {z : Nat} {V : Ver} (h : L[z]? = some V) (t n : Int) : sinceV (L.take (z + 1)) t n = sinceV (L.take z) t n + if 0 < cmpS V.t V.n t n then 1 else 0 := by
  unfold sinceV
  rw [List.take_add_one, h, List.filter_append, List.length_append]
  by_cases hc : 0 < cmpS V.t V.n t n
  · rw [if_pos hc]; simp [hc]
  · rw [if_neg hc]; simp [hc]
theorem chn_new {L : List Ver} (h : Chn L) : VerOk (orZero (newestV L zeroK)) := by
  unfold newestV
  rw [one_chain h.one]
  cases hl : L.getLast? with
  | none => exact zeroV_ok
  | some X => exact (chn_mem h (List.mem_of_getLast? hl)).1
theorem seven_past {W w6 v u : World} {p q kb ab : Nat} {L : List Ver} {tx nx : Int} {X1 : ByteArray} {gx : Bool} {A : Ver} (h : Mid W w6 p q kb L) (ha : BxA w6 ab tx nx X1 gx) (hv : VerMine v w6.heap.size 0 zeroV) (hA : Ky A.k) (hb : Below w6.heap.size w6 v) (hu : u = v.setCells w6.heap.size 0 (encV A)) :
    Mid W u p q kb L ∧ BxA u ab tx nx X1 gx ∧ VerAt u w6.heap.size 0 A := by
  have hb2 : Below w6.heap.size w6 u := by rw [hu]; exact below_cells (Nat.le_refl _) hb
  exact ⟨h.past hb2, ha.past hb2, by rw [hu]; exact (hv.store hA).at_⟩
theorem eight_past {W u7 w8 : World} {p q kb ab vb : Nat} {L : List Ver} {tx nx : Int} {X1 : ByteArray} {gx : Bool} {A : Ver} (h : Mid W u7 p q kb L) (ha : BxA u7 ab tx nx X1 gx) (hv : VerAt u7 vb 0 A) (hb : Below u7.heap.size u7 w8) (ty ny : Int) (Y1 : ByteArray) (gy : Bool) (T : TypeId) :
    Mid W (w8.alloc (.cells #[.int .i64 ty, .int .u8 ny, .string Y1, .bool gy] T)) p q kb L ∧ BxA (w8.alloc (.cells #[.int .i64 ty, .int .u8 ny, .string Y1, .bool gy] T)) ab tx nx X1 gx ∧ VerAt (w8.alloc (.cells #[.int .i64 ty, .int .u8 ny, .string Y1, .bool gy] T)) vb 0 A ∧ BxA (w8.alloc (.cells #[.int .i64 ty, .int .u8 ny, .string Y1, .bool gy] T)) w8.heap.size ty ny Y1 gy := by
  have hb2 : Below w8.heap.size w8 (w8.alloc (.cells #[.int .i64 ty, .int .u8 ny, .string Y1, .bool gy] T)) := (Below.refl _ _).alloc (Nat.le_refl _) _
  exact ⟨(h.past hb).past hb2, (ha.past hb).past hb2, (hv.past hb).past hb2, BxA.made w8 T ty ny Y1 gy⟩
theorem nine_past {W u8 w9 : World} {p q kb ab vb nb : Nat} {L : List Ver} {tx nx : Int} {X1 : ByteArray} {gx : Bool} {A : Ver} {ty ny : Int} {Y1 : ByteArray} {gy : Bool} (h : Mid W u8 p q kb L) (ha : BxA u8 ab tx nx X1 gx) (hv : VerAt u8 vb 0 A) (hn : BxA u8 nb ty ny Y1 gy) (hb : Below u8.heap.size u8 w9) (T : TypeId) :
    ∃ U9, Hid (w9.alloc (.cells #[.int .i64 ty, .int .u8 ny] T) = U9) ∧ Hid (Seen W U9 p q kb L ab vb nb w9.heap.size A tx nx X1 gx ty ny Y1 gy) := by
  have hb2 : Below w9.heap.size w9 (w9.alloc (.cells #[.int .i64 ty, .int .u8 ny] T)) := (Below.refl _ _).alloc (Nat.le_refl _) _
  exact ⟨_, rfl, (h.past hb).past hb2, (ha.past hb).past hb2, (hv.past hb).past hb2, (hn.past hb).past hb2, by rw [World.cell?_alloc_new]; rfl, by rw [World.cell?_alloc_new]; rfl⟩
end Go.Proofs.Ytimiciellbdphaa
