/-
  The landed stores in memory: a map from keys to chains, each chain with blocks of its own; what stays of a store while one of its chains turns, or a new one comes. No function of the program is named here.
-/
import Derived.Test.YtpnjcflfnoamoaaGreatStoPlain
import Derived.Test.YtpnjcflfnoamoaaGreatAu33
import Derived.Test.YtpnjcflfnoamoaaGreatChainC
namespace Go.Proofs.YtpnjcflfnoamoaaGreat
open Go.RowKit
set_option linter.unusedVariables false

/-- A store in memory: p its block, m its map's, G k the block of the chain at key k, Y k that chain's blocks; C k: what the chain at k holds. -/
structure StI (u : World) (p : Nat) (C : List Int → List Ver) (X : Foot) (m : Nat) (G : List Int → Option Nat) (Y : List Int → Foot) : Prop where
  own : X p
  lt : ∀ k, X k → k < u.heap.size
  xm : X m
  mp : m ≠ p
  c0 : u.cell? ⟨p, 0, none⟩ = some (.map (some m))
  map : KMap u m G
  file : ∀ k g, Ky k → G k = some g → ChD u g (C k) (Y k)
  empty : ∀ k, Ky k → G k = none → C k = []
  foot : ∀ k b, Y k b → X b ∧ b ≠ p ∧ b ≠ m
  apart : ∀ k k' b, Y k b → Y k' b → k = k'
theorem StI.kept {u u' : World} {p m : Nat} {C : List Int → List Ver} {X : Foot} {G : List Int → Option Nat} {Y : List Int → Foot} (h : StI u p C X m G Y) (hs : u.heap.size ≤ u'.heap.size) (hk : ∀ k, X k → u'.heap[k]? = u.heap[k]?) : StI u' p C X m G Y :=
  ⟨h.own, fun k x => Nat.lt_of_lt_of_le (h.lt k x) hs, h.xm, h.mp, (cell_kept (hk p h.own) 0).trans h.c0, h.map.kept (hk m h.xm), fun k g hky hg => (h.file k g hky hg).kept hs (fun b x => hk b (h.foot k b x).1), h.empty, h.foot, h.apart⟩
theorem StI.past {u u' : World} {p m : Nat} {C : List Int → List Ver} {X : Foot} {G : List Int → Option Nat} {Y : List Int → Foot} (h : StI u p C X m G Y) (hb : Below u.heap.size u u') : StI u' p C X m G Y := h.kept hb.size (fun k x => hb.block k (h.lt k x))
theorem StI.congr {u : World} {p m : Nat} {C C' : List Int → List Ver} {X : Foot} {G : List Int → Option Nat} {Y : List Int → Foot} (h : StI u p C X m G Y) (hc : ∀ k, Ky k → C k = C' k) : StI u p C' X m G Y :=
  ⟨h.own, h.lt, h.xm, h.mp, h.c0, h.map, fun k g hky hg => hc k hky ▸ h.file k g hky hg, fun k hky hg => by rw [← hc k hky]; exact h.empty k hky hg, h.foot, h.apart⟩
def updL {α : Type} (F : List Int → α) (k : List Int) (v : α) : List Int → α := fun x => if x = k then v else F x
theorem updL_same {α : Type} (F : List Int → α) (k : List Int) (v : α) : updL F k v k = v := if_pos rfl
theorem updL_other {α : Type} {F : List Int → α} {k x : List Int} {v : α} (h : x ≠ k) : updL F k v x = F x := if_neg h
/-- The chain at a key turns. -/
theorem StI.turn {u u' : World} {p m g : Nat} {C : List Int → List Ver} {X : Foot} {G : List Int → Option Nat} {Y : List Int → Foot} {k : List Int} {M : List Ver} {Y' : Foot} (h : StI u p C X m G Y) (hk : Ky k) (hg : G k = some g) (hf : ChD u' g M Y') (hd : Did u u' (Y k) Y') :
    ∃ X', StI u' p (updL C k M) X' m G (updL Y k Y') ∧ Did u u' X X' ∧ u'.heap[m]? = u.heap[m]? := by
  have hpm : ¬ Y k p ∧ ¬ Y k m := ⟨fun x => (h.foot k p x).2.1 rfl, fun x => (h.foot k m x).2.2 rfl⟩
  have kp := hd.chg.block p (h.lt p h.own) hpm.1
  have km := hd.chg.block m (h.lt m h.xm) hpm.2
  refine ⟨fun b => X b ∨ Y' b, ⟨.inl h.own, ?_, .inl h.xm, h.mp, (cell_kept kp 0).trans h.c0, h.map.kept km, ?_, ?_, ?_, ?_⟩, ⟨hd.chg.mono (fun b _ x => (h.foot k b x).1), ?_⟩, km⟩
  · rintro b (x | x)
    · exact Nat.lt_of_lt_of_le (h.lt b x) hd.chg.size
    · exact hf.lt b x
  · intro k' g' hky hg'
    by_cases e : k' = k
    · subst e
      rw [hg] at hg'
      obtain rfl := Option.some.inj hg'
      rw [updL_same, updL_same]
      exact hf
    · rw [updL_other e, updL_other e]
      exact (h.file k' g' hky hg').kept hd.chg.size (fun b x => hd.chg.block b (h.lt b (h.foot k' b x).1) (fun y => e (h.apart k' k b x y)))
  · intro k' hky hg'
    by_cases e : k' = k
    · subst e; rw [hg] at hg'; cases hg'
    · rw [updL_other e]; exact h.empty k' hky hg'
  · intro k' b x
    by_cases e : k' = k
    · subst e
      rw [updL_same] at x
      refine ⟨.inr x, ?_, ?_⟩
      · rintro rfl
        rcases (hd.new b x).1 with y | y
        · exact hpm.1 y
        · have := h.lt b h.own; omega
      · rintro rfl
        rcases (hd.new b x).1 with y | y
        · exact hpm.2 y
        · have := h.lt b h.xm; omega
    · rw [updL_other e] at x
      exact ⟨.inl (h.foot k' b x).1, (h.foot k' b x).2⟩
  · intro k1 k2 b x1 x2
    have far : ∀ k', k' ≠ k → Y k' b → Y' b → False := fun k' e y y' => by
      rcases (hd.new b y').1 with z | z
      · exact e (h.apart k' k b y z)
      · have := h.lt b (h.foot k' b y).1; omega
    by_cases e1 : k1 = k <;> by_cases e2 : k2 = k
    · rw [e1, e2]
    · subst e1; rw [updL_same] at x1; rw [updL_other e2] at x2; exact (far k2 e2 x2 x1).elim
    · subst e2; rw [updL_same] at x2; rw [updL_other e1] at x1; exact (far k1 e1 x1 x2).elim
    · rw [updL_other e1] at x1; rw [updL_other e2] at x2; exact h.apart k1 k2 b x1 x2
  · rintro b (x | x)
    · exact ⟨.inl x, Nat.lt_of_lt_of_le (h.lt b x) hd.chg.size⟩
    · refine ⟨?_, (hd.new b x).2⟩
      rcases (hd.new b x).1 with y | y
      · exact .inl (h.foot k b y).1
      · exact .inr y
/-- A new chain comes to a key that has none: made in u1, then laid into the map. -/
theorem StI.add {u u1 u2 : World} {p m g : Nat} {C : List Int → List Ver} {X : Foot} {G : List Int → Option Nat} {Y : List Int → Foot} {k : List Int} {Y' : Foot} (h : StI u p C X m G Y) (hk : Ky k) (hb : Below u.heap.size u u1) (hf : ChD u1 g [] Y') (hn : ∀ b, Y' b → u.heap.size ≤ b) (ht : u1.mapTurned u2 m) (hm : KMap u2 m (putK G k (some g))) :
    ∃ X', StI u2 p (updL C k []) X' m (putK G k (some g)) (updL Y k Y') ∧ Did u u2 X X' := by
  have hc := turned_chg ht (X := fun b => b = m) rfl
  have hml : m < u.heap.size := h.lt m h.xm
  have hk2 : ∀ b, b < u1.heap.size → b ≠ m → u2.heap[b]? = u1.heap[b]? := fun b hb hn => hc.block b hb hn
  have hk1 : ∀ b, X b → b ≠ m → u2.heap[b]? = u.heap[b]? := fun b x e => (hk2 b (Nat.lt_of_lt_of_le (h.lt b x) hb.size) e).trans (hb.block b (h.lt b x))
  have hsz : u.heap.size ≤ u2.heap.size := Nat.le_trans hb.size hc.size
  refine ⟨fun b => X b ∨ Y' b, ⟨.inl h.own, ?_, .inl h.xm, h.mp, (cell_kept (hk1 p h.own (Ne.symm h.mp)) 0).trans h.c0, hm, ?_, ?_, ?_, ?_⟩, ⟨?_, ?_⟩⟩
  · rintro b (x | x)
    · exact Nat.lt_of_lt_of_le (h.lt b x) hsz
    · exact Nat.lt_of_lt_of_le (hf.lt b x) hc.size
  · intro k' g' hky hg'
    by_cases e : k' = k
    · subst e
      rw [putK_same] at hg'
      obtain rfl := Option.some.inj hg'
      rw [updL_same, updL_same]
      exact hf.kept hc.size (fun b x => hk2 b (hf.lt b x) (fun e => by have := hn b x; omega))
    · rw [putK_other e] at hg'
      rw [updL_other e, updL_other e]
      exact (h.file k' g' hky hg').kept hsz (fun b x => hk1 b (h.foot k' b x).1 (h.foot k' b x).2.2)
  · intro k' hky hg'
    by_cases e : k' = k
    · subst e; rw [putK_same] at hg'; cases hg'
    · rw [putK_other e] at hg'; rw [updL_other e]; exact h.empty k' hky hg'
  · intro k' b x
    by_cases e : k' = k
    · subst e
      rw [updL_same] at x
      have := hn b x
      have := h.lt p h.own
      exact ⟨.inr x, by omega, by omega⟩
    · rw [updL_other e] at x
      exact ⟨.inl (h.foot k' b x).1, (h.foot k' b x).2⟩
  · intro k1 k2 b x1 x2
    have far : ∀ k', Y k' b → Y' b → False := fun k' y y' => by
      have := hn b y'
      have := h.lt b (h.foot k' b y).1
      omega
    by_cases e1 : k1 = k <;> by_cases e2 : k2 = k
    · rw [e1, e2]
    · subst e1; rw [updL_same] at x1; rw [updL_other e2] at x2; exact (far k2 x2 x1).elim
    · subst e2; rw [updL_same] at x2; rw [updL_other e1] at x1; exact (far k1 x1 x2).elim
    · rw [updL_other e1] at x1; rw [updL_other e2] at x2; exact h.apart k1 k2 b x1 x2
  · exact (Chg.of_below hb X).trans hc (fun b _ e => by rw [e]; exact h.xm)
  · rintro b (x | x)
    · exact ⟨.inl x, Nat.lt_of_lt_of_le (h.lt b x) hsz⟩
    · exact ⟨.inr (hn b x), Nat.lt_of_lt_of_le (hf.lt b x) hc.size⟩
/-- The chain at a key, which is empty, goes. -/
theorem StI.gone {u u2 : World} {p m : Nat} {C : List Int → List Ver} {X : Foot} {G : List Int → Option Nat} {Y : List Int → Foot} {k : List Int} (h : StI u p C X m G Y) (hk : Ky k) (hc0 : C k = []) (ht : u.mapTurned u2 m) (hm : KMap u2 m (putK G k none)) :
    StI u2 p C X m (putK G k none) Y ∧ Did u u2 X X := by
  have hc := turned_chg ht (X := fun b => b = m) rfl
  have hk1 : ∀ b, X b → b ≠ m → u2.heap[b]? = u.heap[b]? := fun b x e => hc.block b (h.lt b x) e
  refine ⟨⟨h.own, fun b x => Nat.lt_of_lt_of_le (h.lt b x) hc.size, h.xm, h.mp, (cell_kept (hk1 p h.own (Ne.symm h.mp)) 0).trans h.c0, hm, fun k' g' hky hg' => ?_, fun k' hky hg' => ?_, h.foot, h.apart⟩, Did.same (hc.mono (fun b _ e => by rw [e]; exact h.xm)) h.lt⟩
  · by_cases e : k' = k
    · subst e; rw [putK_same] at hg'; cases hg'
    · rw [putK_other e] at hg'
      exact (h.file k' g' hky hg').kept hc.size (fun b x => hk1 b (h.foot k' b x).1 (h.foot k' b x).2.2)
  · by_cases e : k' = k
    · subst e; exact hc0
    · rw [putK_other e] at hg'; exact h.empty k' hky hg'
/-- A store in memory, as the one list of its versions; no chain of it is empty. -/
def StD (u : World) (p : Nat) (L : List Ver) (X : Foot) : Prop := StoG L ∧ ∃ m G Y, StI u p (oneV L) X m G Y ∧ ∀ k g, Ky k → G k = some g → oneV L k ≠ []
theorem StD.own {u : World} {p : Nat} {L : List Ver} {X : Foot} (h : StD u p L X) : X p := by obtain ⟨_, m, G, Y, h, _⟩ := h; exact h.own
theorem StD.lt {u : World} {p : Nat} {L : List Ver} {X : Foot} (h : StD u p L X) : ∀ k, X k → k < u.heap.size := by obtain ⟨_, m, G, Y, h, _⟩ := h; exact h.lt
theorem StD.kept {u u' : World} {p : Nat} {L : List Ver} {X : Foot} (h : StD u p L X) (hs : u.heap.size ≤ u'.heap.size) (hk : ∀ k, X k → u'.heap[k]? = u.heap[k]?) : StD u' p L X := by obtain ⟨g, m, G, Y, h, e⟩ := h; exact ⟨g, m, G, Y, h.kept hs hk, e⟩
theorem StD.past {u u' : World} {p : Nat} {L : List Ver} {X : Foot} (h : StD u p L X) (hb : Below u.heap.size u u') : StD u' p L X := h.kept hb.size (fun k x => hb.block k (h.lt k x))
theorem sti_keys {u : World} {p m : Nat} {L : List Ver} {X : Foot} {G : List Int → Option Nat} {Y : List Int → Foot} (hL : OrdK L) (hk : ∀ V ∈ L, Ky V.k) (h : StI u p (oneV L) X m G Y) (he : ∀ k g, Ky k → G k = some g → oneV L k ≠ []) : KeyL G (keysV L) := by
  refine ⟨fun k hk' => ?_, keys_nodup hL, fun k hky => ?_⟩
  · obtain ⟨V, hV, e⟩ := (keys_mem L k).1 hk'
    rw [← e]; exact hk V hV
  · rw [← one_nil hL]
    cases hg : G k with
    | none => simp [h.empty k hky hg]
    | some g => simp [he k g hky hg]
theorem zero_chn (u : World) : (zeroValue 103).run Tryz.prog u = .ok (.pointer none) u := by kernel_rfl
theorem StI.look {u : World} {p m : Nat} {C : List Int → List Ver} {X : Foot} {G : List Int → Option Nat} {Y : List Int → Foot} (h : StI u p C X m G Y) {k : List Int} (hk : Ky k) :
    (Instr.lookup 98 (.map (some m)) (kv k) true).run Tryz.prog u = .ok (.tuple #[ptrV (G k), .bool (G k).isSome]) u := h.map.look Tryz.underlying98 (zero_chn u) k hk
end Go.Proofs.YtpnjcflfnoamoaaGreat
