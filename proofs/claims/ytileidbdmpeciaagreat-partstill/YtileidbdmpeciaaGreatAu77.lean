/-
  The landed stores in memory: a map from keys to chains, each chain with blocks of its own; what stays of a store while one of its chains turns, or a new one comes. No function of the program is named here.
  The landed parts in memory (package part: Part): a store, a table, a map of what is over, each with blocks of its own; what stays while one of them turns. No function of the program is named here.
-/
import Derived.Test.YtileidbdmpeciaaGreatAu84
import Derived.Test.YtileidbdmpeciaaGreatAu87
import Derived.Test.YtileidbdmpeciaaGreatChainC
import Derived.Test.YtileidbdmpeciaaGreatAu82
import Derived.Test.YtileidbdmpeciaaGreatAu85
import Derived.Test.YtileidbdmpeciaaGreatAu71
import Derived.Test.YtileidbdmpeciaaGreatAu73
namespace Go.Proofs.YtileidbdmpeciaaGreat
open Go.RowKit
set_option linter.unusedVariables false

/-- A store in memory: p its block, m its map's, G k the block of the chain at key k, Y k that chain's blocks; C k: what the chain at k holds. -/
structure StI (u : World) (p : Nat) (C : List Int → List Ver) (X : Foot) (m : Nat) (G : List Int → Option Nat) (Y : List Int → Foot) : Prop where
  own : X p
  lt : ∀ k, X k → k < u.heap.size
  xm : X m
  mp : m ≠ p
  c0 : u.cell? ⟨p, 0, none⟩ = some (.map (some m))
  map : KMap u m G
  file : ∀ k g, Ky k → G k = some g → ChD u g (C k) (Y k)
  empty : ∀ k, Ky k → G k = none → C k = []
  foot : ∀ k b, Y k b → X b ∧ b ≠ p ∧ b ≠ m
  apart : ∀ k k' b, Y k b → Y k' b → k = k'
theorem StI.kept {u u' : World} {p m : Nat} {C : List Int → List Ver} {X : Foot} {G : List Int → Option Nat} {Y : List Int → Foot} (h : StI u p C X m G Y) (hs : u.heap.size ≤ u'.heap.size) (hk : ∀ k, X k → u'.heap[k]? = u.heap[k]?) : StI u' p C X m G Y :=
  ⟨h.own, fun k x => Nat.lt_of_lt_of_le (h.lt k x) hs, h.xm, h.mp, (cell_kept (hk p h.own) 0).trans h.c0, h.map.kept (hk m h.xm), fun k g hky hg => (h.file k g hky hg).kept hs (fun b x => hk b (h.foot k b x).1), h.empty, h.foot, h.apart⟩
theorem StI.past {u u' : World} {p m : Nat} {C : List Int → List Ver} {X : Foot} {G : List Int → Option Nat} {Y : List Int → Foot} (h : StI u p C X m G Y) (hb : Below u.heap.size u u') : StI u' p C X m G Y := h.kept hb.size (fun k x => hb.block k (h.lt k x))
theorem StI.congr {u : World} {p m : Nat} {C C' : List Int → List Ver} {X : Foot} {G : List Int → Option Nat} {Y : List Int → Foot} (h : StI u p C X m G Y) (hc : ∀ k, Ky k → C k = C' k) : StI u p C' X m G Y :=
  ⟨h.own, h.lt, h.xm, h.mp, h.c0, h.map, fun k g hky hg => hc k hky ▸ h.file k g hky hg, fun k hky hg => by rw [← hc k hky]; exact h.empty k hky hg, h.foot, h.apart⟩
def updL {α : Type} (F : List Int → α) (k : List Int) (v : α) : List Int → α := fun x => if x = k then v else F x
theorem updL_same {α : Type} (F : List Int → α) (k : List Int) (v : α) : updL F k v k = v := if_pos rfl
theorem updL_other {α : Type} {F : List Int → α} {k x : List Int} {v : α} (h : x ≠ k) : updL F k v x = F x := if_neg h
/-- The chain at a key turns. -/
theorem StI.turn {u u' : World} {p m g : Nat} {C : List Int → List Ver} {X : Foot} {G : List Int → Option Nat} {Y : List Int → Foot} {k : List Int} {M : List Ver} {Y' : Foot} (h : StI u p C X m G Y) (hk : Ky k) (hg : G k = some g) (hf : ChD u' g M Y') (hd : Did u u' (Y k) Y') :
    ∃ X', StI u' p (updL C k M) X' m G (updL Y k Y') ∧ Did u u' X X' ∧ u'.heap[m]? = u.heap[m]? := by
  have hpm : ¬ Y k p ∧ ¬ Y k m := ⟨fun x => (h.foot k p x).2.1 rfl, fun x => (h.foot k m x).2.2 rfl⟩
  have kp := hd.chg.block p (h.lt p h.own) hpm.1
  have km := hd.chg.block m (h.lt m h.xm) hpm.2
  refine ⟨fun b => X b ∨ Y' b, ⟨.inl h.own, ?_, .inl h.xm, h.mp, (cell_kept kp 0).trans h.c0, h.map.kept km, ?_, ?_, ?_, ?_⟩, ⟨hd.chg.mono (fun b _ x => (h.foot k b x).1), ?_⟩, km⟩
  · rintro b (x | x)
    · exact Nat.lt_of_lt_of_le (h.lt b x) hd.chg.size
    · exact hf.lt b x
  · intro k' g' hky hg'
    by_cases e : k' = k
    · subst e
      rw [hg] at hg'
      obtain rfl := Option.some.inj hg'
      rw [updL_same, updL_same]
      exact hf
    · rw [updL_other e, updL_other e]
      exact (h.file k' g' hky hg').kept hd.chg.size (fun b x => hd.chg.block b (h.lt b (h.foot k' b x).1) (fun y => e (h.apart k' k b x y)))
  · intro k' hky hg'
    by_cases e : k' = k
    · subst e; rw [hg] at hg'; cases hg'
    · rw [updL_other e]; exact h.empty k' hky hg'
  · intro k' b x
    by_cases e : k' = k
    · subst e
      rw [updL_same] at x
      refine ⟨.inr x, ?_, ?_⟩
      · rintro rfl
        rcases (hd.new b x).1 with y | y
        · exact hpm.1 y
        · have := h.lt b h.own; omega
      · rintro rfl
        rcases (hd.new b x).1 with y | y
        · exact hpm.2 y
        · have := h.lt b h.xm; omega
    · rw [updL_other e] at x
      exact ⟨.inl (h.foot k' b x).1, (h.foot k' b x).2⟩
  · intro k1 k2 b x1 x2
    have far : ∀ k', k' ≠ k → Y k' b → Y' b → False := fun k' e y y' => by
      rcases (hd.new b y').1 with z | z
      · exact e (h.apart k' k b y z)
      · have := h.lt b (h.foot k' b y).1; omega
    by_cases e1 : k1 = k <;> by_cases e2 : k2 = k
    · rw [e1, e2]
    · subst e1; rw [updL_same] at x1; rw [updL_other e2] at x2; exact (far k2 e2 x2 x1).elim
    · subst e2; rw [updL_same] at x2; rw [updL_other e1] at x1; exact (far k1 e1 x1 x2).elim
    · rw [updL_other e1] at x1; rw [updL_other e2] at x2; exact h.apart k1 k2 b x1 x2
  · rintro b (x | x)
    · exact ⟨.inl x, Nat.lt_of_lt_of_le (h.lt b x) hd.chg.size⟩
    · refine ⟨?_, (hd.new b x).2⟩
      rcases (hd.new b x).1 with y | y
      · exact .inl (h.foot k b y).1
      · exact .inr y
/-- A new chain comes to a key that has none: made in u1, then laid into the map. -/
theorem StI.add {u u1 u2 : World} {p m g : Nat} {C : List Int → List Ver} {X : Foot} {G : List Int → Option Nat} {Y : List Int → Foot} {k : List Int} {Y' : Foot} (h : StI u p C X m G Y) (hk : Ky k) (hb : Below u.heap.size u u1) (hf : ChD u1 g [] Y') (hn : ∀ b, Y' b → u.heap.size ≤ b) (ht : u1.mapTurned u2 m) (hm : KMap u2 m (putK G k (some g))) :
    ∃ X', StI u2 p (updL C k []) X' m (putK G k (some g)) (updL Y k Y') ∧ Did u u2 X X' := by
  have hc := turned_chg ht (X := fun b => b = m) rfl
  have hml : m < u.heap.size := h.lt m h.xm
  have hk2 : ∀ b, b < u1.heap.size → b ≠ m → u2.heap[b]? = u1.heap[b]? := fun b hb hn => hc.block b hb hn
  have hk1 : ∀ b, X b → b ≠ m → u2.heap[b]? = u.heap[b]? := fun b x e => (hk2 b (Nat.lt_of_lt_of_le (h.lt b x) hb.size) e).trans (hb.block b (h.lt b x))
  have hsz : u.heap.size ≤ u2.heap.size := Nat.le_trans hb.size hc.size
  refine ⟨fun b => X b ∨ Y' b, ⟨.inl h.own, ?_, .inl h.xm, h.mp, (cell_kept (hk1 p h.own (Ne.symm h.mp)) 0).trans h.c0, hm, ?_, ?_, ?_, ?_⟩, ⟨?_, ?_⟩⟩
  · rintro b (x | x)
    · exact Nat.lt_of_lt_of_le (h.lt b x) hsz
    · exact Nat.lt_of_lt_of_le (hf.lt b x) hc.size
  · intro k' g' hky hg'
    by_cases e : k' = k
    · subst e
      rw [putK_same] at hg'
      obtain rfl := Option.some.inj hg'
      rw [updL_same, updL_same]
      exact hf.kept hc.size (fun b x => hk2 b (hf.lt b x) (fun e => by have := hn b x; omega))
    · rw [putK_other e] at hg'
      rw [updL_other e, updL_other e]
      exact (h.file k' g' hky hg').kept hsz (fun b x => hk1 b (h.foot k' b x).1 (h.foot k' b x).2.2)
  · intro k' hky hg'
    by_cases e : k' = k
    · subst e; rw [putK_same] at hg'; cases hg'
    · rw [putK_other e] at hg'; rw [updL_other e]; exact h.empty k' hky hg'
  · intro k' b x
    by_cases e : k' = k
    · subst e
      rw [updL_same] at x
      have := hn b x
      have := h.lt p h.own
      exact ⟨.inr x, by omega, by omega⟩
    · rw [updL_other e] at x
      exact ⟨.inl (h.foot k' b x).1, (h.foot k' b x).2⟩
  · intro k1 k2 b x1 x2
    have far : ∀ k', Y k' b → Y' b → False := fun k' y y' => by
      have := hn b y'
      have := h.lt b (h.foot k' b y).1
      omega
    by_cases e1 : k1 = k <;> by_cases e2 : k2 = k
    · rw [e1, e2]
    · subst e1; rw [updL_same] at x1; rw [updL_other e2] at x2; exact (far k2 x2 x1).elim
    · subst e2; rw [updL_same] at x2; rw [updL_other e1] at x1; exact (far k1 x1 x2).elim
    · rw [updL_other e1] at x1; rw [updL_other e2] at x2; exact h.apart k1 k2 b x1 x2
  · exact (Chg.of_below hb X).trans hc (fun b _ e => by rw [e]; exact h.xm)
  · rintro b (x | x)
    · exact ⟨.inl x, Nat.lt_of_lt_of_le (h.lt b x) hsz⟩
    · exact ⟨.inr (hn b x), Nat.lt_of_lt_of_le (hf.lt b x) hc.size⟩
/-- The chain at a key, which is empty, goes. -/
theorem StI.gone {u u2 : World} {p m : Nat} {C : List Int → List Ver} {X : Foot} {G : List Int → Option Nat} {Y : List Int → Foot} {k : List Int} (h : StI u p C X m G Y) (hk : Ky k) (hc0 : C k = []) (ht : u.mapTurned u2 m) (hm : KMap u2 m (putK G k none)) :
    StI u2 p C X m (putK G k none) Y ∧ Did u u2 X X := by
  have hc := turned_chg ht (X := fun b => b = m) rfl
  have hk1 : ∀ b, X b → b ≠ m → u2.heap[b]? = u.heap[b]? := fun b x e => hc.block b (h.lt b x) e
  refine ⟨⟨h.own, fun b x => Nat.lt_of_lt_of_le (h.lt b x) hc.size, h.xm, h.mp, (cell_kept (hk1 p h.own (Ne.symm h.mp)) 0).trans h.c0, hm, fun k' g' hky hg' => ?_, fun k' hky hg' => ?_, h.foot, h.apart⟩, Did.same (hc.mono (fun b _ e => by rw [e]; exact h.xm)) h.lt⟩
  · by_cases e : k' = k
    · subst e; rw [putK_same] at hg'; cases hg'
    · rw [putK_other e] at hg'
      exact (h.file k' g' hky hg').kept hc.size (fun b x => hk1 b (h.foot k' b x).1 (h.foot k' b x).2.2)
  · by_cases e : k' = k
    · subst e; exact hc0
    · rw [putK_other e] at hg'; exact h.empty k' hky hg'
/-- A store in memory, as the one list of its versions; no chain of it is empty. -/
def StD (u : World) (p : Nat) (L : List Ver) (X : Foot) : Prop := StoG L ∧ ∃ m G Y, StI u p (oneV L) X m G Y ∧ ∀ k g, Ky k → G k = some g → oneV L k ≠ []
theorem StD.own {u : World} {p : Nat} {L : List Ver} {X : Foot} (h : StD u p L X) : X p := by obtain ⟨_, m, G, Y, h, _⟩ := h; exact h.own
theorem StD.lt {u : World} {p : Nat} {L : List Ver} {X : Foot} (h : StD u p L X) : ∀ k, X k → k < u.heap.size := by obtain ⟨_, m, G, Y, h, _⟩ := h; exact h.lt
theorem StD.kept {u u' : World} {p : Nat} {L : List Ver} {X : Foot} (h : StD u p L X) (hs : u.heap.size ≤ u'.heap.size) (hk : ∀ k, X k → u'.heap[k]? = u.heap[k]?) : StD u' p L X := by obtain ⟨g, m, G, Y, h, e⟩ := h; exact ⟨g, m, G, Y, h.kept hs hk, e⟩
theorem StD.past {u u' : World} {p : Nat} {L : List Ver} {X : Foot} (h : StD u p L X) (hb : Below u.heap.size u u') : StD u' p L X := h.kept hb.size (fun k x => hb.block k (h.lt k x))
theorem sti_keys {u : World} {p m : Nat} {L : List Ver} {X : Foot} {G : List Int → Option Nat} {Y : List Int → Foot} (hL : OrdK L) (hk : ∀ V ∈ L, Ky V.k) (h : StI u p (oneV L) X m G Y) (he : ∀ k g, Ky k → G k = some g → oneV L k ≠ []) : KeyL G (keysV L) := by
  refine ⟨fun k hk' => ?_, keys_nodup hL, fun k hky => ?_⟩
  · obtain ⟨V, hV, e⟩ := (keys_mem L k).1 hk'
    rw [← e]; exact hk V hV
  · rw [← one_nil hL]
    cases hg : G k with
    | none => simp [h.empty k hky hg]
    | some g => simp [he k g hky hg]
theorem zero_chn (u : World) : (zeroValue 158).run Tryz.prog u = .ok (.pointer none) u := by kernel_rfl
theorem StI.look {u : World} {p m : Nat} {C : List Int → List Ver} {X : Foot} {G : List Int → Option Nat} {Y : List Int → Foot} (h : StI u p C X m G Y) {k : List Int} (hk : Ky k) :
    (Instr.lookup 137 (.map (some m)) (kv k) true).run Tryz.prog u = .ok (.tuple #[ptrV (G k), .bool (G k).isSome]) u := h.map.look Tryz.underlying137 (zero_chn u) k hk
end Go.Proofs.YtileidbdmpeciaaGreat

namespace Go.Proofs.YtileidbdmpeciaaGreat
open Go.RowKit
set_option linter.unusedVariables false

/-- A part's blocks. -/
def ParX (p m : Nat) (XS XT : Foot) : Foot := fun k => k = p ∨ k = m ∨ XS k ∨ XT k
/-- A part in block p: its store in s, its table in t, what is over in map m. -/
structure ParI (u : World) (p s t m : Nat) (P : PSt) (M : List EntM) (XS XT : Foot) : Prop where
  c0 : u.cell? ⟨p, 0, none⟩ = some (.pointer (some ⟨s, 0, none⟩))
  c1 : u.cell? ⟨p, 1, none⟩ = some (.pointer (some ⟨t, 0, none⟩))
  c2 : u.cell? ⟨p, 2, none⟩ = some (.map (some m))
  sto : StD u s P.S XS
  tab : PTab u t M XT
  is : ents M = P.T
  map : OMap u m P.O.length (overP P.O)
  pm : p ≠ m
  ps : ¬ XS p
  pt : ¬ XT p
  ms : ¬ XS m
  mt : ¬ XT m
  st : ∀ k, XS k → XT k → False
  far : ∀ x ∈ M, x.e.l ≠ [] → ∀ b o, x.a = some ⟨b, o, none⟩ → ¬ ParX p m XS XT b
theorem ParI.plt {u : World} {p s t m : Nat} {P : PSt} {M : List EntM} {XS XT : Foot} (h : ParI u p s t m P M XS XT) : p < u.heap.size := cell_lt h.c0
theorem ParI.lt {u : World} {p s t m : Nat} {P : PSt} {M : List EntM} {XS XT : Foot} (h : ParI u p s t m P M XS XT) : ∀ k, ParX p m XS XT k → k < u.heap.size := fun k hk => by
  rcases hk with e | e | e | e
  · rw [e]; exact h.plt
  · rw [e]; exact h.map.lt
  · exact h.sto.lt k e
  · exact h.tab.lt k e
theorem ParI.kept {u u' : World} {p s t m : Nat} {P : PSt} {M : List EntM} {XS XT : Foot} (h : ParI u p s t m P M XS XT) (hs : u.heap.size ≤ u'.heap.size) (hk : ∀ k, ParX p m XS XT k → u'.heap[k]? = u.heap[k]?) (hw : ∀ x ∈ M, x.e.l ≠ [] → ∀ b o, x.a = some ⟨b, o, none⟩ → u'.heap[b]? = u.heap[b]?) : ParI u' p s t m P M XS XT := by
  have hp := hk p (.inl rfl)
  exact ⟨(cell_kept hp 0).trans h.c0, (cell_kept hp 1).trans h.c1, (cell_kept hp 2).trans h.c2, h.sto.kept hs (fun k x => hk k (.inr (.inr (.inl x)))), h.tab.kept hs (fun k x => hk k (.inr (.inr (.inr x)))) hw, h.is, h.map.kept (hk m (.inr (.inl rfl))), h.pm, h.ps, h.pt, h.ms, h.mt, h.st, h.far⟩
theorem ParI.past {u u' : World} {p s t m : Nat} {P : PSt} {M : List EntM} {XS XT : Foot} (h : ParI u p s t m P M XS XT) (hb : Below u.heap.size u u') : ParI u' p s t m P M XS XT :=
  h.kept hb.size (fun k x => hb.block k (h.lt k x)) (fun x hx hl b o e => hb.block b ((h.tab.wrs x hx).wr.blt hl e))
/-- What a call leaves. -/
def ParL (w w' : World) (p s t m : Nat) (M : List EntM) (XS XT : Foot) (P' : PSt) : Prop :=
  ∃ M' XS' XT', ParI w' p s t m P' M' XS' XT' ∧ Did w w' (ParX p m XS XT) (ParX p m XS' XT') ∧ NewW w M M'
theorem newW_refl (w : World) (M : List EntM) : NewW w M M := fun x hx => .inl hx
theorem newW_trans {w u : World} {M M' M'' : List EntM} (h : NewW w M M') (k : NewW u M' M'') (hs : w.heap.size ≤ u.heap.size) : NewW w M M'' := fun x hx => by
  rcases k x hx with e | e
  · exact h x e
  · exact .inr (fun hl b o e2 => Nat.le_trans hs (e hl b o e2))
theorem ParI.stay {w w' : World} {p s t m : Nat} {P : PSt} {M : List EntM} {XS XT : Foot} (h : ParI w p s t m P M XS XT) (hb : Below w.heap.size w w') : ParL w w' p s t m M XS XT P :=
  ⟨M, XS, XT, h.past hb, Did.stay hb h.lt, newW_refl w M⟩
theorem ParL.past {w w' v : World} {p s t m : Nat} {P' : PSt} {M : List EntM} {XS XT : Foot} (h : ParL w w' p s t m M XS XT P') (hb : Below w'.heap.size w' v) : ParL w v p s t m M XS XT P' := by
  obtain ⟨M', XS', XT', h1, h2, h3⟩ := h
  exact ⟨M', XS', XT', h1.past hb, h2.trans (Did.stay hb h1.lt), h3⟩
theorem ParL.since {w w1 w' : World} {p s t m : Nat} {P P' : PSt} {M : List EntM} {XS XT : Foot} (h : ParI w p s t m P M XS XT) (hb : Below w.heap.size w w1) (k : ParL w1 w' p s t m M XS XT P') : ParL w w' p s t m M XS XT P' := by
  obtain ⟨M', XS', XT', h1, h2, h3⟩ := k
  exact ⟨M', XS', XT', h1, (Did.stay hb h.lt).trans h2, newW_trans (newW_refl w M) h3 hb.size⟩
/-- Then one more call. -/
theorem ParL.then {w w1 w' : World} {p s t m : Nat} {P1 P' : PSt} {M : List EntM} {XS XT : Foot} (h : ParL w w1 p s t m M XS XT P1) (k : ∀ M1 XS1 XT1, ParI w1 p s t m P1 M1 XS1 XT1 → ParL w1 w' p s t m M1 XS1 XT1 P') : ParL w w' p s t m M XS XT P' := by
  obtain ⟨M1, XS1, XT1, h1, h2, h3⟩ := h
  obtain ⟨M', XS', XT', k1, k2, k3⟩ := k M1 XS1 XT1 h1
  exact ⟨M', XS', XT', k1, h2.trans k2, newW_trans h3 k3 h2.chg.size⟩
theorem par_did {u u' : World} {p m : Nat} {XS XT XS' XT' : Foot} {Y Y' : Foot} (hX : ∀ k, ParX p m XS XT k → k < u.heap.size) (d : Did u u' Y Y') (h1 : ∀ k, Y k → ParX p m XS XT k) (h2 : ∀ k, ParX p m XS' XT' k → ParX p m XS XT k ∨ Y' k) : Did u u' (ParX p m XS XT) (ParX p m XS' XT') := by
  refine ⟨d.chg.mono (fun k _ e => h1 k e), fun k hk => ?_⟩
  rcases h2 k hk with e | e
  · exact ⟨.inl e, Nat.lt_of_lt_of_le (hX k e) d.chg.size⟩
  · rcases (d.new k e).1 with g | g
    · exact ⟨.inl (h1 k g), (d.new k e).2⟩
    · exact ⟨.inr g, (d.new k e).2⟩
/-- The store turns. -/
theorem ParI.turnS {u u' : World} {p s t m : Nat} {P : PSt} {M : List EntM} {XS XT XS' : Foot} {S' : List Ver} (h : ParI u p s t m P M XS XT) (j1 : StD u' s S' XS') (j2 : Did u u' XS XS') : ParL u u' p s t m M XS XT ⟨S', P.T, P.O⟩ := by
  have hb : ∀ k, k < u.heap.size → ¬ XS k → u'.heap[k]? = u.heap[k]? := fun k hk hn => j2.chg.block k hk hn
  have hp := hb p h.plt h.ps
  have new : ∀ k, k < u.heap.size → ¬ XS k → ¬ XS' k := fun k hk hn hx => by
    rcases (j2.new k hx).1 with e | e
    · exact hn e
    · omega
  have hfar : ∀ x ∈ M, x.e.l ≠ [] → ∀ b o, x.a = some ⟨b, o, none⟩ → b < u.heap.size ∧ ¬ XS b := fun x hx hl b o e => ⟨(h.tab.wrs x hx).wr.blt hl e, fun q => h.far x hx hl b o e (.inr (.inr (.inl q)))⟩
  refine ⟨M, XS', XT, ⟨(cell_kept hp 0).trans h.c0, (cell_kept hp 1).trans h.c1, (cell_kept hp 2).trans h.c2, j1, h.tab.kept j2.chg.size (fun k x => hb k (h.tab.lt k x) (fun y => h.st k y x)) (fun x hx hl b o e => hb b (hfar x hx hl b o e).1 (hfar x hx hl b o e).2), h.is, h.map.kept (hb m h.map.lt h.ms), h.pm, new p h.plt h.ps, h.pt, new m h.map.lt h.ms, h.mt, fun k x y => new k (h.tab.lt k y) (fun z => h.st k z y) x, fun x hx hl b o e q => ?_⟩, par_did h.lt j2 (fun k e => .inr (.inr (.inl e))) (fun k e => ?_), newW_refl u M⟩
  · rcases q with q | q | q | q
    · exact h.far x hx hl b o e (.inl q)
    · exact h.far x hx hl b o e (.inr (.inl q))
    · exact new b (hfar x hx hl b o e).1 (hfar x hx hl b o e).2 q
    · exact h.far x hx hl b o e (.inr (.inr (.inr q)))
  · rcases e with e | e | e | e
    · exact .inl (.inl e)
    · exact .inl (.inr (.inl e))
    · exact .inr e
    · exact .inl (.inr (.inr (.inr e)))
/-- The table turns. -/
theorem ParI.turnT {u u' : World} {p s t m : Nat} {P : PSt} {M M' : List EntM} {XS XT XT' : Foot} (h : ParI u p s t m P M XS XT) (j1 : PTab u' t M' XT') (j2 : Did u u' XT XT') (j3 : NewW u M M') : ParL u u' p s t m M XS XT ⟨P.S, ents M', P.O⟩ := by
  have hb : ∀ k, k < u.heap.size → ¬ XT k → u'.heap[k]? = u.heap[k]? := fun k hk hn => j2.chg.block k hk hn
  have hp := hb p h.plt h.pt
  have new : ∀ k, k < u.heap.size → ¬ XT k → ¬ XT' k := fun k hk hn hx => by
    rcases (j2.new k hx).1 with e | e
    · exact hn e
    · omega
  refine ⟨M', XS, XT', ⟨(cell_kept hp 0).trans h.c0, (cell_kept hp 1).trans h.c1, (cell_kept hp 2).trans h.c2, h.sto.kept j2.chg.size (fun k x => hb k (h.sto.lt k x) (fun y => h.st k x y)), j1, rfl, h.map.kept (hb m h.map.lt h.mt), h.pm, h.ps, new p h.plt h.pt, h.ms, new m h.map.lt h.mt, fun k x y => new k (h.sto.lt k x) (fun z => h.st k x z) y, fun x hx hl b o e q => ?_⟩, par_did h.lt j2 (fun k e => .inr (.inr (.inr e))) (fun k e => ?_), j3⟩
  · rcases q with q | q | q | q
    · rcases j3 x hx with g | g
      · exact h.far x g hl b o e (.inl q)
      · have := g hl b o e; have := h.plt; omega
    · rcases j3 x hx with g | g
      · exact h.far x g hl b o e (.inr (.inl q))
      · have := g hl b o e; have := h.map.lt; omega
    · rcases j3 x hx with g | g
      · exact h.far x g hl b o e (.inr (.inr (.inl q)))
      · have := g hl b o e; have := h.sto.lt b q; omega
    · exact j1.far x hx hl b o e q
  · rcases e with e | e | e | e
    · exact .inl (.inl e)
    · exact .inl (.inr (.inl e))
    · exact .inl (.inr (.inr (.inl e)))
    · exact .inr e
/-- One more is over. -/
theorem ParI.turnO {u u' : World} {p s t m : Nat} {P : PSt} {M : List EntM} {XS XT : Foot} {O' : List (Int × Int)} (h : ParI u p s t m P M XS XT) (ht : u.mapTurned u' m) (hm : OMap u' m O'.length (overP O')) : ParL u u' p s t m M XS XT ⟨P.S, P.T, O'⟩ := by
  have hc := turned_chg ht (X := fun b => b = m) rfl
  have hb : ∀ k, k < u.heap.size → k ≠ m → u'.heap[k]? = u.heap[k]? := fun k hk hn => hc.block k hk hn
  have hp := hb p h.plt h.pm
  refine ⟨M, XS, XT, ⟨(cell_kept hp 0).trans h.c0, (cell_kept hp 1).trans h.c1, (cell_kept hp 2).trans h.c2, h.sto.kept hc.size (fun k x => hb k (h.sto.lt k x) (fun e => h.ms (e ▸ x))), h.tab.kept hc.size (fun k x => hb k (h.tab.lt k x) (fun e => h.mt (e ▸ x))) (fun x hx hl b o e => hb b ((h.tab.wrs x hx).wr.blt hl e) (fun e2 => h.far x hx hl b o e (.inr (.inl e2)))), h.is, hm, h.pm, h.ps, h.pt, h.ms, h.mt, h.st, h.far⟩, ⟨hc.mono (fun k _ e => .inr (.inl e)), fun k hk => ⟨.inl hk, Nat.lt_of_lt_of_le (h.lt k hk) hc.size⟩⟩, newW_refl u M⟩
theorem over_put {O : List (Int × Int)} {id h : Int} (hn : overP O id = none) : ∀ x, putI2 (overP O) id (some h) x = overP (O ++ [(id, h)]) x := fun x => by
  rw [over_app]
  unfold putI2
  by_cases e : x = id
  · subst e
    rw [if_pos rfl, hn]
    simp
  · rw [if_neg e]
    cases hx : overP O x with
    | some y => rfl
    | none =>
      simp only
      rw [if_neg (fun e2 => e e2.symm)]
theorem over_same {O : List (Int × Int)} {id h : Int} (hn : overP O id = some h) : ∀ x, putI2 (overP O) id (some h) x = overP O x := fun x => by
  unfold putI2
  by_cases e : x = id
  · subst e; rw [if_pos rfl, hn]
  · rw [if_neg e]
end Go.Proofs.YtileidbdmpeciaaGreat

