/-
  What the document reads next: writes: what its rounds hold.
-/
import Derived.Test.YtmiafadmcpmjgaaRefRd5
import Derived.Test.YtmiafadmcpmjgaaRp
import Derived.Test.YtmiafadmcpmjgaaWrtBuild
import Derived.Test.YtmiafadmcpmjgaaRefSto2
namespace Go.Proofs.Ytmiafadmcpmjgaa
open Go.RowKit
set_option linter.unusedVariables false

theorem owns_stay {u u' : World} {base e size n : Nat} {v : Value} {xs : List Value} (h : u.ownsRow base e size v n xs) (hk : ∀ q, base ≤ q → q < u.heap.size → u'.heap[q]? = u.heap[q]?) : u'.ownsRow base e size v n xs := by
  refine ⟨h.1, h.2.imp id ?_⟩
  rintro ⟨g, cap, cur, rfl, h1, h2, h3⟩
  refine ⟨g, cap, cur, rfl, h1, (hk g h1 ?_).trans h2, h3⟩
  exact (h.lt g rfl).2
theorem wpList_append_chg {t e : TypeId} {size bytes : Nat} (E : ElT t e size bytes) {B : Nat} {w : World} {ops : Array Oper} {rest : List Oper} {o : Oper} {a : Act} {Q : Exit → Act → World → Prop} (hgd : o.guard = none) (s x : Operand)
    (ho : o.op = .call { callee := .builtin .append, args := #[s, x], argTypes := #[t, t] }) (hB : B ≤ w.heap.size)
    (v : Value) (n : Nat) (xs news : List Value) (hs : a.eval s = v) (hown : w.ownsRow B e size v n xs) (ao : Option Addr) (m c : Nat) (hx : a.eval x = .slice ao m c) (hl : news.length = m * size) (hsrc : Lies w ao news) (h1 : ∀ u ∈ news, u.oneCell' = true) (hnil : ao = none → m = 0 ∧ c = 0) (hn : n + m ≤ 1000000)
    (h : ∀ a' cap' w', w'.ownsRow B e size (.slice a' (n + m) cap') (n + m) (xs ++ news) → Chg w w' (fun j => B ≤ j) → wpList Try.prog ops Q rest (a.put o.dst (.slice a' (n + m) cap')) w') : wpList Try.prog ops Q (o :: rest) a w := by
  refine wpList_plain hgd fun K hK => ?_
  obtain ⟨a', cap', w', hrun, h2, h3⟩ := run_append_els E w B v n xs hown ao m c news hl hsrc h1 hnil hn hB o.type
  unfold Oper.wp
  simp [execOp, ho, resolve, invoke, builtin, hs, hx, hrun, Result.andThen]
  exact hK _ _ (h a' cap' w' h2 (Chg.of_grown h3 (fun k hk => (hown.lt k hk).1)))
theorem WrtMine.chg {w w' : World} {b o : Nat} {W : Wrt} {X : Foot} (h : WrtMine w b o W) (hc : Chg w w' X) (hX : ¬ X b) : WrtMine w' b o W :=
  have hb := hc.block b (h.at_.lt h.key) hX
  ⟨⟨lies_of fun j u hj => (cell_of_block hb _).1.trans (h.at_.lies.at j u hj)⟩, fun i hi => (cell_of_block hb _).2.trans (h.free i hi), h.key⟩
theorem WrtMine.setV {w : World} {q : Nat} {W : Wrt} (h : WrtMine w q 0 W) (v : List Int) : WrtMine (w.setCell ⟨q, 16, none⟩ (.string (strOfNums v))) q 0 ⟨W.k, v, W.g⟩ := by
  have hk := kc_len h.key
  refine ⟨⟨lies_of fun j u hj => ?_⟩, fun i hi => by rw [World.frozen?_setCell]; exact h.free i hi, h.key⟩
  rw [Nat.zero_add]
  have hj' : (kc W.k ++ [Value.string (strOfNums v), Value.bool W.g])[j]? = some u := hj
  clear hj
  by_cases e : j = 16
  · subst e
    have hc := (h.at_.cells h.key).1
    rw [Nat.zero_add] at hc
    rw [World.cell?_setCell_same _ _ _ hc]
    rw [List.getElem?_append_right (by omega), hk] at hj'
    simpa using hj'
  · rw [set_off _ _ _ _ _ e]
    have h2 : (encW W)[j]? = some u := by
      unfold encW
      by_cases h16 : j < 16
      · rw [List.getElem?_append_left (by omega)] at hj' ⊢; exact hj'
      · rw [List.getElem?_append_right (by omega), hk] at hj' ⊢
        obtain ⟨m, hm⟩ : ∃ m, j - 16 = m + 1 := ⟨j - 17, by omega⟩
        rw [hm] at hj' ⊢
        exact hj'
    have := h.at_.lies.at j u h2
    rwa [Nat.zero_add] at this
/-- What the rounds hold. -/
structure WrsL (w wr : World) (g : Nat) (a : Option Addr) (cap : Nat) (zs : List Int) (o0 : Option (List Int)) (N : Nat) (v : Value) (m : Nat) : Prop where
  ex : ∃ (k : Nat) (b : Bool) (done : List Wrt), Rd wr g a cap zs k b ∧ Chg w wr (fun j => j = g) ∧ wr.ownsRow w.heap.size 36 18 v m (done.flatMap encW) ∧ (∀ W ∈ done, WrtOk W) ∧ done.length = m ∧ ∀ o2 L, Rds (manyP writeP (N - m)) (stR zs k b) o2 L → Rds (manyP writeP N) o0 o2 (done ++ L)
theorem many_seq {α : Type} {p : Pr α} {n : Nat} {o o1 o2 : Option (List Int)} {x : α} {L : List α} (h1 : Rds p o o1 x) (h2 : Rds (manyP p n) o1 o2 L) : Rds (manyP p (n + 1)) o o2 (x :: L) :=
  h1.seq (h2.seq (.ret _ _))
theorem write_seq {o o1 o2 o3 : Option (List Int)} {k v : List Int} {g : Bool} (h1 : Rds (bytesP 16) o o1 k) (h2 : Rds boolP o1 o2 g) (h3 : Rds textP o2 o3 v) : Rds writeP o o3 ⟨k, v, g⟩ :=
  h1.seq (h2.seq (h3.seq (.ret _ _)))
theorem WrsL.start {w wr : World} {g : Nat} {a : Option Addr} {cap : Nat} {zs : List Int} {k : Nat} {b : Bool} (N : Nat) (h : Rd wr g a cap zs k b) (hc : Chg w wr (fun j => j = g)) : WrsL w wr g a cap zs (stR zs k b) N (.slice none 0 0) 0 :=
  ⟨k, b, [], h, hc, ⟨rfl, .inl ⟨rfl, rfl⟩⟩, fun W hW => by simp at hW, rfl, fun o2 L h => h⟩
/-- What a round lays. -/
theorem WrsL.next {w w6 : World} {g : Nat} {a : Option Addr} {cap : Nat} {zs : List Int} {o0 : Option (List Int)} {N m k k' : Nat} {b b' : Bool} {done : List Wrt} {W : Wrt} {ax : Option Addr} {cx : Nat}
    (hf : ∀ o2 L, Rds (manyP writeP (N - m)) (stR zs k b) o2 L → Rds (manyP writeP N) o0 o2 (done ++ L)) (hm : m < N) (hd : done.length = m) (hok : ∀ X ∈ done, WrtOk X) (hW : WrtOk W)
    (R : Rd w6 g a cap zs k' b') (C : Chg w w6 (fun j => j = g)) (hown : w6.ownsRow w.heap.size 36 18 (.slice ax (m + 1) cx) (m + 1) (done.flatMap encW ++ encW W)) (D : Rds writeP (stR zs k b) (stR zs k' b') W) : WrsL w w6 g a cap zs o0 N (.slice ax (m + 1) cx) (m + 1) := by
  refine ⟨k', b', done ++ [W], R, C, by simpa using hown, fun X hX => ?_, by simp [hd], fun o2 L h => ?_⟩
  · rcases List.mem_append.1 hX with h | h
    · exact hok X h
    · simp at h; rw [h]; exact hW
  · have e : N - m = (N - (m + 1)) + 1 := by omega
    rw [List.append_assoc]
    refine hf o2 _ ?_
    rw [e]
    exact many_seq D h
/-- What is read in all. -/
theorem writes_seq {o o0 o1 o2 : Option (List Int)} {n : Int} {l : List Wrt} (h0 : Rds (countP 16) o o0 n) (h1 : Rds (manyP writeP n.toNat) o0 o1 l) (h2 : (mayW l 0 = true ∧ o2 = o1) ∨ (mayW l 0 = false ∧ o2 = none)) : Rds writesP o o2 l := by
  refine h0.seq (h1.seq ?_)
  rcases h2 with ⟨e, rfl⟩ | ⟨e, rfl⟩
  · rw [if_pos e]; exact .ret _ _
  · rw [if_neg (by rw [e]; simp)]; exact .non _ _
end Go.Proofs.Ytmiafadmcpmjgaa
