import PyProof.Rows.All
import Wide.All
import OpenK.AllK
import Wide.FinOn
import HandS.ForMost
import HandS.Flow
import HandS.Wide
import HandS.WideBits
import HandS.NoneIn
import HandS.IsInst
import PyProof.Rows.RegReprOcc
import KE.KExcIs
import HandS.Base
import HandS.Call
import HandS.List
import HandS.Ends
import HandS.Exc
import HandS.ExcInit
import HandS.ExcField
import HandS.ExcIs
import HandS.Defaults
import HandS.MakeKwOnly
import PyProof.ReprRoads
import PyProof.ReprReads
import PyProof.StrLawsRepr
import HandS.ExcValue
import HandS.Words
import HandS.Codes
import HandS.Dict
import HandS.WordsExc
import PySem.Challenge.RW_treeturns_k04_trees_that_grow
set_option Elab.async false
set_option linter.all false
set_option maxRecDepth 100000
set_option maxHeartbeats 4000000
set_option linter.all false
/-! Trees, plainly: growing, hanging, meet and join. -/
namespace TT
inductive Tr where
  | leaf
  | node (l r : Tr)
  deriving DecidableEq
namespace Tr
def size : Tr → Nat
  | leaf => 0
  | node l r => l.size + r.size + 1
/-- the text's length -/
def len : Tr → Nat
  | leaf => 1
  | node l r => l.len + r.len + 2
/-- the text -/
def cs : Tr → List Nat
  | leaf => [46]
  | node l r => 40 :: (l.cs ++ (r.cs ++ [41]))
theorem cs_length : ∀ t : Tr, t.cs.length = t.len
  | leaf => rfl
  | node l r => by simp [cs, len, cs_length l, cs_length r]; omega
theorem len_size : ∀ t : Tr, t.len = 3 * t.size + 1
  | leaf => rfl
  | node l r => by simp [size, len, len_size l, len_size r]; omega
theorem len_pos (t : Tr) : 0 < t.len := by rw [len_size]; omega
theorem cs_inj' : ∀ (s t : Tr) (a b : List Nat), s.cs ++ a = t.cs ++ b → s = t ∧ a = b
  | leaf, leaf, a, b, h => by simp [cs] at h; exact ⟨rfl, h⟩
  | leaf, node l r, a, b, h => by simp [cs] at h
  | node l r, leaf, a, b, h => by simp [cs] at h
  | node l r, node l' r', a, b, h => by
    simp only [cs, List.cons_append, List.append_assoc, List.cons.injEq, true_and] at h
    obtain ⟨e1, h1⟩ := cs_inj' l l' _ _ h
    obtain ⟨e2, h2⟩ := cs_inj' r r' _ _ h1
    simp at h2
    exact ⟨by rw [e1, e2], h2⟩
theorem cs_inj {s t : Tr} (h : s.cs = t.cs) : s = t := (cs_inj' s t [] [] (by rw [h])).1

/-- number of leaves -/
def lvs : Tr → Nat
  | leaf => 1
  | node l r => l.lvs + r.lvs
theorem lvs_size : ∀ t : Tr, t.lvs = t.size + 1
  | leaf => rfl
  | node l r => by simp [lvs, size, lvs_size l, lvs_size r]; omega

/-- grow the tree by the list, and what is left of it -/
def growR : Tr → List Tr → Tr × List Tr
  | leaf, [] => (leaf, [])
  | leaf, x :: xs => (x, xs)
  | node l r, xs => ((node (l.growR xs).1 (r.growR (l.growR xs).2).1), (r.growR (l.growR xs).2).2)
def grow (t : Tr) (xs : List Tr) : Tr := (t.growR xs).1
/-- the list with which the second tree grows into the first -/
def hang : Tr → Tr → Option (List Tr)
  | s, leaf => some [s]
  | leaf, node _ _ => none
  | node a b, node c d => (hang a c).bind fun x => (hang b d).map fun y => x ++ y
def meet : Tr → Tr → Tr
  | node a b, node c d => node (meet a c) (meet b d)
  | _, _ => leaf
def join : Tr → Tr → Tr
  | leaf, t => t
  | s, leaf => s
  | node a b, node c d => node (join a c) (join b d)

theorem growR_len : ∀ (t : Tr) (xs : List Tr), t.lvs ≤ xs.length → (t.growR xs).2.length + t.lvs = xs.length
  | leaf, [], h => by simp [lvs] at h
  | leaf, x :: xs, h => by simp [growR, lvs]
  | node l r, xs, h => by
    simp only [lvs] at h
    have h1 := growR_len l xs (by omega)
    have h2 := growR_len r (l.growR xs).2 (by omega)
    simp only [growR, lvs]
    omega
theorem hang_len : ∀ (s c : Tr) (xs : List Tr), hang s c = some xs → xs.length = c.lvs
  | s, leaf, xs, h => by simp [hang] at h; subst h; rfl
  | leaf, node _ _, xs, h => by simp [hang] at h
  | node a b, node c d, xs, h => by
    simp only [hang, Option.bind_eq_some_iff, Option.map_eq_some_iff] at h
    obtain ⟨x, hx, y, hy, rfl⟩ := h
    simp [lvs, hang_len a c x hx, hang_len b d y hy]
theorem growR_hang : ∀ (s c : Tr) (xs rest : List Tr), hang s c = some xs → c.growR (xs ++ rest) = (s, rest)
  | s, leaf, xs, rest, h => by simp [hang] at h; subst h; rfl
  | leaf, node _ _, xs, rest, h => by simp [hang] at h
  | node a b, node c d, xs, rest, h => by
    simp only [hang, Option.bind_eq_some_iff, Option.map_eq_some_iff] at h
    obtain ⟨x, hx, y, hy, rfl⟩ := h
    simp only [growR, List.append_assoc, growR_hang a c x _ hx, growR_hang b d y _ hy]
theorem grow_hang {s c : Tr} {xs : List Tr} (h : hang s c = some xs) : c.grow xs = s := by
  have := growR_hang s c xs [] h
  rw [List.append_nil] at this
  unfold grow; rw [this]
/-- hanging what was grown -/
theorem hang_growR : ∀ (c : Tr) (xs : List Tr), c.lvs ≤ xs.length → hang (c.growR xs).1 c = some (xs.take c.lvs) ∧ (c.growR xs).2 = xs.drop c.lvs
  | leaf, [], h => by simp [lvs] at h
  | leaf, x :: xs, h => by simp [growR, hang, lvs]
  | node l r, xs, h => by
    simp only [lvs] at h
    obtain ⟨h1, e1⟩ := hang_growR l xs (by omega)
    have hl : r.lvs ≤ (l.growR xs).2.length := by rw [e1, List.length_drop]; omega
    obtain ⟨h2, e2⟩ := hang_growR r (l.growR xs).2 hl
    refine ⟨?_, ?_⟩
    · simp only [growR, hang, h1, h2, Option.bind_some, Option.map_some, lvs]
      rw [e1, List.take_add]
    · show (r.growR (l.growR xs).2).2 = _
      rw [e2, e1, List.drop_drop]; rfl
theorem hang_grow {c : Tr} {xs : List Tr} (h : xs.length = c.lvs) : hang (c.grow xs) c = some xs := by
  have := (hang_growR c xs (by omega)).1
  unfold grow; rw [this, ← h, List.take_length]

theorem meet_comm : ∀ s t : Tr, meet s t = meet t s
  | leaf, leaf => rfl
  | leaf, node _ _ => rfl
  | node _ _, leaf => rfl
  | node a b, node c d => by simp only [meet, meet_comm a c, meet_comm b d]
theorem join_comm : ∀ s t : Tr, join s t = join t s
  | leaf, leaf => rfl
  | leaf, node _ _ => rfl
  | node _ _, leaf => rfl
  | node a b, node c d => by simp only [join, join_comm a c, join_comm b d]
theorem meet_leaf (t : Tr) : meet t leaf = leaf := by cases t <;> rfl
theorem leaf_meet (t : Tr) : meet leaf t = leaf := rfl
theorem join_leaf (t : Tr) : join t leaf = t := by cases t <;> rfl
theorem leaf_join (t : Tr) : join leaf t = t := rfl
theorem meet_self : ∀ t : Tr, meet t t = t
  | leaf => rfl
  | node a b => by simp only [meet, meet_self a, meet_self b]
theorem join_self : ∀ t : Tr, join t t = t
  | leaf => rfl
  | node a b => by simp only [join, join_self a, join_self b]
theorem meet_assoc : ∀ a b c : Tr, meet (meet a b) c = meet a (meet b c)
  | leaf, _, _ => rfl
  | node _ _, leaf, c => by simp [meet]
  | node _ _, node _ _, leaf => by simp [meet]
  | node a b, node c d, node e f => by simp only [meet, meet_assoc a c e, meet_assoc b d f]
theorem join_assoc : ∀ a b c : Tr, join (join a b) c = join a (join b c)
  | leaf, _, _ => rfl
  | node _ _, leaf, c => by rw [join_leaf, leaf_join]
  | node a b, node c d, leaf => by rw [join_leaf, join_leaf]
  | node a b, node c d, node e f => by simp only [join, join_assoc a c e, join_assoc b d f]
theorem join_meet_self : ∀ a b : Tr, join a (meet a b) = a
  | leaf, _ => rfl
  | node _ _, leaf => rfl
  | node a b, node c d => by simp only [meet, join, join_meet_self a c, join_meet_self b d]
theorem meet_join_self : ∀ a b : Tr, meet a (join a b) = a
  | leaf, _ => rfl
  | node a b, leaf => by rw [join_leaf, meet_self]
  | node a b, node c d => by simp only [meet, join, meet_join_self a c, meet_join_self b d]
theorem join_meet_distrib : ∀ a b c : Tr, join a (meet b c) = meet (join a b) (join a c)
  | leaf, b, c => rfl
  | node a b, leaf, c => by rw [leaf_meet, join_leaf, meet_join_self]
  | node a b, node c d, leaf => by rw [meet_leaf, join_leaf, meet_comm, meet_join_self]
  | node a b, node c d, node e f => by simp only [meet, join, join_meet_distrib a c e, join_meet_distrib b d f]
theorem size_join_meet : ∀ a b : Tr, (join a b).size + (meet a b).size = a.size + b.size
  | leaf, leaf => rfl
  | leaf, node _ _ => by simp [join, meet, size]
  | node _ _, leaf => by simp [join, meet, size]
  | node a b, node c d => by
    have := size_join_meet a c
    have := size_join_meet b d
    simp only [join, meet, size]; omega
theorem size_join_le (a b : Tr) : (join a b).size ≤ a.size + b.size := by have := size_join_meet a b; omega
theorem size_meet_le : ∀ (a b : Tr), (meet a b).size ≤ a.size
  | leaf, _ => Nat.le_refl _
  | node _ _, leaf => Nat.zero_le _
  | node a b, node c d => by
    have := size_meet_le a c
    have := size_meet_le b d
    simp only [meet, size]; omega
/-- the second tree grows into the first exactly if the join is the first, if the meet is the second -/
theorem hang_iff_join : ∀ s c : Tr, (hang s c).isSome = true ↔ join s c = s
  | s, leaf => by simp [hang, join_leaf]
  | leaf, node _ _ => by simp [hang, join]
  | node a b, node c d => by
    have h1 := hang_iff_join a c
    have h2 := hang_iff_join b d
    simp only [hang, join, node.injEq, ← h1, ← h2]
    cases hang a c <;> cases hang b d <;> simp
theorem hang_iff_meet : ∀ s c : Tr, (hang s c).isSome = true ↔ meet s c = c
  | s, leaf => by simp [hang, meet_leaf]
  | leaf, node _ _ => by simp [hang, meet]
  | node a b, node c d => by
    have h1 := hang_iff_meet a c
    have h2 := hang_iff_meet b d
    simp only [hang, meet, node.injEq, ← h1, ← h2]
    cases hang a c <;> cases hang b d <;> simp
theorem hang_meet (a b : Tr) : ∃ xs, hang a (meet a b) = some xs :=
  Option.isSome_iff_exists.mp ((hang_iff_meet _ _).mpr (by rw [← meet_assoc, meet_self]))
theorem hang_meet' (a b : Tr) : ∃ xs, hang b (meet a b) = some xs := by rw [meet_comm]; exact hang_meet b a
theorem hang_join (a b : Tr) : ∃ xs, hang (join a b) a = some xs :=
  Option.isSome_iff_exists.mp ((hang_iff_meet _ _).mpr (by rw [meet_comm, meet_join_self]))
/-- what the program makes of the two lists -/
def pick (x y : Tr) : Tr := if x = leaf then y else x
theorem growR_pick : ∀ (a b : Tr) (xs ys rs : List Tr), hang a (meet a b) = some xs → hang b (meet a b) = some ys →
    (meet a b).growR (List.zipWith pick xs ys ++ rs) = (join a b, rs)
  | leaf, b, xs, ys, rs, h1, h2 => by
    simp [meet, hang] at h1 h2; subst h1; subst h2
    simp [meet, growR, join, pick]
  | node a b, leaf, xs, ys, rs, h1, h2 => by
    simp [meet, hang] at h1 h2; subst h1; subst h2
    simp [meet, growR, join, pick]
  | node a b, node c d, xs, ys, rs, h1, h2 => by
    simp only [meet, hang, Option.bind_eq_some_iff, Option.map_eq_some_iff] at h1 h2
    obtain ⟨x1, hx1, x2, hx2, rfl⟩ := h1
    obtain ⟨y1, hy1, y2, hy2, rfl⟩ := h2
    have e : x1.length = y1.length := by rw [hang_len _ _ _ hx1, hang_len _ _ _ hy1]
    rw [List.zipWith_append e]
    simp only [meet, growR, join, List.append_assoc, growR_pick a c x1 y1 _ hx1 hy1, growR_pick b d x2 y2 _ hx2 hy2]
theorem grow_pick {a b : Tr} {xs ys : List Tr} (h1 : hang a (meet a b) = some xs) (h2 : hang b (meet a b) = some ys) : (meet a b).grow (List.zipWith pick xs ys) = join a b := by
  have := growR_pick a b xs ys [] h1 h2
  rw [List.append_nil] at this
  unfold grow; rw [this]

/-! ### a part at an offset of the text -/
inductive Sub (T : Tr) : Nat → Tr → Prop where
  | root : Sub T 0 T
  | left {o : Nat} {l r : Tr} : Sub T o (node l r) → Sub T (o + 1) l
  | right {o : Nat} {l r : Tr} : Sub T o (node l r) → Sub T (o + 1 + l.len) r
theorem Sub.cut {T s : Tr} {o : Nat} (h : Sub T o s) : ∃ A B, T.cs = A ++ (s.cs ++ B) ∧ A.length = o := by
  induction h with
  | root => exact ⟨[], [], by simp, rfl⟩
  | @left o l r _ ih =>
    obtain ⟨A, B, e, h⟩ := ih
    exact ⟨A ++ [40], r.cs ++ [41] ++ B, by rw [e]; simp [cs], by simp [h]⟩
  | @right o l r _ ih =>
    obtain ⟨A, B, e, h⟩ := ih
    exact ⟨A ++ [40] ++ l.cs, [41] ++ B, by rw [e]; simp [cs], by simp [h, cs_length]; omega⟩
/-- where each part ends, by its first sign's index (0 at closing signs) -/
def ends : Nat → Tr → List Nat
  | o, leaf => [o + 1]
  | o, node l r => (o + (node l r).len) :: (ends (o + 1) l ++ (ends (o + 1 + l.len) r ++ [0]))
theorem ends_length : ∀ (o : Nat) (t : Tr), (ends o t).length = t.len
  | o, leaf => rfl
  | o, node l r => by simp [ends, len, ends_length _ l, ends_length _ r]; omega
theorem Sub.ends_at {T s : Tr} {o : Nat} (h : Sub T o s) : ∃ A B, ends 0 T = A ++ (ends o s ++ B) ∧ A.length = o := by
  induction h with
  | root => exact ⟨[], [], by simp, rfl⟩
  | @left o l r _ ih =>
    obtain ⟨A, B, e, h⟩ := ih
    exact ⟨A ++ [o + (node l r).len], ends (o + 1 + l.len) r ++ [0] ++ B, by rw [e]; simp [ends], by simp [h]⟩
  | @right o l r _ ih =>
    obtain ⟨A, B, e, h⟩ := ih
    exact ⟨A ++ [o + (node l r).len] ++ ends (o + 1) l, [0] ++ B, by rw [e]; simp [ends], by simp [h, ends_length]; omega⟩
theorem ends_head (o : Nat) (s : Tr) : ∃ B, ends o s = (o + s.len) :: B := by
  cases s with
  | leaf => exact ⟨[], rfl⟩
  | node l r => exact ⟨_, rfl⟩
theorem Sub.end_get {T s : Tr} {o : Nat} (h : Sub T o s) : (ends 0 T)[o]? = some (o + s.len) := by
  obtain ⟨A, B, e, hl⟩ := h.ends_at
  obtain ⟨C, e2⟩ := ends_head o s
  rw [e, e2, ← hl, List.getElem?_append_right (Nat.le_refl _), Nat.sub_self]
  simp
theorem Sub.le {T s : Tr} {o : Nat} (h : Sub T o s) : o + s.len ≤ T.len := by
  obtain ⟨A, B, e, hl⟩ := h.cut
  have := congrArg List.length e
  simp [cs_length, hl] at this
  omega
theorem Sub.size_le {T s : Tr} {o : Nat} (h : Sub T o s) : s.size ≤ T.size := by
  have h1 := h.le
  rw [len_size, len_size] at h1
  omega
end Tr
end TT

set_option Elab.async false
set_option linter.all false
set_option maxRecDepth 100000
set_option maxHeartbeats 4000000
/-! further rules over the hand layer -/
namespace TT
open PySem PySem.Spec PyProof.Rows L2

/-! ### texts as lists of signs -/
abbrev S (l : List Nat) : Str := ⟨l.toArray⟩
theorem S_app (a b : List Nat) : S a ++ S b = S (a ++ b) := by
  show Str.append (S a) (S b) = _
  unfold Str.append
  simp
theorem S_len (a : List Nat) : (S a).length = a.length := by simp [Str.length]
theorem S_inj {a b : List Nat} (h : S a = S b) : a = b := by
  have := congrArg (fun x => x.cps.toList) h
  simpa using this
theorem S_iff {a b : List Nat} : S a = S b ↔ a = b := ⟨S_inj, fun h => by rw [h]⟩
theorem S_of (x : Str) : x = S x.cps.toList := by cases x; simp
theorem lit_open : ("(" : Str) = S [40] := by decide +kernel
theorem lit_close : (")" : Str) = S [41] := by decide +kernel
theorem lit_dot : ("." : Str) = S [46] := by decide +kernel
theorem lit_empty : ("" : Str) = S [] := by decide +kernel
theorem lit_l : ("l" : Str) = S [108] := by decide +kernel
theorem lit_r : ("r" : Str) = S [114] := by decide +kernel
theorem lit_tree : ("tree" : Str) = S [116, 114, 101, 101] := by decide +kernel
theorem lit_end : ("end" : Str) = S [101, 110, 100] := by decide +kernel

section
variable {X : Cx}
theorem sg_eq {d : Nat} {x : Str} (hx : x = S [d]) : ({ cps := #[d] } : Str) = x := hx.symm
theorem sg_ne {c d : Nat} {x : Str} (hx : x = S [d]) (h : c ≠ d) : ¬ ({ cps := #[c] } : Str) = x := fun e => h (by
  have := S_inj (a := [c]) (b := [d]) (e.trans hx)
  simpa using this)
theorem ifdT {p A B : Prop} [Decidable p] (h : p) (a : A) : if decide p = true then A else B := by rw [if_pos (decide_eq_true h)]; exact a
theorem ifdF {p A B : Prop} [Decidable p] (h : ¬ p) (b : B) : if decide p = true then A else B := by rw [if_neg (by rw [decide_eq_true_eq]; exact h)]; exact b
theorem ifnT {p A B : Prop} [Decidable p] (h : ¬ p) (a : A) : if (!decide p) = true then A else B := by rw [if_pos (by rw [decide_eq_false h]; rfl)]; exact a
theorem ifnF {p A B : Prop} [Decidable p] (h : p) (b : B) : if (!decide p) = true then A else B := by rw [if_neg (by rw [decide_eq_true h]; exact Bool.false_ne_true)]; exact b
theorem ixN_nat {n j : Nat} (h : j < n) : ixN n (j : Int) = some j := by
  unfold ixN
  rw [if_pos (by omega), if_pos (by omega)]; simp
/-- readings told with K -/
def tTruK (K : PySem.W.Frag) (ta : TE) : TT := fun σ H Q => ta σ H fun x H' => ∃ k, TruV K x H' k ∧ Q k H'
def rLenSK (K : PySem.W.Frag) : List V → Hp → VK → Prop := fun xs H Q => ∃ p ys, xs = [.ref p] ∧ (SqL K H p ys ∨ SqT K H p ys) ∧ Q (.int ys.length) H
theorem cxOf_K {CX : CXT} {P : Program} {w : World} {K : PySem.W.Frag} {mg : Str → Option Value} {base : Heap} {N : List Str} {qual : Str} {scope : Scope} {f : Addr} {cd : Value} {A : Around} {outer : List Env} {s : Shared} {H : Hp} {E : XK} :
    (cxOf CX P w K mg base N qual scope f cd A outer s H E).K = K := rfl
/-- a text, a list: of their own kind -/
theorem tyV_lst {K : PySem.W.Frag} {H : Hp} {a : Addr} {xs : List V} (h : H a = some (.lst xs)) : tyV K "list" (.ref a) H := .inl ⟨rfl, _, SqL.of h⟩
theorem _root_.L2.Same.new {H H' : Hp} {p : Addr} (e : Same H H') (h : H p = none) (o : HO) : Same H (upd H' p o) := fun b u q => by
  rw [upd_ne (ne_of_none q h)]; exact e b u q
theorem _root_.L2.Same.get {H H' : Hp} {a : Addr} {o : HO} (e : Same H H') (h : H a = some o) : H' a = some o := e a o h
theorem small5 {n : Nat} (h : n ≤ 16000000) : n ≤ sizeLine := by rw [sizeLine_eq]; omega
theorem small5' {n : Nat} (h : n ≤ 16000000) : n < sizeLine := by rw [sizeLine_eq]; omega
/-! ### powers -/
def CPowB (i j : Int) : Prop := 0 ≤ j ∧ (Builtin.Int.intBits i : Int) * j ≤ 2 ^ 27
theorem op_powB : OpR X (binaryOp .Pow) (rI CPowB fun i j => .int (i ^ j.toNat)) := opI fun _ _ _ _ _ _ _ hc q => pow_int hc.1 hc.2 q

theorem call_intI : CallR X (.type "int") (fun xs H Q => ∃ i, xs = [.int i] ∧ Q (.int i) H) := fun pins s σ H xs us Q I r h => call_int1 pins s σ H xs us Q I r (.inl h)
theorem call_intB : CallR X (.type "int") (fun xs H Q => ∃ k, xs = [.bl k] ∧ Q (.int (if k then 1 else 0)) H) := fun pins s σ H xs us Q I r h => call_int1 pins s σ H xs us Q I r (.inr h)
theorem cmulR {i j : Int} (h : -(2 ^ 64) < j ∧ j < 2 ^ 64) : CMul i j := .inr h
theorem cmulL {i j : Int} (h : -(2 ^ 64) < i ∧ i < 2 ^ 64) : CMul i j := .inl h
theorem cmod (x : Int) {m : Int} (h : 0 < m) (h2 : m < 2 ^ 64) : -(2 ^ 64) < x % m ∧ x % m < 2 ^ 64 := by
  have h3 := Int.emod_nonneg x (show m ≠ 0 by omega)
  have h4 := Int.emod_lt_of_pos x h
  omega
theorem cdivW {i b : Int} (h : 1 ≤ b) (h2 : b < 1000000000000000) : CDivW i b := by
  refine ⟨by omega, ?_⟩
  have : b.natAbs.log2 < 50 := (Nat.log2_lt (by omega)).mpr (by omega)
  omega
/-! ### enumerate of a text -/
def Ites (x : Str) : It :=
  ⟨fun i _ => i < x.cps.size, fun i H v H' => ∃ T c, v = .ref T ∧ H T = none ∧ x.cps[i]? = some c ∧ H' = upd H T (.tup [.int (i : Nat), .str ⟨#[c]⟩]), fun i _ => x.cps.size ≤ i⟩
theorem turn_enumS {P : Program} {w : World} {K : PySem.W.Frag} {elts : List Expr} {kk : Nat} {tpos : Pos} (e it : Addr) (x : Str) (t : Tok) (ty : String) (hty : ty = "str_ascii_iterator" ∨ ty = "str_iterator") :
    Turn P w K (.Tuple elts kk tpos) (Ites x) [e, it] e (fun i h => (∃ old, IsEnum h e it ((i : Nat) : Int) old) ∧ h.IsStrIter it ty x t i ∧ e ≠ it) where
  mem := by simp
  obj := fun i h st b hb => by
    obtain ⟨⟨old, he⟩, ⟨o, ho, hc, hd⟩, _⟩ := st
    have e' : b = e ∨ b = it := by simpa using hb
    rcases e' with z | z
    · rw [z]; exact ⟨_, he, fun v q => nomatch q⟩
    · rw [z]; exact ⟨o, ho, fun v q => by rw [hd] at q; cases q⟩
  keep := fun i h h' st k => by
    obtain ⟨⟨old, he⟩, ⟨o, ho, r⟩, hne⟩ := st
    exact ⟨⟨old, k e (by simp) _ he⟩, ⟨o, k it (by simp) o ho, r⟩, hne⟩
  item := by
    intro X hP hw hK hc i pins s σ H E I hf st hg
    subst hP hw hK
    obtain ⟨⟨old, he⟩, hit, hne⟩ := st
    have hel : e < s.heap.objs.size := Heap.lt_size he
    have hil : it < s.heap.objs.size := by obtain ⟨_, q, _⟩ := hit; exact Heap.lt_size q
    have D : Draws X.prog X.w X.A.in1 it [it] x.cps.size (fun i v => ∃ c u, x.cps[i]? = some c ∧ v = .str ⟨#[c]⟩ u) (fun i h => h.IsStrIter it ty x t i) := by
      rcases hty with q | q
      · rw [q]; exact Draws.strAscii (A := X.A.in1) (I.ok.hd hc) it x t
      · rw [q]; exact Draws.strWide (A := X.A.in1) (I.ok.hd hc) it x t
    refine wpAny_pyNext_enum_itemD D he hit hg hne (by simpa using hne) fun y h' tk hy ho hit' hT hsz hk => ?_
    obtain ⟨c, u, hcx, rfl⟩ := hy
    refine ⟨_, rfl, wpAny_letOwnedTupleGo_enum (s := { s with heap := h', toks := tk + 1 }) ho fun h'' he' sb => ?_⟩
    have hT2 : h''.get? s.heap.objs.size = some { cls := .type "tuple", data := .seq #[.int i tk, .str ⟨#[c]⟩ u] } := (sb.2 _ (Nat.ne_of_gt hel)).trans hT
    have new : ObjOk X.prog X.w (upd H s.heap.objs.size (.tup [.int (i : Nat), .str ⟨#[c]⟩])) h'' s.heap.objs.size (.tup [.int (i : Nat), .str ⟨#[c]⟩]) :=
      ⟨by show 2 ≤ sizeLine; decide, [.int i tk, .str ⟨#[c]⟩ u], .cons ⟨_, rfl⟩ (.cons ⟨_, rfl⟩ .nil), ⟨_, hT2, rfl, _, rfl⟩⟩
    have I1 : Inv X pins σ (upd H s.heap.objs.size (.tup [.int (i : Nat), .str ⟨#[c]⟩])) { s with heap := h'', toks := tk + 1 } :=
      I.turnedNew (ch := [e, it]) (fun b ob hb q => (sb.2 b (fun z => hb (by simp [z]))).trans (hk b ob (fun z => hb (by simp [z])) (fun z => hb (by simp [z])) q)) hf (Nat.le_refl _) new
    refine ⟨.ref s.heap.objs.size, _, I1, rfl, ⟨_, c, rfl, I.hok.fresh (Nat.le_refl _), hcx, rfl⟩, ⟨⟨.str ⟨#[c]⟩ u, ?_⟩, ?_, hne⟩, fun b hb => ?_⟩
    · have e1 : ((i + 1 : Nat) : Int) = (i : Int) + 1 := by omega
      rw [e1]; exact he'
    · obtain ⟨o, ho', r⟩ := hit'
      exact ⟨o, (sb.2 it (Ne.symm hne)).trans ho', r⟩
    · have hb' : b < s.heap.objs.size := by
        have e' : b = e ∨ b = it := by simpa using hb
        rcases e' with z | z
        · rw [z]; exact hel
        · rw [z]; exact hil
      rw [upd_ne (Nat.ne_of_lt hb')]
      exact (hf b hb).1
  done := by
    intro X hP hw hK hc i pins s σ H E I hf st hg
    subst hP hw hK
    obtain ⟨⟨old, he⟩, hit, hne⟩ := st
    obtain ⟨f0, f1, f2, f3, f4, f5⟩ := hf it (by simp)
    have hx : x.cps[i]? = none := Array.getElem?_eq_none hg
    have hT : s.TypeIs (.ref e) "enumerate" := ⟨_, he, rfl⟩
    unfold pyNext
    refine wpAny_bind (wpAny_attempt (wpAny_callSpecial?_slot (name := Str.ofString "__next__") hT F.slot_enumerate_next
      (wpAny_call_entry F.slot_enumerate_next hT F.entry_enumerate_next ?_ (F.args_enumerate_next_1 _))))
    show wpAny _ _ (field (.ref e) 2 >>= _) _ _ _
    refine wpAny_bind (wpAny_field he rfl (x := .ref it) rfl ?_)
    rcases hty with q | q
    · subst q
      refine wpAny_bind (wpAny_nextOf_ascii_end (A := X.A.in1) (I.ok.hd hc) hit hx fun h' e2 he2 hx' => ?_)
      obtain ⟨o, ho, hcc⟩ := hx'
      refine wpAny_bind (wpAny_isInstance (T := "StopIteration") (b := true) ⟨o, ho, hcc⟩ isSubtype_stop ?_)
      exact wpAny_pure ⟨rfl, I.turned (t' := s.toks) (fun b o hb y => he2 b o hb y) f0 f1 f3 f4 f5⟩
    · subst q
      refine wpAny_bind (wpAny_nextOf_wide_end (A := X.A.in1) (I.ok.hd hc) hit hx fun h' e2 he2 hx' => ?_)
      obtain ⟨o, ho, hcc⟩ := hx'
      refine wpAny_bind (wpAny_isInstance (T := "StopIteration") (b := true) ⟨o, ho, hcc⟩ isSubtype_stop ?_)
      exact wpAny_pure ⟨rfl, I.turned (t' := s.toks) (fun b o hb y => he2 b o hb y) f0 f1 f3 f4 f5⟩
  self := fun A i s Q E st h => let ⟨⟨_, he⟩, _⟩ := st; wpAny_pyIter_enum he h
def iEnumS (ta : TA) : TI := fun σ H R => ta σ H fun vs H1 => ∃ x, vs = [.str x] ∧ R (Ites x) H1
theorem pi_enumS {e : Expr} {ta : TA} {p pos tpos : Pos} {elts : List Expr} {kk : Nat} (hg : Gl X "enumerate") (hm : X.mg "enumerate" = none) (ha : PA X [e] ta) (hs : starEach [e] X.env = [(false, eval e X.env)] := by rfl) :
    PI X (.Tuple elts kk tpos) (.Call (.Name "enumerate" p) [e] [] pos) (iEnumS ta) := by
  refine ⟨fun pins s σ H R I h => ?_⟩
  refine Call_ (ld_blt I hg hm boot_enumerate (PyProof.Rows.callWith_type1 (thn (ha.run pos pins s σ H _ I h) fun us s1 ⟨vs, H1, I1, r1, q1⟩ => ?_) hs rfl))
  obtain ⟨x, ex, q⟩ := q1
  subst ex
  cases r1 with
  | cons r rr =>
    cases rr
    obtain ⟨t, rfl⟩ := r
    refine call_enumerate_str fun h' he hit hsz hk => wpAny_pyIter_enum he ?_
    have I2 : Inv X pins σ H1 { s1 with heap := h' } := I1.kept (t' := s1.toks) hk
    have hty : strIterType x = "str_ascii_iterator" ∨ strIterType x = "str_iterator" := by
      unfold strIterType
      split
      · exact .inl rfl
      · exact .inr rfl
    refine ⟨s1.heap.objs.size + 1, [s1.heap.objs.size + 1, s1.heap.objs.size], _, _, H1, rfl, I2, turn_enumS (s1.heap.objs.size + 1) s1.heap.objs.size x t _ hty, ⟨⟨.none, he⟩, hit, Nat.succ_ne_self _⟩, fun b hb => ?_, q⟩
    have e' : b = s1.heap.objs.size + 1 ∨ b = s1.heap.objs.size := by simpa using hb
    have hle : s1.heap.objs.size ≤ b := by
      rcases e' with z | z
      · rw [z]; exact Nat.le_add_right _ _
      · rw [z]; exact Nat.le_refl _
    exact I1.fpOk hle (I1.hok.fresh hle)
end
/-- a loop over enumerate(text) -/
theorem for_enumS {x : Str} {g : TG} {tb : TS} {D : Ends} {σ : L2.St} {H : Hp} (Pv : Nat → L2.St → Hp → Prop) (h0 : Pv 0 σ H)
    (hs : ∀ i c σ H T, x.cps[i]? = some c → Pv i σ H → H T = none → g (.ref T) σ (upd H T (.tup [.int (i : Nat), .str ⟨#[c]⟩])) fun σ2 H2 => tb { D with nx := Pv (i + 1), ct := Pv (i + 1), bk := D.nx } σ2 H2) (hd : ∀ σ H, Pv x.cps.size σ H → D.nx σ H) :
    ∃ W : Nat → Nat → L2.St → Hp → Prop, (∃ m, W 0 m σ H) ∧ ∀ i m σ H, W i m σ H →
      ((Ites x).stop i H ∧ D.nx σ H) ∨ ((Ites x).go i H ∧ ∃ N : L2.St → Hp → Prop, (∀ σ' H', N σ' H' → ∃ m', m' < m ∧ W (i + 1) m' σ' H') ∧ ∀ v H', (Ites x).yld i H v H' → g v σ H' fun σ2 H2 => tb { D with nx := N, ct := N, bk := D.nx } σ2 H2) := by
  refine ⟨fun i m σ H => m = x.cps.size - i ∧ i ≤ x.cps.size ∧ Pv i σ H, ⟨x.cps.size, by simp, Nat.zero_le _, h0⟩, ?_⟩
  rintro i m σ H ⟨rfl, hi, p⟩
  by_cases hlt : i < x.cps.size
  · refine .inr ⟨hlt, Pv (i + 1), fun σ' H' q => ⟨x.cps.size - (i + 1), by omega, rfl, hlt, q⟩, fun v H' y => ?_⟩
    obtain ⟨T, c, rfl, hT, hc, rfl⟩ := y
    exact hs i c σ H T hc p hT
  · have : i = x.cps.size := by omega
    subst this
    exact .inl ⟨Nat.le_refl _, hd σ H p⟩
/-- a loop over a text's signs -/
theorem for_str {x : Str} {g : TG} {tb : TS} {D : Ends} {σ : L2.St} {H : Hp} (Pv : Nat → L2.St → Hp → Prop) (h0 : Pv 0 σ H)
    (hs : ∀ i c σ H, x.cps[i]? = some c → Pv i σ H → g (.str ⟨#[c]⟩) σ H fun σ2 H2 => tb { D with nx := Pv (i + 1), ct := Pv (i + 1), bk := D.nx } σ2 H2) (hd : ∀ σ H, Pv x.cps.size σ H → D.nx σ H) :
    ∃ W : Nat → Nat → L2.St → Hp → Prop, (∃ m, W 0 m σ H) ∧ ∀ i m σ H, W i m σ H →
      ((Its x).stop i H ∧ D.nx σ H) ∨ ((Its x).go i H ∧ ∃ N : L2.St → Hp → Prop, (∀ σ' H', N σ' H' → ∃ m', m' < m ∧ W (i + 1) m' σ' H') ∧ ∀ v H', (Its x).yld i H v H' → g v σ H' fun σ2 H2 => tb { D with nx := N, ct := N, bk := D.nx } σ2 H2) := by
  refine ⟨fun i m σ H => m = x.cps.size - i ∧ i ≤ x.cps.size ∧ Pv i σ H, ⟨x.cps.size, by simp, Nat.zero_le _, h0⟩, ?_⟩
  rintro i m σ H ⟨rfl, hi, p⟩
  by_cases hlt : i < x.cps.size
  · refine .inr ⟨hlt, Pv (i + 1), fun σ' H' q => ⟨x.cps.size - (i + 1), by omega, rfl, hlt, q⟩, fun v H' y => ?_⟩
    obtain ⟨rfl, c, hc, rfl⟩ := y
    exact hs i c σ H' hc p
  · have : i = x.cps.size := by omega
    subst this
    exact .inl ⟨Nat.le_refl _, hd σ H p⟩
/-- a comprehension over zip(two lists) -/
theorem lc_zip {K : PySem.W.Frag} {a b : Addr} {xs ys : List V} {g : TG} {tt : TT} {te : TE} {vs : List Nat} {σ : L2.St} {H1 : Hp} {D : Addr} {Qd : Hp → Prop} (Pv : Nat → Hp → Prop) (h0 : Pv 0 (upd H1 D (.lst [])))
    (hl : ∀ i H, Pv i H → SqL K H a xs ∧ SqL K H b ys)
    (hs : ∀ i x y H T, xs[i]? = some x → ys[i]? = some y → Pv i H → H T = none → g (.ref T) (wipe σ vs) (upd H T (.tup [x, y])) fun σ2 H2 => wipe σ2 vs = wipe σ vs ∧ tt σ2 H2 fun b H3 =>
      if b = true then te σ2 H3 fun y H4 => ∃ acc, H4 D = some (.lst acc) ∧ acc.length < sizeLine ∧ Pv (i + 1) (upd H4 D (.lst (acc ++ [y]))) else Pv (i + 1) H3)
    (hd : ∀ H, Pv (min xs.length ys.length) H → Qd H) :
    ∃ W : Nat → Nat → Hp → Prop, (∃ m, W 0 m (upd H1 D (.lst []))) ∧ ∀ i m H, W i m H →
      ((Itz K a b).stop i H ∧ Qd H) ∨ ((Itz K a b).go i H ∧ ∃ Nx : Hp → Prop, (∀ H', Nx H' → ∃ m', m' < m ∧ W (i + 1) m' H') ∧ ∀ x H', (Itz K a b).yld i H x H' → g x (wipe σ vs) H' fun σ2 H2 => wipe σ2 vs = wipe σ vs ∧ tt σ2 H2 fun b H3 =>
        if b = true then te σ2 H3 fun y H4 => ∃ acc, H4 D = some (.lst acc) ∧ acc.length < sizeLine ∧ Nx (upd H4 D (.lst (acc ++ [y]))) else Nx H3) := by
  refine ⟨fun i m H => m = min xs.length ys.length - i ∧ i ≤ min xs.length ys.length ∧ Pv i H, ⟨_, rfl, Nat.zero_le _, h0⟩, ?_⟩
  rintro i m H ⟨rfl, hi, p⟩
  obtain ⟨q1, q2⟩ := hl i H p
  by_cases hlt : i < min xs.length ys.length
  · have l1 : i < xs.length := by omega
    have l2 : i < ys.length := by omega
    refine .inr ⟨⟨xs, ys, _, _, q1, q2, List.getElem?_eq_getElem l1, List.getElem?_eq_getElem l2⟩, Pv (i + 1), fun H' q => ⟨_, by omega, rfl, hlt, q⟩, fun v H' y => ?_⟩
    obtain ⟨T, x, y, rfl, hT, rfl, e1, e2⟩ := y
    exact hs i x y H T (e1 xs q1) (e2 ys q2) p hT
  · have : i = min xs.length ys.length := by omega
    subst this
    exact .inl ⟨⟨xs, ys, q1, q2, by omega⟩, hd H p⟩
theorem lst_len {P : Prop} (h : P) : P := h
end TT

set_option linter.all false
set_option maxRecDepth 100000
/-! texts cut and joined, as lists of signs -/
namespace TT
open PySem PySem.Spec PyProof.Rows L2
open TL (joinL join_eq tl_join split_join tl)
theorem cnt_count (c : Nat) : ∀ l : List Nat, cnt c l = ((l.count c : Nat) : Int)
  | [] => rfl
  | x :: r => by
    rw [cnt_cons, cnt_count c r, List.count_cons]
    by_cases h : x = c <;> simp [h] <;> omega
theorem count_S (l : List Nat) (c : Nat) : Txt.count (S l) (S [c]) = ((l.count c : Nat) : Int) := by
  have := count_cnt (S l) c
  rw [cnt_count] at this
  exact this
/-- cut at every c -/
def spl (c : Nat) : List Nat → List (List Nat)
  | [] => [[]]
  | x :: xs => if x = c then [] :: spl c xs else ((x :: (spl c xs).headD []) :: (spl c xs).tail)
theorem spl_ne (c : Nat) (l : List Nat) : spl c l ≠ [] := by
  cases l with
  | nil => simp [spl]
  | cons x xs => unfold spl; split <;> simp
theorem spl_eq (c : Nat) (l : List Nat) : spl c l = (spl c l).headD [] :: (spl c l).tail := by
  have := spl_ne c l
  cases h : spl c l with
  | nil => exact absurd h this
  | cons a b => rfl
theorem spl_length (c : Nat) : ∀ l : List Nat, (spl c l).length = l.count c + 1
  | [] => rfl
  | x :: xs => by
    unfold spl
    have ih := spl_length c xs
    rw [List.count_cons]
    by_cases h : x = c
    · simp [h, ih]
    · simp [h]; have := spl_eq c xs; omega
theorem spl_free (c : Nat) : ∀ l : List Nat, ∀ p ∈ spl c l, c ∉ p
  | [], p, hp => by simp [spl] at hp; subst hp; simp
  | x :: xs, p, hp => by
    have ih := spl_free c xs
    rw [spl_eq c xs] at ih
    unfold spl at hp
    by_cases h : x = c
    · simp only [h, if_true] at hp
      rcases List.mem_cons.mp hp with rfl | hp
      · simp
      · rw [spl_eq c xs] at hp; exact ih p hp
    · simp only [h, if_false] at hp
      rcases List.mem_cons.mp hp with rfl | hp
      · intro hc
        rcases List.mem_cons.mp hc with rfl | hc
        · exact h rfl
        · exact ih _ List.mem_cons_self hc
      · exact ih p (List.mem_cons_of_mem _ hp)
theorem spl_joinL (c : Nat) : ∀ l : List Nat, joinL [c] (spl c l) = l
  | [] => rfl
  | x :: xs => by
    have ih := spl_joinL c xs
    unfold spl
    by_cases h : x = c
    · simp only [h, if_true]
      rw [spl_eq c xs] at ih ⊢
      show [] ++ ([c] ++ joinL [c] (_ :: _)) = c :: xs
      rw [ih]; rfl
    · simp only [h, if_false]
      rw [spl_eq c xs] at ih
      cases ht : (spl c xs).tail with
      | nil =>
        rw [ht] at ih
        show x :: (spl c xs).headD [] = x :: xs
        have ih' : (spl c xs).headD [] = xs := ih
        rw [ih']
      | cons q r =>
        rw [ht] at ih
        show (x :: (spl c xs).headD []) ++ ([c] ++ joinL [c] (q :: r)) = x :: xs
        have ih' : (spl c xs).headD [] ++ ([c] ++ joinL [c] (q :: r)) = xs := ih
        rw [List.cons_append, ih']
theorem tl_S (l : List Nat) : tl (S l) = l := by simp [tl]
theorem tl_mapS : ∀ ls : List (List Nat), (ls.map S).map tl = ls
  | [] => rfl
  | l :: ls => by rw [List.map_cons, List.map_cons, tl_S, tl_mapS ls]
theorem S_tl (x : Str) : S (tl x) = x := by cases x; simp [tl]
theorem split_S (l : List Nat) (c : Nat) (hc : c < 256) : Txt.split (S l) (S [c]) = (spl c l).map S := by
  have e : Txt.join (S [c]) ((spl c l).map S) = S l := by
    rw [join_eq, ← S_tl (Str.join _ _), tl_join, tl_mapS, tl_S, spl_joinL]
  rw [← e]
  refine split_join (s := c) (S := []) (tl_S _) (by simp [hc]) (by simp [spl_ne]) fun p hp => ?_
  obtain ⟨q, hq, rfl⟩ := List.mem_map.mp hp
  rw [tl_S]
  exact spl_free c l q hq
theorem joinL_nil : ∀ ls : List (List Nat), joinL [] ls = ls.flatten
  | [] => rfl
  | [p] => by simp [joinL]
  | p :: q :: r => by
    show p ++ ([] ++ joinL [] (q :: r)) = _
    rw [joinL_nil (q :: r)]; simp
theorem join_S (ls : List (List Nat)) : Txt.join (S []) (ls.map S) = S ls.flatten := by
  rw [join_eq, ← S_tl (Str.join _ _), tl_join, tl_mapS, tl_S, joinL_nil]

/-! ### a text with its leaves' signs replaced -/
def sub46 : List Nat → List (List Nat) → List Nat
  | [], _ => []
  | x :: xs, ys => if x = 46 then ys.headD [] ++ sub46 xs ys.tail else x :: sub46 xs ys
theorem sub46_other {x : Nat} (xs : List Nat) (ys : List (List Nat)) (h : x ≠ 46) : sub46 (x :: xs) ys = x :: sub46 xs ys := by
  show (if x = 46 then _ else _) = _
  rw [if_neg h]
theorem weave : ∀ (l : List Nat) (ys : List (List Nat)), ys.length = l.count 46 → (spl 46 l).headD [] ++ (List.zipWith (fun i p => i ++ p) ys (spl 46 l).tail).flatten = sub46 l ys
  | [], ys, h => by simp [spl, sub46]
  | x :: xs, ys, h => by
    rw [List.count_cons] at h
    unfold spl sub46
    by_cases hx : x = 46
    · simp only [hx, if_true]
      cases ys with
      | nil => simp [hx] at h
      | cons y ys =>
        have hl : ys.length = xs.count 46 := by simp [hx] at h; exact h
        have ih := weave xs ys hl
        rw [spl_eq 46 xs]
        simp only [List.headD_cons, List.tail_cons, List.zipWith_cons_cons, List.flatten_cons, List.nil_append, List.append_assoc]
        rw [ih]
    · simp only [hx, if_false]
      have hl : ys.length = xs.count 46 := by simp [hx] at h; exact h
      have ih := weave xs ys hl
      simp only [List.headD_cons, List.tail_cons, List.cons_append]
      rw [ih]
theorem count_tree : ∀ t : Tr, t.cs.count 46 = t.lvs
  | .leaf => rfl
  | .node l r => by simp [Tr.cs, Tr.lvs, count_tree l, count_tree r]
theorem count_open : ∀ t : Tr, t.cs.count 40 = t.size
  | .leaf => rfl
  | .node l r => by simp [Tr.cs, Tr.size, count_open l, count_open r]
theorem sub_tree : ∀ (t : Tr) (rest : List Nat) (xs : List Tr), t.lvs ≤ xs.length → sub46 (t.cs ++ rest) (xs.map Tr.cs) = (t.growR xs).1.cs ++ sub46 rest ((t.growR xs).2.map Tr.cs)
  | .leaf, rest, [], h => by simp [Tr.lvs] at h
  | .leaf, rest, x :: xs, h => by simp [Tr.cs, sub46, Tr.growR]
  | .node l r, rest, xs, h => by
    simp only [Tr.lvs] at h
    have hl := Tr.growR_len l xs (by omega)
    show sub46 (40 :: ((l.cs ++ (r.cs ++ [41])) ++ rest)) _ = _
    rw [sub46_other _ _ (by decide), List.append_assoc, sub_tree l _ xs (by omega), List.append_assoc, sub_tree r _ _ (by omega)]
    show _ = (40 :: ((l.growR xs).1.cs ++ ((r.growR (l.growR xs).2).1.cs ++ [41]))) ++ _
    simp only [List.cons_append, List.append_assoc, List.nil_append]
    rw [sub46_other _ _ (by decide)]
    rfl
theorem grown_text (t : Tr) (xs : List Tr) (h : xs.length = t.lvs) :
    (spl 46 t.cs).headD [] ++ (List.zipWith (fun i p => i ++ p) (xs.map Tr.cs) (spl 46 t.cs).tail).flatten = (t.grow xs).cs := by
  rw [weave _ _ (by rw [List.length_map, count_tree]; exact h)]
  have := sub_tree t [] xs (by omega)
  rw [List.append_nil] at this
  rw [this]
  unfold Tr.grow
  show _ ++ [] = _
  rw [List.append_nil]
theorem spl_le (c : Nat) : ∀ l : List Nat, ∀ p ∈ spl c l, p.length ≤ l.length
  | [], p, hp => by simp [spl] at hp; subst hp; simp
  | x :: xs, p, hp => by
    have ih := spl_le c xs
    rw [spl_eq c xs] at ih
    unfold spl at hp
    by_cases h : x = c
    · simp only [h, if_true] at hp
      rcases List.mem_cons.mp hp with rfl | hp
      · simp
      · rw [spl_eq c xs] at hp
        exact Nat.le_succ_of_le (ih p hp)
    · simp only [h, if_false] at hp
      rcases List.mem_cons.mp hp with rfl | hp
      · exact Nat.succ_le_succ (ih _ List.mem_cons_self)
      · exact Nat.le_succ_of_le (ih p (List.mem_cons_of_mem _ hp))
theorem growR_size {B : Nat} : ∀ (t : Tr) (xs : List Tr), (∀ x ∈ xs, x.size ≤ B) → (t.growR xs).1.size ≤ t.size + t.lvs * B ∧ ∀ x ∈ (t.growR xs).2, x.size ≤ B
  | .leaf, [], h => by simp [Tr.growR, Tr.size]
  | .leaf, x :: xs, h => by
    have := h x List.mem_cons_self
    refine ⟨?_, fun y hy => h y (List.mem_cons_of_mem _ hy)⟩
    show x.size ≤ 0 + 1 * B
    omega
  | .node l r, xs, h => by
    obtain ⟨h1, h2⟩ := growR_size l xs h
    obtain ⟨h3, h4⟩ := growR_size r _ h2
    refine ⟨?_, h4⟩
    show (l.growR xs).1.size + (r.growR (l.growR xs).2).1.size + 1 ≤ l.size + r.size + 1 + (l.lvs + r.lvs) * B
    rw [Nat.add_mul]
    omega
theorem grow_size {B : Nat} (t : Tr) (xs : List Tr) (h : ∀ x ∈ xs, x.size ≤ B) : (t.grow xs).size ≤ t.size + t.lvs * B := (growR_size t xs h).1
theorem sumlen_S (ls : List (List Nat)) : ((ls.map S).map (·.length)).sum = ls.flatten.length := by
  induction ls with
  | nil => rfl
  | cons l ls ih => rw [List.map_cons, List.map_cons, List.sum_cons, ih, List.flatten_cons, List.length_append, S_len]
end TT

set_option linter.all false
set_option maxRecDepth 100000
/-! where the parts end: as the program goes along the signs -/
namespace TT
open PySem
def endsRun : List Nat → Nat → List Nat → List Nat → Option (List Nat)
  | [], _, b, st => if st = [] then some b else none
  | c :: cs, k, b, st =>
    if c = 40 then endsRun cs (k + 1) b (k :: st)
    else if c = 41 then
      match st with
      | [] => none
      | o :: st' => if o < b.length then endsRun cs (k + 1) (b.set o (k + 1)) st' else none
    else if k < b.length then endsRun cs (k + 1) (b.set k (k + 1)) st else none
theorem endsRun_open (cs : List Nat) (k : Nat) (b st : List Nat) : endsRun (40 :: cs) k b st = endsRun cs (k + 1) b (k :: st) := rfl
theorem endsRun_close (cs : List Nat) (k o : Nat) (b st : List Nat) (h : o < b.length) : endsRun (41 :: cs) k b (o :: st) = endsRun cs (k + 1) (b.set o (k + 1)) st := by
  show (if o < b.length then _ else _) = _
  rw [if_pos h]
theorem endsRun_dot (cs : List Nat) (k : Nat) (b st : List Nat) (h : k < b.length) : endsRun (46 :: cs) k b st = endsRun cs (k + 1) (b.set k (k + 1)) st := by
  show (if k < b.length then _ else _) = _
  rw [if_pos h]
theorem set_mid (A : List Nat) (x y : Nat) (B : List Nat) : (A ++ x :: B).set A.length y = A ++ y :: B := by
  rw [List.set_append_right _ _ (Nat.le_refl _), Nat.sub_self]; rfl
theorem endsRun_tree : ∀ (t : Tr) (rest : List Nat) (k : Nat) (A B st : List Nat), A.length = k →
    endsRun (t.cs ++ rest) k (A ++ (List.replicate t.len 0 ++ B)) st = endsRun rest (k + t.len) (A ++ (Tr.ends k t ++ B)) st
  | .leaf, rest, k, A, B, st, h => by
    subst h
    show endsRun (46 :: rest) A.length (A ++ (0 :: B)) st = endsRun rest (A.length + 1) (A ++ ((A.length + 1) :: B)) st
    rw [endsRun_dot _ _ _ _ (by simp), set_mid]
  | .node l r, rest, k, A, B, st, h => by
    subst h
    have e : List.replicate (Tr.node l r).len 0 ++ B = 0 :: (List.replicate l.len 0 ++ (List.replicate r.len 0 ++ (0 :: B))) := by
      show List.replicate (l.len + r.len + 2) 0 ++ B = _
      rw [show l.len + r.len + 2 = 1 + l.len + r.len + 1 by omega, ← List.replicate_append_replicate, ← List.replicate_append_replicate, ← List.replicate_append_replicate]
      show (([0] ++ List.replicate l.len 0) ++ List.replicate r.len 0 ++ [0]) ++ B = _
      simp only [List.append_assoc, List.cons_append, List.nil_append]
    rw [e]
    show endsRun (40 :: ((l.cs ++ (r.cs ++ [41])) ++ rest)) A.length _ st = _
    rw [endsRun_open, List.append_assoc]
    have e1 : A ++ 0 :: (List.replicate l.len 0 ++ (List.replicate r.len 0 ++ (0 :: B))) = (A ++ [0]) ++ (List.replicate l.len 0 ++ (List.replicate r.len 0 ++ (0 :: B))) := by simp
    rw [e1, endsRun_tree l _ (A.length + 1) (A ++ [0]) _ _ (by simp), List.append_assoc]
    have e2 : (A ++ [0]) ++ (Tr.ends (A.length + 1) l ++ (List.replicate r.len 0 ++ (0 :: B))) = (A ++ [0] ++ Tr.ends (A.length + 1) l) ++ (List.replicate r.len 0 ++ (0 :: B)) := by simp
    rw [e2, endsRun_tree r _ (A.length + 1 + l.len) _ _ _ (by simp [Tr.ends_length]; omega)]
    show endsRun (41 :: ([] ++ rest)) _ _ (A.length :: st) = _
    rw [endsRun_close _ _ _ _ _ (by simp)]
    have e3 : (A ++ [0] ++ Tr.ends (A.length + 1) l) ++ (Tr.ends (A.length + 1 + l.len) r ++ (0 :: B)) = A ++ 0 :: (Tr.ends (A.length + 1) l ++ (Tr.ends (A.length + 1 + l.len) r ++ (0 :: B))) := by simp
    rw [e3, set_mid]
    have e4 : A.length + 1 + l.len + r.len + 1 = A.length + (Tr.node l r).len := by show _ = A.length + (l.len + r.len + 2); omega
    rw [e4]
    simp only [List.nil_append, Tr.ends, List.cons_append, List.append_assoc]
theorem endsRun_text (t : Tr) : endsRun t.cs 0 (List.replicate t.len 0) [] = some (Tr.ends 0 t) := by
  have := endsRun_tree t [] 0 [] [] [] rfl
  simp only [List.append_nil, List.nil_append] at this
  rw [this]; rfl
/-- what a step says -/
theorem endsRun_step {c : Nat} {cs : List Nat} {k : Nat} {b st F : List Nat} (h : endsRun (c :: cs) k b st = some F) :
    (c = 40 ∧ endsRun cs (k + 1) b (k :: st) = some F) ∨ (c = 41 ∧ ∃ o st', st = o :: st' ∧ o < b.length ∧ endsRun cs (k + 1) (b.set o (k + 1)) st' = some F) ∨
    (c ≠ 40 ∧ c ≠ 41 ∧ k < b.length ∧ endsRun cs (k + 1) (b.set k (k + 1)) st = some F) := by
  by_cases h1 : c = 40
  · subst h1; exact .inl ⟨rfl, h⟩
  by_cases h2 : c = 41
  · subst h2
    cases st with
    | nil => exact nomatch (show (none : Option (List Nat)) = some F from h)
    | cons o st' =>
      have h : (if o < b.length then endsRun cs (k + 1) (b.set o (k + 1)) st' else none) = some F := h
      by_cases h3 : o < b.length
      · rw [if_pos h3] at h; exact .inr (.inl ⟨rfl, o, st', rfl, h3, h⟩)
      · rw [if_neg h3] at h; cases h
  · have h : (if c = 40 then endsRun cs (k + 1) b (k :: st) else if c = 41 then _ else if k < b.length then endsRun cs (k + 1) (b.set k (k + 1)) st else none) = some F := h
    rw [if_neg h1, if_neg h2] at h
    by_cases h3 : k < b.length
    · rw [if_pos h3] at h; exact .inr (.inr ⟨h1, h2, h3, h⟩)
    · rw [if_neg h3] at h; cases h
end TT

set_option linter.all false
set_option maxRecDepth 100000
/-! two trees gone along together: what is still ahead -/
namespace TT
open PySem
abbrev Ag := List (Option (Tr × Tr))
namespace Ag
def tl : Ag → List Nat
  | [] => []
  | none :: r => 41 :: tl r
  | some p :: r => p.1.cs ++ tl r
def tr : Ag → List Nat
  | [] => []
  | none :: r => 41 :: tr r
  | some p :: r => p.2.cs ++ tr r
def hangs : Ag → Option (List Tr)
  | [] => some []
  | none :: r => hangs r
  | some p :: r => (Tr.hang p.1 p.2).bind fun x => (hangs r).map fun y => x ++ y
/-- the parts ahead stand at their places of the first tree's text, of the second's -/
def AtL (T : Tr) : Nat → Ag → Prop
  | _, [] => True
  | k, none :: r => AtL T (k + 1) r
  | k, some p :: r => Tr.Sub T k p.1 ∧ AtL T (k + p.1.len) r
def AtR (T : Tr) : Nat → Ag → Prop
  | _, [] => True
  | k, none :: r => AtR T (k + 1) r
  | k, some p :: r => Tr.Sub T k p.2 ∧ AtR T (k + p.2.len) r
end Ag
theorem cs_head (t : Tr) : ∃ r, t.cs = (if t = .leaf then 46 else 40) :: r := by
  cases t with
  | leaf => exact ⟨[], rfl⟩
  | node l r => exact ⟨_, rfl⟩
theorem Ag.tr_nil {ag : Ag} (h : ag.tr = []) : ag = [] := by
  match ag with
  | [] => rfl
  | none :: r => simp [Ag.tr] at h
  | some p :: r =>
    obtain ⟨q, e⟩ := cs_head p.2
    simp [Ag.tr, e] at h
theorem Ag.tl_nil {ag : Ag} (h : ag.tl = []) : ag = [] := by
  match ag with
  | [] => rfl
  | none :: r => simp [Ag.tl] at h
  | some p :: r =>
    obtain ⟨q, e⟩ := cs_head p.1
    simp [Ag.tl, e] at h
theorem Sub_left {T l r : Tr} {k : Nat} (h : Tr.Sub T k (.node l r)) : Tr.Sub T (k + 1) l := .left h
theorem Sub_right {T l r : Tr} {k : Nat} (h : Tr.Sub T k (.node l r)) : Tr.Sub T (k + 1 + l.len) r := .right h
theorem drop_cons {α : Type} {l : List α} {k : Nat} {x : α} {r : List α} (h : l.drop k = x :: r) : l[k]? = some x ∧ k < l.length ∧ l.drop (k + 1) = r := by
  have hk : k < l.length := by
    by_cases hk : k < l.length
    · exact hk
    · rw [List.drop_eq_nil_of_le (by omega)] at h; cases h
  rw [List.drop_eq_getElem_cons hk] at h
  injection h with h1 h2
  exact ⟨by rw [List.getElem?_eq_getElem hk, h1], hk, h2⟩
theorem drop_app {α : Type} {l a r : List α} {k : Nat} (h : l.drop k = a ++ r) : l.drop (k + a.length) = r := by
  rw [← List.drop_drop, h, List.drop_left]
theorem rixs {l : List Nat} {k c : Nat} {H : L2.Hp} {Q : L2.VK} (hl : l.length ≤ 16000000) (h : l[k]? = some c) (q : Q (.str ⟨#[c]⟩) H) : L2.rIxS (.str (S l)) (.int (k : Nat)) H Q :=
  ⟨S l, (k : Int), c, rfl, rfl, by rw [S_len]; exact small5 hl, L2.atI_nat (by simpa using h), q⟩
theorem rixl {K : PySem.W.Frag} {a : Addr} {xs : List L2.V} {k : Nat} {x : L2.V} {H : L2.Hp} {Q : L2.VK} (ha : H a = some (.lst xs)) (h : xs[k]? = some x) (q : Q x H) : L2.rIxL K (.ref a) (.int (k : Nat)) H Q :=
  ⟨a, xs, (k : Int), x, rfl, rfl, L2.SqL.of ha, L2.atI_nat h, q⟩
namespace Ag
def outs : Ag → List Nat
  | [] => []
  | none :: r => 41 :: outs r
  | some p :: r => (Tr.meet p.1 p.2).cs ++ outs r
end Ag
theorem signs_join (l : List Nat) : Txt.join (S []) (l.map fun c => S [c]) = S l := by
  have e : (l.map fun c => S [c]) = (l.map fun c => [c]).map S := by rw [List.map_map]; rfl
  rw [e, join_S]
  congr 1
  clear e
  induction l with
  | nil => rfl
  | cons a r ih => rw [List.map_cons, List.flatten_cons]; show [a] ++ _ = _; rw [show (List.map (fun c => [c]) r).flatten = r from by simpa using ih]; rfl
theorem signs_sum (l : List Nat) : ((l.map fun c => S [c]).map (·.length)).sum = l.length := by
  induction l with
  | nil => rfl
  | cons a r ih => rw [List.map_cons, List.map_cons, List.sum_cons, ih, S_len]; simp; omega
theorem hang_size : ∀ (s c : Tr) (xs : List Tr), Tr.hang s c = some xs → ∀ x ∈ xs, x.size ≤ s.size
  | s, .leaf, xs, h => by
    simp [Tr.hang] at h; subst h
    intro x hx
    rw [List.mem_singleton.mp hx]
    exact Nat.le_refl _
  | .leaf, .node _ _, xs, h => by simp [Tr.hang] at h
  | .node a b, .node c d, xs, h => by
    simp only [Tr.hang, Option.bind_eq_some_iff, Option.map_eq_some_iff] at h
    obtain ⟨x, hx, y, hy, rfl⟩ := h
    intro z hz
    show z.size ≤ a.size + b.size + 1
    rcases List.mem_append.mp hz with hz | hz
    · have := hang_size a c x hx z hz; omega
    · have := hang_size b d y hy z hz; omega
theorem mem_pick : ∀ (xs ys : List Tr), ∀ x ∈ List.zipWith Tr.pick xs ys, x ∈ xs ∨ x ∈ ys
  | [], _, x, h => by simp at h
  | _ :: _, [], x, h => by simp at h
  | a :: xs, b :: ys, x, h => by
    rw [List.zipWith_cons_cons] at h
    rcases List.mem_cons.mp h with rfl | h
    · unfold Tr.pick
      split
      · exact .inr List.mem_cons_self
      · exact .inl List.mem_cons_self
    · rcases mem_pick xs ys x h with h | h
      · exact .inl (List.mem_cons_of_mem _ h)
      · exact .inr (List.mem_cons_of_mem _ h)
end TT

set_option Elab.async false
set_option linter.all false
set_option maxRecDepth 100000
set_option maxHeartbeats 4000000
/-! TX: errors that are kept as values: made, asked for their class, their field read; repr of plain data. -/
namespace TX
open PySem PySem.Spec PyProof.Rows L2

/-! ### classes -/
/-- what the written part says of an own error class: its line of ancestors, and what its instances are asked by -/
structure ErrC (K : PySem.W.Frag) (C : Addr) (l : List Value) : Prop where
  mro : (PySem.W.clsIn K C).map (·.mro) = some l
  ty : PySem.W.typeIn K (.ref C) = some (.type "type")
  ec : ExcC K C
theorem ErrC.isSome {K : PySem.W.Frag} {C : Addr} {l : List Value} (x : ErrC K C l) : (PySem.W.clsIn K C).isSome = true := by
  have e := x.mro
  cases q : PySem.W.clsIn K C with
  | some _ => rfl
  | none => rw [q] at e; cases e
theorem ErrC.sub {K : PySem.W.Frag} {C : Addr} {l : List Value} (x : ErrC K C l) (hl : l.isEmpty = false) (v : Value) : PySem.W.subIn K (.ref C) v = some (l.contains v) := by
  show PySem.W.mroIn K C v = _
  unfold PySem.W.mroIn
  have e := x.mro
  cases q : PySem.W.clsIn K C with
  | none => rw [q] at e; cases e
  | some cd =>
    rw [q] at e
    have e2 : cd.mro = l := Option.some.inj e
    rw [Option.bind_some, e2, hl]
    rfl
/-- isinstance's answer for two own classes -/
theorem kit_own {K : PySem.W.Frag} {C D : Addr} {l l' : List Value} (x : ErrC K C (.ref C :: l)) (y : ErrC K D l') : PySem.W.kitOne K (.ref C) (.ref D) = some (decide (C = D) || l.contains (.ref D)) := by
  unfold PySem.W.kitOne
  by_cases h : C = D
  · subst h
    simp
  · have e : ((Value.ref C) == (Value.ref D)) = false := beq_eq_false_iff_ne.mpr fun z => h (Value.ref.inj z)
    rw [e, if_neg Bool.false_ne_true]
    unfold PySem.W.kitCls
    dsimp only
    rw [if_pos (by rw [y.isSome, y.ty]; rfl), x.sub rfl, List.contains_cons]
    have e2 : ((Value.ref D) == (Value.ref C)) = false := beq_eq_false_iff_ne.mpr fun z => h (Value.ref.inj z).symm
    rw [e2]
    simp [h]
theorem kit_ve {K : PySem.W.Frag} {C : Addr} {l : List Value} (x : ErrC K C l) (hl : l.isEmpty = false) : PySem.W.kitOne K (.ref C) (.type "ValueError") = some (l.contains (.type "ValueError")) := by
  unfold PySem.W.kitOne
  have e : ((Value.ref C) == (Value.type "ValueError")) = false := rfl
  rw [e, if_neg Bool.false_ne_true]
  unfold PySem.W.kitCls
  dsimp only
  rw [if_pos (by decide +kernel), x.sub hl]

/-! ### an error as a value -/
/-- at a: an error of the class at C with the fields fs -/
def Err (H : Hp) (a C : Addr) (fs : List (Str × V)) : Prop := ∃ d, H a = some (exo a C (some d)) ∧ H d = some (exd d fs)
/-- at a: an error whose __init__ has stored nothing -/
def Err0 (H : Hp) (a C : Addr) : Prop := H a = some (exo a C none)
theorem Err.same {H H' : Hp} {a C : Addr} {fs : List (Str × V)} (e : Err H a C fs) (h : ∀ b o, H b = some o → H' b = some o) : Err H' a C fs :=
  let ⟨d, h1, h2⟩ := e
  ⟨d, h _ _ h1, h _ _ h2⟩

section
variable {X : Cx} {pins : List (Addr × Obj)} {σ : L2.St} {H : Hp} {s : Shared} {a C : Addr} {fs : List (Str × V)}
theorem inst_of (I : Inv X pins σ H s) (e : Err H a C fs ∨ Err0 H a C) : ∃ ox od, PySem.W.InstAt s.heap a ox C od := by
  rcases e with ⟨d, h1, h2⟩ | h1
  · obtain ⟨t1, ho⟩ := exo_at I.hok h1
    obtain ⟨mA, hns, _⟩ := exd_at I.hok h2
    obtain ⟨od, hd, _⟩ := lookIn_ns hns
    exact ⟨_, some od, ho, rfl, rfl, hd⟩
  · obtain ⟨t1, ho⟩ := exo_at I.hok h1
    exact ⟨_, none, ho, rfl, rfl, trivial⟩
end
/-- isinstance(e, c): e an error that is kept -/
def rIsX (K : PySem.W.Frag) : List V → Hp → VK → Prop := fun xs H Q => ∃ (a C : Addr) (fs : List (Str × V)) (c : V) (cv : Value) (b : Bool), xs = [.ref a, c] ∧ ExcC K C ∧ (Err H a C fs ∨ Err0 H a C) ∧ ClsV c cv ∧ PySem.W.kitOne K (.ref C) cv = some b ∧ Q (.bl b) H
theorem call_isX {X : Cx} : CallR X (.builtin "isinstance") (rIsX X.K) := by
  intro pins s σ H xs us Q I r h
  obtain ⟨a, C, fs, c, cv, b, rfl, hC, he, k, e, q⟩ := h
  obtain ⟨u1, u2, rfl, r1, r2⟩ := vals2 r
  cases (show u1 = Value.ref a from r1)
  have e2 := k.eq r2
  subst e2
  obtain ⟨ox, od, J⟩ := inst_of I he
  refine PySem.W.kia_one (PySem.W.kitx_exc (ox := ox) (od := od) ?_ hC.hg hC.hk hC.hs hC.ha hC.hn hC.ht hC.hm) I.kIn J e (fun z => nomatch z) fun tk => ⟨.bl b, H, I.tok tk, rfl, q⟩
  have z := hC.hd
  unfold PySem.W.hasDictIn at z
  cases w : PySem.W.clsIn X.K C with
  | some _ => rfl
  | none => rw [w] at z; cases z
/-- e.f: a field of an error that is kept -/
def tFx (K : PySem.W.Frag) (f : Str) (te : TE) : TE := fun σ H Q => te σ H fun x H1 => ∃ (a C : Addr) (fs : List (Str × V)) (v : V), x = .ref a ∧ XfC K C ∧ PySem.W.findIn K (.ref C) f = some none ∧ Err H1 a C fs ∧ fs.lookup f = some v ∧ Q v H1
theorem pe_fx {X : Cx} {e : Expr} {te : TE} {pos : Pos} {f : Str} (he : PE X e te) (hb : attributeBase e f X.env (eval e X.env) = eval e X.env := by rfl) : PE X (.Attribute e f pos) (tFx X.K f te) := by
  refine ⟨fun pins s σ H Q I h => attr_of hb (thn (he.run pins s σ H _ I h) fun u s1 ⟨x, H1, I1, rx, a, C, fs, v, ex, T, hno, ⟨d, h1, h2⟩, l, q⟩ => ?_)⟩
  subst ex
  cases (show u = Value.ref a from rx)
  obtain ⟨t1, ho⟩ := exo_at I1.hok h1
  obtain ⟨mA, hns, hr⟩ := exd_at I1.hok h2
  obtain ⟨od, hd, hl⟩ := lookIn_ns hns
  obtain ⟨y, hy, ry⟩ := RelO.some_of (v := v) (o := mA f) (by rw [← l]; exact hr f)
  have J : PySem.W.InstAt s1.heap a ({ cls := .ref C, dict := some d, data := .fields #[.ref t1, .none, .none, .none, .bool false, .none] } : Obj) C (some od) := ⟨ho, rfl, rfl, hd⟩
  exact HandSPX.exc_get I1.kIn J T.ga T.gg T.exC (PySem.W.findObj_own T.hdC hno rfl (by rw [hl, hy])) (handed_of ry) ⟨v, H1, I1.tok _, ry, q⟩
/-! ### an error is made -/
/-- C(e, ..): sp is what C's __init__ keeps -/
def tMx (C : Addr) (sp : Sp) (dvs : List V) (ta : TA) : TE := fun σ H Q => ta σ H fun vs H1 => vs.length ≤ 1000 ∧ ∀ a, H1 a = none → sp (.ref a :: (vs ++ dvs)) (upd H1 a (exo a C none)) (fun v H2 => v = .non ∧ Q (.ref a) H2) (fun _ _ _ => False)
section
variable {X : Cx} {CX : CXT} {x : Str} {C fI : Addr} {k : Nat} {fd : FuncData} {ps : List Str} {sp : Sp} {ds : List Value} {dvs : List V} {e : Expr} {es : List Expr} {ta : TA} {p pos : Pos}
theorem run_mx {pins : List (Addr × Obj)} {σ : L2.St} {H1 : Hp} {s1 : Shared} {Q : VK} {us : List Value} {vs : List V} (T : OexC X.K C) (iC : PySem.W.findIn X.K (.ref C) "__init__" = some (some (.ref fI))) (tI : PySem.W.typeIn X.K (.ref fI) = some (.type "function"))
    (F1 : FnOk X.prog X.w X.K X.mg X.base CX k fI fd ps sp) (hr : Room (k + 1) X.A) (hb : Binds X.K fd ps ds) (hd : Vals dvs ds) (hx : Passes CX X (fun _ _ _ => False)) (I1 : Inv X pins σ H1 s1) (r1 : Vals vs us) (hz : vs.length ≤ 1000)
    (q1 : ∀ a, H1 a = none → sp (.ref a :: (vs ++ dvs)) (upd H1 a (exo a C none)) (fun v H2 => v = .non ∧ Q (.ref a) H2) (fun _ _ _ => False)) : wpAny (model X.prog X.w) X.A (call (.ref C) us) (EP X pins σ Q) X.xe s1 := by
  obtain ⟨nm, qn, N, bs, bm, sn, sub, ab, col, dd, k0, k1, k2, k3, k5, hC, hbm⟩ := T.cls
  obtain ⟨hp, g, dr, tk, os⟩ := s1
  have above : hp.objs.size ≤ hp.objs.size + 1 := Nat.le_succ _
  have new : H1 (hp.objs.size + 1) = none := I1.hok.fresh above
  have run := q1 _ new
  have laid : ∀ b o, hp.get? b = some o → ((hp.push (PySem.W.kdv_tup us)).push (PySem.HandSPX.excO C hp.objs.size)).get? b = some o := fun b o z => Heap.get?_push_of_some _ (Heap.get?_push_of_some _ z)
  have there : ((hp.push (PySem.W.kdv_tup us)).push (PySem.HandSPX.excO C hp.objs.size)).get? (hp.objs.size + 1) = some (PySem.HandSPX.excO C hp.objs.size) := by heap_get
  have I2 : Inv X pins σ (upd H1 (hp.objs.size + 1) (exo (hp.objs.size + 1) C none)) ⟨(hp.push (PySem.W.kdv_tup us)).push (PySem.HandSPX.excO C hp.objs.size), g, dr, tk, os⟩ := I1.laid (t' := tk) laid above (exo_ok there)
  have vals : Vals (V.ref (hp.objs.size + 1) :: (vs ++ dvs)) (Value.ref (hp.objs.size + 1) :: (us ++ ds)) := .cons rfl (r1.append hd)
  have many : (Value.ref (hp.objs.size + 1) :: us ++ ds).length = ps.length := vals.length.symm.trans (F1.len _ _ _ _ run)
  have small : us.length ≤ sizeLine := by
    have z := Paired.length r1
    rw [sizeLine_eq]; omega
  have body := F1.run _ X.stack _ _ ⟨Value.ref (hp.objs.size + 1) :: us, []⟩ (Value.ref (hp.objs.size + 1) :: (us ++ ds)) _ _ (fun _ _ _ => False) (hr.make C us []) (I2.env0.make C us []) (hb _ (Value.ref (hp.objs.size + 1) :: us) I2.kIn many) vals run
  have made := PySem.HandSPX.call_own (R := fun r s' => match r with | .ok (.ret v) => EP X pins σ Q v s' | .ok _ => False | .error er => X.xe er s') F.excBase_ValueError (fun Y => PySem.HandSPX.refsVE_contains Y bm hbm) (I1.kIn _ _ hC) (PySem.W.looks_findIn I1.kIn iC) (fun self => PySem.W.bind_fn I1.kIn self tI) small
    (codeAny_mono body fun r s' z => by
      cases r with
      | error er => exact hx pins σ _ _ er s' I2 z
      | ok fl =>
        cases fl with
        | ret u =>
          obtain ⟨v, H2, J, rv, ev, q⟩ := I2.after z
          subst ev
          exact ⟨rv, ⟨V.ref (hp.objs.size + 1), H2, J, rfl, q⟩⟩
        | next => exact False.elim z
        | brk => exact False.elim z
        | cont => exact False.elim z)
  exact wpAny_call made
theorem pe_mx (T : OexC X.K C) (iC : PySem.W.findIn X.K (.ref C) "__init__" = some (some (.ref fI))) (tI : PySem.W.typeIn X.K (.ref fI) = some (.type "function"))
    (F1 : FnOk X.prog X.w X.K X.mg X.base CX k fI fd ps sp) (hr : Room (k + 1) X.A) (hb : Binds X.K fd ps ds) (hd : Vals dvs ds) (hx : Passes CX X (fun _ _ _ => False)) (hg : Gl X x) (hm : X.mg x = some (.ref C)) (ha : PA X (e :: es) ta)
    (hdb : (x == ("__debug__" : Str)) = false := by decide) (he : starEach (e :: es) X.env = (false, eval e X.env) :: starEach es X.env := by rfl) (hpl : (backTo pos (starEach es X.env)).any (·.1) = false := by rfl) : PE X (.Call (.Name x p) (e :: es) [] pos) (tMx C sp dvs ta) := by
  refine ⟨fun pins s σ H Q I h => wpAny_Call_Name_kw (ld_glob I hg hm ?_ hdb)⟩
  exact PySem.W.callWith_K (h₀ := X.base) I.ok.mod.kin T.kC (thn (ha.run pos pins s σ H _ I h) fun us s1 ⟨vs, H1, I1, r1, hz, q1⟩ => ⟨I1.kIn, run_mx T iC tI F1 hr hb hd hx I1 r1 hz q1⟩) he hpl
theorem pe_mx0 (T : OexC X.K C) (iC : PySem.W.findIn X.K (.ref C) "__init__" = some (some (.ref fI))) (tI : PySem.W.typeIn X.K (.ref fI) = some (.type "function"))
    (F1 : FnOk X.prog X.w X.K X.mg X.base CX k fI fd ps sp) (hr : Room (k + 1) X.A) (hb : Binds X.K fd ps ds) (hd : Vals dvs ds) (hx : Passes CX X (fun _ _ _ => False)) (hg : Gl X x) (hm : X.mg x = some (.ref C))
    (hdb : (x == ("__debug__" : Str)) = false := by decide) : PE X (.Call (.Name x p) [] [] pos) (tMx C sp dvs tNil) := by
  refine ⟨fun pins s σ H Q I h => wpAny_Call_Name_kw (ld_glob I hg hm ?_ hdb)⟩
  obtain ⟨hz, q1⟩ := h
  exact PySem.W.callWith_K0 I.kIn T.kC (run_mx (us := []) T iC tI F1 hr hb hd hx I .nil hz q1)
end

/-! ### C(k = v): keywords -/
namespace Kw
open PySem.HandSPX Builtin Builtin.ObjectAttr PySem.W PySem.Calls
section
variable {prog : Program} {w : World} {A : Around} {E : Value → Shared → Prop} {R : Result → Shared → Prop} {h : Heap} {g : Array GenState} {d : Drawn} {t : Nat} {os : OsState}
variable {nm q : Str} {C N : Addr} {bs bm bB : List Value} {hd : Bool} {sn : List Str} {sub : List Value} {ab : Bool} {col : Option Bool} {dd : Option Addr} {k0 k1 k2 k3 k5 : Option Value} {B nI iI : String} {rest : List Value} {kw : List (Str × Value)}
theorem may (F : ExcBaseFacts B nI iI bB) (hT : ∀ Y : String, bm.contains (.type Y) = bB.contains (.type Y)) {M : Model} {E' : Value → Shared → Prop} {Q : Unit → Shared → Prop}
    (hC : h.get? C = some (excClassObj nm q C N bs bm hd sn sub ab col dd k0 k1 k2 k3 k5 nI)) (hq : Q () ⟨h, g, d, t, os⟩) : wpAny M A (checkBuiltinCall nI ⟨.ref C :: rest, kw⟩) Q E' ⟨h, g, d, t, os⟩ := by
  have inB : (Value.ref C :: bm).contains (.type B) = true := by
    rw [List.contains_cons, hT, F.hasB, Bool.or_true]
  have star := F.noStar
  simp only [checkBuiltinCall, F.newKind, F.newSplit, F.newRow]
  repeat (first | refine wpAny_loadPart_at hC ?_ | (refine wpAny_isSubtype_exc hC ?_; rw [inB]) | refine wpAny_staticBase_exc hC ?_ | refine wpAny_madeBy_exc hC ?_ | simp only [bne_self_eq_false, Bool.false_eq_true, if_false] | wp_step)
  exact hq
theorem anew (F : ExcBaseFacts B nI iI bB) (hT : ∀ Y : String, bm.contains (.type Y) = bB.contains (.type Y)) (hC : h.get? C = some (excClassObj nm q C N bs bm hd sn sub ab col dd k0 k1 k2 k3 k5 nI))
    (hq : R (.ok (.ret (.ref (h.objs.size + 1)))) ⟨(h.push (kdv_tup rest)).push (excO C h.objs.size), g, d, t, os⟩) (hz : rest.length ≤ sizeLine) : codeAny (model prog w) A (.builtin nI ⟨.ref C :: rest, kw⟩) R ⟨h, g, d, t, os⟩ := by
  have fin := F.ends
  have inB : (Value.ref C :: bm).contains (.type B) = true := by
    rw [List.contains_cons, hT, F.hasB, Bool.or_true]
  have inA : (Value.ref C :: bm).contains (.type "AttributeError") = false := by
    rw [List.contains_cons, hT, F.noAttr]; rfl
  have inN : (Value.ref C :: bm).contains (.type "NameError") = false := by
    rw [List.contains_cons, hT, F.noName]; rfl
  refine codeAny_builtinAt F.entry ?_
  unfold Builtin.«BaseException.__new__»
  refine PySem.wpAt_bind ?_
  show PySem.wpAt _ _ _ (stack >>= _) _ _ _
  refine PySem.wpAt_bind (PySem.wpAt_stack fun _ _ => PySem.wpAt_of_wpAny ?_)
  wp_walk
  refine PySem.wpAt_of_wpAny ?_
  rw [F.owner]
  repeat (first | with_reducible refine wpAny_madeHere_exc F.canon hC ?_ | with_reducible refine wpAny_loadPart_at hC ?_ | (with_reducible refine wpAny_isSubtype_exc hC ?_; first | rw [inB] | rw [inA] | rw [inN]) | wp_step)
  show R _ _
  rw [Heap.size_push]
  exact hq
theorem made (F : ExcBaseFacts B nI iI bB) (hT : ∀ Y : String, bm.contains (.type Y) = bB.contains (.type Y)) {fI : Addr} {Q : Fin → Shared → Prop} {E' : Value → Shared → Prop}
    (hC : h.get? C = some (excClassObj nm q C N bs bm hd sn sub ab col dd k0 k1 k2 k3 k5 nI)) (hi : Looks (model prog w) h (typeLookup (.ref C) "__init__") (some (.ref fI))) (hb : ∀ self, Looks (model prog w) h (bindSpecial (.ref fI) self) (.ref fI, [self])) (hz : rest.length ≤ sizeLine)
    (hq : codeAny (model prog w) A (.call (.ref fI) ⟨.ref (h.objs.size + 1) :: rest, kw⟩) (fun r s' => match r with | .ok (.ret v) => v = .none ∧ Q (.done (.ret (.ref (h.objs.size + 1)))) s' | .ok _ => False | .error e => E' e s')
      ⟨(h.push (kdv_tup rest)).push (excO C h.objs.size), g, d, t, os⟩) : wpAny (model prog w) A (Builtin.«type.__call__» ⟨.ref C :: rest, kw⟩) Q E' ⟨h, g, d, t, os⟩ := by
  repeat (first | with_reducible refine wpAny_loadPart_at hC ?_ | with_reducible refine wpAny_madeBy_exc hC ?_ | wp_step)
  refine codeAny_call_builtin_code (Code.quiet_builtin _ F.quiet) (may F hT hC ?_)
  refine anew F hT hC ?_ hz
  show wpAny _ _ _ _ _ _
  have up : ∀ b o, h.get? b = some o → ((h.push (kdv_tup rest)).push (excO C h.objs.size)).get? b = some o := fun b o z => Heap.get?_push_of_some _ (Heap.get?_push_of_some _ z)
  have hC2 := up _ _ hC
  have self : ((h.push (kdv_tup rest)).push (excO C h.objs.size)).get? (h.objs.size + 1) = some (excO C h.objs.size) := by heap_get
  have own : (Value.ref C :: bm).contains (.ref C) = true := by simp
  have i2 := hi.keeps up
  have b2 := (hb (.ref (h.objs.size + 1))).keeps up
  unfold isInstance
  repeat (first | with_reducible refine wpAny_loadPart_at self ?_ | (with_reducible refine wpAny_isSubtype_exc hC2 ?_; rw [own]) | wp_step)
  show wpAny _ _ (typeLookup (.ref C) _) _ _ _
  refine i2.at (wpAny_holding (wpAny_bind (b2.at (wpAny_bind (wpAny_call (codeAny_mono hq fun r s' z => ?_))))))
  rcases r with e | (v | _ | _ | _) <;> first | exact z | exact z.elim | skip
  obtain ⟨rfl, z⟩ := z
  first
    | exact wpAny_pure (wpAny_pure z)
    | (wp_walk; exact z)
theorem called (F : ExcBaseFacts B nI iI bB) (hT : ∀ Y : String, bm.contains (.type Y) = bB.contains (.type Y)) {fI : Addr} (hC : h.get? C = some (excClassObj nm q C N bs bm hd sn sub ab col dd k0 k1 k2 k3 k5 nI))
    (hi : Looks (model prog w) h (typeLookup (.ref C) "__init__") (some (.ref fI))) (hb : ∀ self, Looks (model prog w) h (bindSpecial (.ref fI) self) (.ref fI, [self])) (hz : rest.length ≤ sizeLine)
    (hq : codeAny (model prog w) (A.under (.builtin "type.__call__" ⟨.ref C :: rest, kw⟩)) (.call (.ref fI) ⟨.ref (h.objs.size + 1) :: rest, kw⟩) (InitBack (h.objs.size + 1) R) ⟨(h.push (kdv_tup rest)).push (excO C h.objs.size), g, d, t, os⟩) :
    codeAny (model prog w) A (.call (.ref C) ⟨rest, kw⟩) R ⟨h, g, d, t, os⟩ := by
  have f1 := tc_lookup
  have f2 := tc_bind (.ref C)
  have ty : (⟨h, g, d, t, os⟩ : Shared).TypeIs (.ref C) "type" := ⟨_, hC, rfl⟩
  refine codeAny_of_tree ?_
  show wpAny _ _ (callAny (.ref C) _) _ _ _
  repeat (any_goals (first | assumption | with_reducible refine wpAny_loadPart_at hC ?_ | wp_step))
  refine ⟨rfl, codeAny_call_builtin_at (Code.quiet_builtin _ (by decide +kernel)) entry_typeCall (wpAny_check_type_call_sub hC (made F hT hC hi hb hz (codeAny_mono hq fun r s' z => ?_)))⟩
  rcases r with e | (v | _ | _ | _) <;> exact z
end
end Kw
/-- defaults, no keyword-only parameters; the keywords fill the places of the defaults -/
theorem kbinds1 {K : PySem.W.Frag} {x qual : Str} {params : Arguments} {body : List Stmt} {scope : Scope} {dvs : List V} {f : Addr} {fd : FuncData} {ps ks : List Str} {n : Nat} (F : FunD K x qual params body scope dvs [] f fd) (hd : dvs ≠ [])
    (h : ∀ (T : Addr) (kV doc pm : Value) (an : Option Addr) (cdv ct : Value) (us its ws : List Value), us.length = n → its.length = dvs.length → ws.length = ks.length →
      ∃ k, bindArgs (PySem.W.fnOf x qual params body scope (.ref T) kV doc pm an cdv ct) ⟨us, ks.zip ws⟩ = seqItems? (.ref T) >>= k ∧ k (some its.toArray) = pure (ps.zip (us ++ ws))) : KBn K fd ps n ks (fun us ws => us ++ ws) (fun vs zs => vs ++ zs) := by
  obtain ⟨oc, od, dV, kV, doc, pm, an, cdv, ct, osl, rfl, lk, hcd, hD, hK⟩ := F.ex
  rcases hD with ⟨e, _⟩ | ⟨_, T, o, its, m, rfl, lT, oT, rT⟩
  · exact absurd e hd
  · refine ⟨fun s us ws X l1 l2 => BindsTo.of_looks fun M => ?_, fun r1 r2 => r1.append r2⟩
    obtain ⟨k, e1, e2⟩ := h T kV doc pm an cdv ct us its ws l1 rT.length.symm l2
    rw [e1]
    exact looks_items X lT oT (.of_pure e2)
def tMxK (C : Addr) (m : Nat) (sp : Sp) (tk : TA) : TE := fun σ H Q => tk σ H fun zs H1 => zs.length = m ∧ ∀ a, H1 a = none → sp (.ref a :: zs) (upd H1 a (exo a C none)) (fun v H2 => v = .non ∧ Q (.ref a) H2) (fun _ _ _ => False)
section
variable {X : Cx} {CX : CXT} {x : Str} {C fI : Addr} {k : Nat} {fd : FuncData} {ps ks : List Str} {sp : Sp} {kws : List Keyword} {tk : TA} {p pos : Pos}
theorem run_mxK {pins : List (Addr × Obj)} {σ : L2.St} {H1 : Hp} {s1 : Shared} {Q : VK} {ws : List Value} {zs : List V} (T : OexC X.K C) (iC : PySem.W.findIn X.K (.ref C) "__init__" = some (some (.ref fI))) (tI : PySem.W.typeIn X.K (.ref fI) = some (.type "function"))
    (F1 : FnOk X.prog X.w X.K X.mg X.base CX k fI fd ps sp) (hr : Room (k + 1) X.A) (hb : KBn X.K fd ps 1 ks (fun us ws => us ++ ws) (fun vs zs => vs ++ zs)) (hx : Passes CX X (fun _ _ _ => False)) (I1 : Inv X pins σ H1 s1) (rz : Vals zs ws) (hz : zs.length = ks.length)
    (q1 : ∀ a, H1 a = none → sp (.ref a :: zs) (upd H1 a (exo a C none)) (fun v H2 => v = .non ∧ Q (.ref a) H2) (fun _ _ _ => False)) : wpAny (model X.prog X.w) X.A (call (.ref C) [] (ks.zip ws)) (EP X pins σ Q) X.xe s1 := by
  obtain ⟨nm, qn, N, bs, bm, sn, sub, ab, col, dd, k0, k1, k2, k3, k5, hC, hbm⟩ := T.cls
  obtain ⟨hp, g, dr, tn, os⟩ := s1
  have above : hp.objs.size ≤ hp.objs.size + 1 := Nat.le_succ _
  have run := q1 _ (I1.hok.fresh above)
  have laid : ∀ b o, hp.get? b = some o → ((hp.push (PySem.W.kdv_tup [])).push (PySem.HandSPX.excO C hp.objs.size)).get? b = some o := fun b o z => Heap.get?_push_of_some _ (Heap.get?_push_of_some _ z)
  have there : ((hp.push (PySem.W.kdv_tup [])).push (PySem.HandSPX.excO C hp.objs.size)).get? (hp.objs.size + 1) = some (PySem.HandSPX.excO C hp.objs.size) := by heap_get
  have I2 : Inv X pins σ (upd H1 (hp.objs.size + 1) (exo (hp.objs.size + 1) C none)) ⟨(hp.push (PySem.W.kdv_tup [])).push (PySem.HandSPX.excO C hp.objs.size), g, dr, tn, os⟩ := I1.laid (t' := tn) laid above (exo_ok there)
  have body := F1.run _ X.stack _ _ ⟨[Value.ref (hp.objs.size + 1)], ks.zip ws⟩ (Value.ref (hp.objs.size + 1) :: ws) (V.ref (hp.objs.size + 1) :: zs) _ (fun _ _ _ => False) (hr.make C [] (ks.zip ws)) (I2.env0.make C [] (ks.zip ws)) (hb.to _ [Value.ref (hp.objs.size + 1)] ws I2.kIn rfl (rz.length.symm.trans hz)) (Paired.cons (show RelV (V.ref _) _ from rfl) rz) run
  exact wpAny_call (Kw.called (R := fun r s' => match r with | .ok (.ret v) => EP X pins σ Q v s' | .ok _ => False | .error er => X.xe er s') F.excBase_ValueError (fun Y => PySem.HandSPX.refsVE_contains Y bm hbm) (I1.kIn _ _ hC) (PySem.W.looks_findIn I1.kIn iC) (fun self => PySem.W.bind_fn I1.kIn self tI) (Nat.zero_le _)
    (codeAny_mono body fun r s' z => by
      cases r with
      | error er => exact hx pins σ _ _ er s' I2 z
      | ok fl =>
        cases fl with
        | ret u =>
          obtain ⟨v, H2, J, rv, ev, q⟩ := I2.after z
          subst ev
          exact ⟨rv, ⟨V.ref (hp.objs.size + 1), H2, J, rfl, q⟩⟩
        | next => exact False.elim z
        | brk => exact False.elim z
        | cont => exact False.elim z))
end
/-! ### own error classes with one field -/
/-- what their __init__ keeps: self.f = y -/
def SpI (C : Addr) (f : Str) : Sp := fun vs H Q _ => ∃ a y, vs = [.ref a, y] ∧ H a = some (exo a C none) ∧ ∀ dx, H dx = none → dx ≠ a → Q .non (upd (upd H dx (exd dx [(f, y)])) a (exo a C (some dx)))
structure OwnE (K : PySem.W.Frag) (mg : Str → Option Value) (x : Str) (C : Addr) (f p : Str) : Prop where
  m : mg x = some (.ref C)
  ox : OexC K C
  ex : ∃ fI fd, PySem.W.findIn K (.ref C) "__init__" = some (some (.ref fI)) ∧ PySem.W.typeIn K (.ref fI) = some (.type "function") ∧ (∃ ds, Vals [V.non] ds ∧ Binds K fd ["self", p] ds) ∧ Binds K fd ["self", p] [] ∧
    KBn K fd ["self", p] 1 [p] (fun us ws => us ++ ws) (fun vs zs => vs ++ zs) ∧ ∀ P w base, FnOk P w K mg base CX0 1 fI fd ["self", p] (SpI C f)
/-- the reading: an error of the class at C with the field f -/
def tErr (C : Addr) (f : Str) (ta : TA) : TE := fun σ H Q => ta σ H fun vs H1 => ∃ y, vs = [y] ∧ ∀ a H2, Same H1 H2 → H1 a = none → Err H2 a C [(f, y)] → Q (.ref a) H2
theorem spi_of {C : Addr} {f : Str} {y : V} {H1 : Hp} {Q : VK} {E : XK} (h : ∀ a H2, Same H1 H2 → H1 a = none → Err H2 a C [(f, y)] → Q (.ref a) H2) (a : Addr) (na : H1 a = none) : SpI C f [.ref a, y] (upd H1 a (exo a C none)) (fun v H2 => v = .non ∧ Q (.ref a) H2) E := by
  refine ⟨a, y, rfl, upd_same, fun dx nd ne => ⟨rfl, h a _ (fun b o e => ?_) na ⟨dx, upd_same, ?_⟩⟩⟩
  · have e1 : b ≠ a := fun z => by rw [z, na] at e; cases e
    rw [upd_ne ne] at nd
    have e2 : b ≠ dx := fun z => by rw [z, nd] at e; cases e
    rw [upd_ne e1, upd_ne e2, upd_ne e1]
    exact e
  · rw [upd_ne ne, upd_same]
section
variable {X : Cx} {x f q : Str} {C : Addr} {e : Expr} {te : TE} {p pos : Pos}
theorem pe_err (O : OwnE X.K X.mg x C f q) (hr : Room 2 X.A) (hg : Gl X x) (he : PE X e te)
    (hdb : (x == ("__debug__" : Str)) = false := by decide) (hs : starEach [e] X.env = (false, eval e X.env) :: starEach [] X.env := by rfl) : PE X (.Call (.Name x p) [e] [] pos) (tErr C f (tCons te tNil)) := by
  obtain ⟨fI, fd, iC, tI, _, b1, _, ok⟩ := O.ex
  refine ⟨fun pins s σ H Q I h => wpAny_Call_Name_kw (ld_glob I hg O.m ?_ hdb)⟩
  exact PySem.W.callWith_K (h₀ := X.base) I.ok.mod.kin O.ox.kC (thn ((pa_cons he pa_nil hs).run pos pins s σ H _ I h) fun us s1 ⟨vs, H1, I1, r1, y, ey, q1⟩ => ⟨I1.kIn, by
    subst ey
    exact run_mx (vs := [y]) (dvs := []) O.ox iC tI (ok X.prog X.w X.base) hr b1 .nil pass0 I1 r1 (by simp) (fun a na => spi_of q1 a na)⟩) hs (by rfl)
theorem pe_err0 (O : OwnE X.K X.mg x C f q) (hr : Room 2 X.A) (hg : Gl X x) (hdb : (x == ("__debug__" : Str)) = false := by decide) : PE X (.Call (.Name x p) [] [] pos) (tErr C f (tCons (tC .non) tNil)) := by
  obtain ⟨fI, fd, iC, tI, ⟨ds, hd, b0⟩, _, _, ok⟩ := O.ex
  refine ⟨fun pins s σ H Q I h => wpAny_Call_Name_kw (ld_glob I hg O.m ?_ hdb)⟩
  have h' : ∃ y, [V.non] = [y] ∧ ∀ a H2, Same H H2 → H a = none → Err H2 a C [(f, y)] → Q (.ref a) H2 := h
  obtain ⟨y, ey, q1⟩ := h'
  cases ey
  exact PySem.W.callWith_K0 I.kIn O.ox.kC (run_mx (us := []) (vs := []) (dvs := [V.non]) O.ox iC tI (ok X.prog X.w X.base) hr b0 hd pass0 I .nil (by simp) (fun a na => spi_of q1 a na))
theorem pe_errK {kp : Pos} (O : OwnE X.K X.mg x C f q) (hr : Room 2 X.A) (hg : Gl X x) (he : PE X e te) (hdb : (x == ("__debug__" : Str)) = false := by decide) 
    (hall : (backToKw pos (keywordEach [⟨some q, e, kp⟩] X.env)).all (·.1.isSome) = true := by rfl) (hks : (backToKw pos (keywordEach [⟨some q, e, kp⟩] X.env)).filterMap (·.1) = [q] := by rfl)
    (hpl : ((backTo pos (starEach [] X.env)).any (·.1) || (backToKw pos (keywordEach [⟨some q, e, kp⟩] X.env)).any (·.1.isNone)) = false := by rfl) : PE X (.Call (.Name x p) [] [⟨some q, e, kp⟩] pos) (tErr C f (tCons te tNil)) := by
  obtain ⟨fI, fd, iC, tI, _, _, bk, ok⟩ := O.ex
  refine ⟨fun pins s σ H Q I h => wpAny_Call_Name_kw (ld_glob I hg O.m ?_ hdb)⟩
  refine PySem.W.callWith_KW0 (h₀ := X.base) I.ok.mod.kin O.ox.kC hall ?_ hpl
  refine thn ((pk_cons he pk_nil).run pos pins s σ H _ I h) fun ws s1 ⟨zs, H1, I1, rz, y, ey, q1⟩ => ⟨I1.kIn, ?_⟩
  subst ey
  rw [hks]
  exact run_mxK O.ox iC tI (ok X.prog X.w X.base) hr bk pass0 I1 rz rfl (fun a na => spi_of q1 a na)
end
/-- C(), C an own error class without an __init__ of its own -/
def tErr0 (C : Addr) : TE := fun _ H Q => ∀ a, H a = none → Q (.ref a) (upd H a (exo a C none))
theorem pe_bare {X : Cx} {C : Addr} {bB : List Value} {B nI iI : String} {x : Str} {p pos : Pos} (F : ExcBaseFacts B nI iI bB) (q : PySem.W.excIn X.K C bB nI = true) (gC : X.mg x = some (.ref C)) (kC : PySem.W.keepIn X.K (.ref C) = true) (hg : Gl X x)
    (hdb : (x == ("__debug__" : Str)) = false := by decide) : PE X (.Call (.Name x p) [] [] pos) (tErr0 C) := by
  refine ⟨fun pins s σ H Q I h => wpAny_Call_Name_kw (ld_glob I hg gC ?_ hdb)⟩
  refine PySem.W.callWith_K0 I.kIn kC ?_
  obtain ⟨bm, N, nm, qn, bs, hdct, sn, sub, ab, col, dd, k0, k1, k2, k3, k5, mN, hC, hN, hni, T⟩ := exc_obj I.kIn q
  refine wpAny_call_exc_subT F T hC hN hni (fun h' a hm => ?_) (Nat.zero_le _)
  have hn : H a = none := I.hok.gone hm.new
  obtain ⟨t, ht, _, _⟩ := hm.there
  exact ⟨.ref a, _, I.laidN hm.keeps hm.new hn (exo_ok ht), rfl, h a hn⟩
end TX

set_option Elab.async false
set_option linter.all false
set_option maxRecDepth 100000
set_option maxHeartbeats 4000000
/-! TR: repr of plain data; defs that ask for it (no repr is under way around them). -/
namespace TR
open PySem PySem.Spec PyProof.Rows L2

/-! ### plain data over the abstract heap -/
def keyD : Key → PyData
  | .inl i => .int i
  | .inr x => .str x
mutual
inductive DV (H : Hp) (c : Bool) : V → PyData → Prop
  | non : DV H c .non .none
  | bl (b : Bool) : DV H c (.bl b) (.bool b)
  | int (i : Int) : DV H c (.int i) (.int i)
  | str (x : Str) : DV H c (.str x) (.str x)
  | lst {a : Addr} {xs : List V} {ds : List PyData} : (c = true → a ≠ sysModules) → H a = some (.lst xs) → DVs H c xs ds → DV H c (.ref a) (.list ds)
  | tup {a : Addr} {xs : List V} {ds : List PyData} : H a = some (.tup xs) → DVs H c xs ds → DV H c (.ref a) (.tuple ds)
  | dic {a : Addr} {kvs : List (Key × V)} {ds : List (PyData × PyData)} : H a = some (.dK kvs) → DVk H c kvs ds → DV H c (.ref a) (.dict ds)
inductive DVs (H : Hp) (c : Bool) : List V → List PyData → Prop
  | nil : DVs H c [] []
  | cons {x : V} {d : PyData} {xs : List V} {ds : List PyData} : DV H c x d → DVs H c xs ds → DVs H c (x :: xs) (d :: ds)
inductive DVk (H : Hp) (c : Bool) : List (Key × V) → List (PyData × PyData) → Prop
  | nil : DVk H c [] []
  | cons {k : Key} {x : V} {d : PyData} {xs : List (Key × V)} {ds : List (PyData × PyData)} : DV H c x d → DVk H c xs ds → DVk H c ((k, x) :: xs) ((keyD k, d) :: ds)
end
mutual
theorem DV.same {H H' : Hp} {c : Bool} (h : ∀ a o, H a = some o → H' a = some o) : ∀ {x : V} {d : PyData}, DV H c x d → DV H' c x d
  | _, _, .non => .non
  | _, _, .bl b => .bl b
  | _, _, .int i => .int i
  | _, _, .str x => .str x
  | _, _, .lst z e r => .lst z (h _ _ e) (DVs.same h r)
  | _, _, .tup e r => .tup (h _ _ e) (DVs.same h r)
  | _, _, .dic e r => .dic (h _ _ e) (DVk.same h r)
theorem DVs.same {H H' : Hp} {c : Bool} (h : ∀ a o, H a = some o → H' a = some o) : ∀ {x : List V} {d : List PyData}, DVs H c x d → DVs H' c x d
  | _, _, .nil => .nil
  | _, _, .cons r t => .cons (DV.same h r) (DVs.same h t)
theorem DVk.same {H H' : Hp} {c : Bool} (h : ∀ a o, H a = some o → H' a = some o) : ∀ {x : List (Key × V)} {d : List (PyData × PyData)}, DVk H c x d → DVk H' c x d
  | _, _, .nil => .nil
  | _, _, .cons r t => .cons (DV.same h r) (DVk.same h t)
end
theorem pairs_rd {P : Program} {w : World} : ∀ {es : List DictEntry} {kvs : List (Key × V)} {vs : List (Key × Value)}, PySem.Pairs (mixKind P w) es vs → KV kvs vs →
    Paired (fun (p : Key × V) (e : DictEntry) => keyIs p.1 e.key = true ∧ RelV p.2 e.val) kvs es
  | _, _, _, .nil, .nil => .nil
  | _, _, _, .cons h1 h2 t, .cons r k => .cons ⟨by rw [r.1]; exact h1, by rw [h2]; exact r.2⟩ (pairs_rd t k)
theorem key_rd {h : Heap} {k : Key} {v : Value} (e : keyIs k v = true) : Reads h v (keyD k) [] := by
  rcases keyIs_shape e with ⟨i, t, rfl, rfl⟩ | ⟨x, t, rfl, rfl⟩
  · exact .int i t
  · exact .str x t
section
variable {P : Program} {w : World} {H : Hp} {h : Heap} {c : Bool}
mutual
theorem DV.rd (ok : HOk P w H h) : ∀ {x : V} {d : PyData} {u : Value}, DV H c x d → RelV x u → ∃ as, Reads h u d as ∧ (c = true → sysModules ∉ as)
  | _, _, _, .non, r => by cases (show _ = Value.none from r); exact ⟨_, .none, fun _ => by simp⟩
  | _, _, _, .bl b, r => by cases (show _ = Value.bool b from r); exact ⟨_, .bool b, fun _ => by simp⟩
  | _, _, _, .int i, r => by obtain ⟨t, rfl⟩ := (show ∃ t, _ = Value.int i t from r); exact ⟨_, .int i t, fun _ => by simp⟩
  | _, _, _, .str x, r => by obtain ⟨t, rfl⟩ := (show ∃ t, _ = Value.str x t from r); exact ⟨_, .str x t, fun _ => by simp⟩
  | _, _, _, @DV.lst _ _ a xs ds y e q, r => by
    cases (show _ = Value.ref a from r)
    obtain ⟨_, its, n, rv, g⟩ := (show ObjOk P w H h a (.lst xs) from ok a _ e)
    obtain ⟨as, z, zs⟩ := DVs.rd ok q rv
    exact ⟨_, .list (vs := its.toArray) g rfl rfl z, fun hc => by simpa using ⟨(y hc).symm, zs hc⟩⟩
  | _, _, _, @DV.tup _ _ a xs ds e q, r => by
    cases (show _ = Value.ref a from r)
    obtain ⟨_, its, rv, o, g, k, n, dt⟩ := (show ObjOk P w H h a (.tup xs) from ok a _ e)
    obtain ⟨as, z, zs⟩ := DVs.rd ok q rv
    exact ⟨_, .tuple (vs := its.toArray) g k dt z, zs⟩
  | _, _, _, @DV.dic _ _ a kvs ds e q, r => by
    cases (show _ = Value.ref a from r)
    obtain ⟨_, sm, vs, kv, o, es, ep, g, k, dt, _, pr, _⟩ := (show ObjOk P w H h a (.dK kvs) from ok a _ e)
    obtain ⟨as, bs, z1, z2, z3, z4⟩ := DVk.rd ok q (pairs_rd pr kv)
    exact ⟨_, .dict g k.1 dt z1 z2, fun hc => by simpa using ⟨(beq_eq_false_iff_ne.mp sm).symm, z3 hc, z4 hc⟩⟩
theorem DVs.rd (ok : HOk P w H h) : ∀ {x : List V} {d : List PyData} {u : List Value}, DVs H c x d → Vals x u → ∃ as, ReadsAll h u d as ∧ (c = true → sysModules ∉ as)
  | _, _, _, .nil, .nil => ⟨_, .nil, fun _ => by simp⟩
  | _, _, _, .cons q t, .cons r s => by
    obtain ⟨_, z, y⟩ := DV.rd ok q r
    obtain ⟨_, z', y'⟩ := DVs.rd ok t s
    exact ⟨_, .cons z z', fun hc => by simpa using ⟨y hc, y' hc⟩⟩
theorem DVk.rd (ok : HOk P w H h) : ∀ {x : List (Key × V)} {d : List (PyData × PyData)} {es : List DictEntry}, DVk H c x d → Paired (fun (p : Key × V) (e : DictEntry) => keyIs p.1 e.key = true ∧ RelV p.2 e.val) x es →
    ∃ as bs, ReadsAll h (es.map (·.key)) (d.map (·.1)) as ∧ ReadsAll h (es.map (·.val)) (d.map (·.2)) bs ∧ (c = true → sysModules ∉ as) ∧ (c = true → sysModules ∉ bs)
  | _, _, _, .nil, .nil => ⟨_, _, .nil, .nil, fun _ => by simp, fun _ => by simp⟩
  | _, _, _, .cons q t, .cons r s => by
    obtain ⟨_, z, y⟩ := DV.rd ok q r.2
    obtain ⟨_, _, z1, z2, z3, z4⟩ := DVk.rd ok t s
    exact ⟨_, _, .cons (key_rd r.1) z1, .cons z z2, fun hc => by simpa using z3 hc, fun hc => by simpa using ⟨y hc, z4 hc⟩⟩
end
end
/-- repr(x) of plain data -/
def rRepr : List V → Hp → VK → Prop := fun xs H Q => ∃ (a : Addr) (d : PyData) (c : Bool), xs = [.ref a] ∧ DV H c (.ref a) d ∧ (d.hasDict = true → c = true) ∧ d.showable = true ∧ d.depth ≤ 60 ∧ d.shown.length ≤ sizeLine ∧ Q (.str d.shown) H
theorem cr_repr {X : Cx} (hg : X.A.guards = some []) (hu : X.A.units + 64 < cLine) : CallR X (.builtin "repr") rRepr := by
  intro pins s σ H xs us Q I r h
  obtain ⟨a, d, c, rfl, hd, hc, hs, hp, hz, q⟩ := h
  obtain ⟨u, rfl, ru⟩ := r.one
  cases (show u = Value.ref a from ru)
  obtain ⟨as, rd, ap⟩ := DV.rd I.hok hd (show RelV (.ref a) (.ref a) from rfl)
  exact repr_of_reads' rd hs (fun z => ap (hc z)) hg (by omega) (fun _ _ z => z) (fun h' u tk hk => ⟨.str d.shown, H, I.kept (t' := tk) hk, ⟨u, rfl⟩, q⟩) hz

/-! ### lists whose address is known not to be the table of modules -/
def rCatN : R2 := fun x y H Q => ∃ l b xs zs, x = .ref l ∧ y = .ref b ∧ H l = some (.lst xs) ∧ H b = some (.lst zs) ∧ xs.length + zs.length ≤ sizeLine ∧ ∀ p, H p = none → p ≠ sysModules → Q (.ref p) (upd H p (.lst (xs ++ zs)))
theorem op_catN {X : Cx} : OpR X (binaryOp .Add) rCatN := by
  intro pins s σ H x y v u Q I rx ry hh
  obtain ⟨l, b, xs, zs, e1, e2, hl, hb, hz, k⟩ := hh
  subst e1 e2
  cases rx
  cases ry
  obtain ⟨_, us, n, rl, ll, gl⟩ := I.lstM hl
  obtain ⟨_, ws, m, rb, lb, gb⟩ := I.lstM hb
  refine PySem.P.add_list gl gb ?_ (by simp only [List.size_toArray]; omega)
  rw [show us.toArray ++ ws.toArray = (us ++ ws).toArray by simp]
  exact ⟨.ref _, _, I.lnew (t' := s.toks) (rl.append rb) (by simpa using hz), rfl, k _ I.fresh (Nat.ne_of_gt I.big)⟩
def rRepN : R2 := fun x y H Q => ∃ l z k, x = .ref l ∧ y = .int k ∧ H l = some (.lst [z]) ∧ 0 ≤ k ∧ k ≤ 1000 ∧ ∀ p, H p = none → p ≠ sysModules → Q (.ref p) (upd H p (.lst (List.replicate k.toNat z)))
theorem op_repN {X : Cx} : OpR X (binaryOp .Mult) rRepN := by
  intro pins s σ H x y v u Q I rx ry hh
  obtain ⟨l, z, k, e1, e2, hl, k0, k1, go⟩ := hh
  subst e1 e2
  cases rx
  obtain ⟨tk, rfl⟩ := ry
  obtain ⟨_, us, n, rl, ll, gl⟩ := I.lstM hl
  have small : us.toArray.size * k.toNat ≤ sizeLine := by
    rw [List.size_toArray, ← ll, sizeLine_eq]; simp; omega
  have cap : ¬ us.toArray.size * k.toNat > (2 ^ 63 - 1) / 8 := by
    have : (sizeLine : Nat) ≤ (2 ^ 63 - 1) / 8 := by decide
    omega
  have fits : ¬ (!Builtin.List.listFitsIndex k) = true := by
    rw [fitsIndex_both (by omega) (by omega)]; decide
  have long : ¬ Builtin.List.listTooLong (us.toArray.size * k.toNat) = true := by
    rw [notLongL small]; decide
  have all : List.foldl (fun x1 x2 => x1 ++ x2) #[] (List.replicate (if us.toArray.isEmpty = true then 0 else k.toNat) us.toArray) = (List.replicate k.toNat us).flatten.toArray := by
    have go : ∀ m : Nat, List.foldl (fun x1 x2 => x1 ++ x2) #[] (List.replicate m us.toArray) = (List.replicate m us).flatten.toArray := fun m => by
      simpa using foldl_rep us m []
    rw [go]
    cases us with
    | nil => simp
    | cons _ _ => simp
  refine wpAny_binaryOp_repeat_ref (T := "list") (U := "int") (by decide) ⟨_, gl, rfl⟩ (fun s' => typeIs_int s' k tk) noFill_list_mul F.fills_int_mul F.slot_int_rmul repeat_list F.slot_int_index.lookup ?_
  refine call_meets F.slot_int_rmul (typeIs_int s k tk) F.entry_int_rmul (F.args_int_rmul_2 _ _) (int___rmul___int_list k tk l us.toArray n) ⟨gl, rfl, ⟨_, gl, rfl⟩, ?_⟩
  refine call_meets F.slot_list_mul ⟨_, gl, rfl⟩ F.entry_list_mul (F.args_list_mul_2 _ _) (AutoListH.list___mul___list_int_3 l us.toArray n k tk fits cap long) ⟨gl, ?_⟩
  rw [all]
  have e : (List.replicate k.toNat [z]).flatten = List.replicate k.toNat z := by
    simp [List.flatten_replicate_singleton]
  have rr := rl.rep k.toNat
  rw [e] at rr
  exact ⟨.ref _, _, I.lnew (t' := s.toks) rr (by rw [List.length_replicate, sizeLine_eq]; omega), rfl, go _ I.fresh (Nat.ne_of_gt I.big)⟩

/-! ### defs around which no repr is under way -/
structure FnG (P : Program) (w : World) (K : PySem.W.Frag) (mg : Str → Option Value) (base : Heap) (CX : CXT) (k : Nat) (f : Addr) (fd : FuncData) (ps : List Str) (sp : Sp) : Prop where
  len : ∀ vs H Q E, sp vs H Q E → vs.length = ps.length
  run : ∀ (A : Around), A.guards = some [] → ∀ (outer : List Env) (s : Shared) (H : Hp) (args : Args) (us : List Value) (vs : List V) (Q : VK) (E : XK), Room k A → Env0 P w K mg base A outer s H → BindsTo s fd args (ps.zip us) → Vals vs us → sp vs H Q E →
    codeAny (model P w) A (.call (.ref f) args) (CR CX outer P w H s Q E) s
section
variable {X : Cx} {CX : CXT} {k : Nat} {f : Addr} {fd : FuncData} {ps : List Str} {sp : Sp} {ds : List Value} {dvs : List V} {E : XK} {x : Str} {e : Expr} {es : List Expr} {t : TA} {p pos : Pos}
theorem pe_callG (F : FnG X.prog X.w X.K X.mg X.base CX k f fd ps sp) (hG : X.A.guards = some []) (hr : Room k X.A) (hg : Gl X x) (hm : X.mg x = some (.ref f)) (hk : PySem.W.keepIn X.K (.ref f) = true) (hb : Binds X.K fd ps ds) (hd : Vals dvs ds) (hx : Passes CX X E)
    (ha : PA X (e :: es) t) (hdb : (x == ("__debug__" : Str)) = false := by decide) (he : starEach (e :: es) X.env = (false, eval e X.env) :: starEach es X.env := by rfl) (hpl : (backTo pos (starEach es X.env)).any (·.1) = false := by rfl) :
    PE X (.Call (.Name x p) (e :: es) [] pos) (tCall sp dvs E t) := by
  refine ⟨fun pins s σ H Q I h => wpAny_Call_Name_kw (ld_glob I hg hm ?_ hdb)⟩
  refine PySem.W.callWith_K (h₀ := X.base) I.ok.mod.kin hk (thn (ha.run pos pins s σ H _ I h) fun us s1 ⟨vs, H1, J, r, q⟩ => ⟨J.kIn, ?_⟩) he hpl
  have rr : Vals (vs ++ dvs) (us ++ ds) := r.append hd
  have bound := hb s1 us J.kIn (rr.length.symm.trans (F.len _ _ _ _ q))
  refine wpAny_call (codeAny_mono (F.run X.A hG X.stack s1 H1 ⟨us, []⟩ (us ++ ds) (vs ++ dvs) Q E hr J.env0 bound rr q) fun res s' z => ?_)
  cases res with
  | error er => exact hx pins σ H1 s1 er s' J z
  | ok fl =>
    cases fl with
    | ret u => exact J.after z
    | next => exact False.elim z
    | brk => exact False.elim z
    | cont => exact False.elim z
end
section
variable {P : Program} {w : World} {K : PySem.W.Frag} {mg : Str → Option Value} {base : Heap}
/-- a def by its body, no repr under way -/
theorem okG {x qual : Str} {st : Stmt} {f : Addr} {fd : FuncData} {N ps : List Str} {k : Nat} {sp : Sp} (F : Fun K x qual st f fd) (S : FnScope N ps (defScope st)) (len : ∀ vs H Q E, sp vs H Q E → vs.length = ps.length)
    (hbody : ∀ (cdv : Value) (A : Around) (outer : List Env) (s : Shared) (H : Hp) (vs : List V) (Q : VK) (E : XK), (A.deeper (envOfC qual (defScope st) s.heap.objs.size f cdv)).guards = some [] → Room k (A.deeper (envOfC qual (defScope st) s.heap.objs.size f cdv)) → sp vs H Q E →
      ∃ t, PSs (cxOf CX0 P w K mg base N qual (defScope st) f cdv A outer s H E).nox (defBody st) t ∧ t { nx := fun _ H' => Q .non H', rt := Q } (start N vs) H) : FnG P w K mg base CX0 (k + 1) f fd ps sp := by
  obtain ⟨oc, od, kV, doc, pm, an, cdv, ct, osl, rfl, lk, hcd⟩ := F.ex
  refine ⟨len, fun A hG outer s H args us vs Q E room e0 bound r pre => ?_⟩
  have many := len _ _ _ _ pre
  have KX : K.In s.heap := e0.mod.kin.keeps fun b o z => (e0.bs b o z).1
  have lim : s.heap.NoLimit := e0.mod.nolimit.keeps fun b o z => (e0.bs b o z).1
  have kinds : ∀ y ∈ ps.zip us, (defScope st).names.lookup y.1 = some .local ∨ ((defScope st).names.lookup y.1 = some .cell ∧ ((cellsFrom (s.heap.objs.size + 1) (defScope st).names []).lookup y.1).isSome = true) := fun y hy => by
    have mem : y.1 ∈ ps := (List.of_mem_zip (show (y.1, y.2) ∈ ps.zip us from hy)).1
    rcases S.par y.1 mem with z | z
    · exact .inl z
    · exact .inr ⟨z, PySem.W.cellsFrom_some _ _ _ (.inl z)⟩
  refine codeAny_call_function room.depth (KX _ _ lk) rfl S.co S.gen rfl (PySem.W.codeRec_of KX hcd) (bound _ _ _ _ ?_)
  refine wpAny_newFunctionEnv_cells S.kind kinds fun env henv s1 inside => ?_
  subst henv
  refine ⟨lim.keeps inside.toInCall.keep, codeAny_func ?_⟩
  obtain ⟨t, ht0, go⟩ := hbody cdv A outer s H vs Q E hG (room.deeper _) pre
  have ht := ht0.nox
  have I : Inv (cxOf CX0 P w K mg base N qual (defScope st) f cdv A outer s H E) [] (start N vs) H s1 := inv_start S room.hd e0 many r inside
  refine wpAny_mono (ht.run [] s1 (start N vs) H _ I go) (fun fl s' z => ?_) fun _ _ z => z
  have back : ∀ {σ' : L2.St} {H' : Hp} {v : V} {u : Value}, Inv (cxOf CX0 P w K mg base N qual (defScope st) f cdv A outer s H E) [] σ' H' s' → RelV v u → Q v H' → CE outer P w H s Q u s' := fun {σ' H' v u} J rv q => ⟨v, H', J.os, J.bare, J.base, J.hok, rv, q⟩
  cases fl with
  | ret u =>
    obtain ⟨v, σ', H', J, rv, q⟩ := z
    exact back J rv q
  | next =>
    obtain ⟨σ', H', J, q⟩ := z
    exact back (v := V.non) (u := Value.none) J rfl q
  | brk => exact False.elim z.choose_spec.choose_spec.2
  | cont => exact False.elim z.choose_spec.choose_spec.2
end

/-! ### the law's own def -/
section
variable {P : Program} {w : World} {K : PySem.W.Frag} {mg mb : Str → Option Value} {CX : CXT} {k : Nat} {fa a : Addr} {fd : FuncData} {x : Str} {sp : Sp} {t : Shared} {us : List Value} {ns : List Int}
/-- what the call leaves -/
abbrev Fine (t : Shared) : Result → Shared → Prop := fun r t' => r = .ok (.ret (.bool true)) ∧ OldK t.heap t'.heap ∧ t'.os = t.os ∧ AllBare t'.gens
theorem lawH (inK : K.In t.heap) (nsM : t.heap.Ns mainGlobals mg) (nsB : t.heap.Ns builtinsNs mb) (bb : ∀ y : Str, y ≠ "__name__" → mb y = bootBuiltins y) (nl : t.heap.NoLimit) (ng : t.gens = #[])
    (at_a : t.heap.get? a = some { cls := .type "list", data := .seq us.toArray }) (room : Room k callerA) (F : ∀ base : Heap, K.In base → base.Ns mainGlobals mg → FnG P w K mg base CX k fa fd [x] sp)
    (bind1 : ∀ (s : Shared) (u : Value), BindsTo s fd ⟨[u], []⟩ [(x, u)]) (noX : ∀ H e s', CX [] H t (fun _ _ _ => False) e s' → False)
    {H : Hp} (only : Only H) (pre : sp [.ref a] H (fun v _ => v = .bl true) fun _ _ _ => False) (hok : HOk P w H t.heap) (onA : ∀ b, H b ≠ none → b = a) (offK : H a ≠ none → K.lookup a = none) :
    codeAny (model P w) callerA (.call (.ref fa) ⟨[.ref a], []⟩) (Fine t) t := by
  have sees : ∀ {b : Addr} {o : Obj}, t.heap.get? b = some o → H b = none → (hidT t.heap H).get? b = some o := fun z n => hidT_get z n
  have untr : ∀ {b : Addr}, b ≠ a → H b = none := fun {b} nb => by
    cases q : H b with
    | none => rfl
    | some u => exact absurd (onA b (by rw [q]; simp)) nb
  have dictNs : ∀ {b : Addr} {m : Str → Option Value}, t.heap.Ns b m → (hidT t.heap H).Ns b m := fun {b m} ⟨o, es, ep, g, d, r⟩ => by
    refine ⟨o, es, ep, sees g (untr fun z => ?_), d, r⟩
    subst z
    rw [at_a] at g
    cases g
    exact nomatch (show Data.seq us.toArray _ = Data.dict es ep from d)
  have inB : K.In (hidT t.heap H) := fun b o z => by
    refine sees (inK b o z) ?_
    cases q : H b with
    | none => rfl
    | some u =>
      have nn : H b ≠ none := by rw [q]; simp
      have eb := onA b nn
      subst eb
      rw [offK nn] at z
      cases z
  obtain ⟨mc, l1, l2⟩ := nl
  have md : Mod K mg (hidT t.heap H) := ⟨inB, dictNs nsM, ⟨mb, dictNs nsB, bb⟩, ⟨mc, dictNs l1, l2⟩⟩
  have e0 : Env0 P w K mg (hidT t.heap H) callerA [] t H := ⟨rfl, md, fun b o z => of_hidT z, Nat.le_of_eq (hidT_size _ _), trivial, fun b z => (by cases z), hok, .of_eq ng⟩
  refine codeAny_mono ((F _ inB (dictNs nsM)).run callerA rfl [] t H ⟨[.ref a], []⟩ [.ref a] [.ref a] _ _ room e0 (bind1 t (.ref a)) (.cons rfl .nil) pre) fun r t' z => ?_
  cases r with
  | error e => exact (noX H e t' z).elim
  | ok fl =>
    cases fl with
    | next => exact False.elim z
    | brk => exact False.elim z
    | cont => exact False.elim z
    | ret u =>
      obtain ⟨v, H', os, bare, un, hok', rv, ev⟩ := z
      cases (show v = .bl true from ev)
      cases (show u = Value.bool true from rv)
      refine ⟨rfl, OldK.of_keep fun b o g => ?_, os, bare⟩
      rcases only b with n | ⟨ob, xs, z⟩
      · exact un.keep b o g n (fun q => by cases q) (fun q => by cases q)
      · have g1 := (hok b _ z).1
        have g2 := (hok' b _ (un.frzs b ob _ z)).1
        rw [g] at g1
        cases g1
        exact g2
theorem lawG (inK : K.In t.heap) (nsM : t.heap.Ns mainGlobals mg) (nsB : t.heap.Ns builtinsNs mb) (bb : ∀ y : Str, y ≠ "__name__" → mb y = bootBuiltins y) (nl : t.heap.NoLimit) (ng : t.gens = #[])
    (at_a : t.heap.get? a = some { cls := .type "list", data := .seq us.toArray }) (areInts : IntsAre us ns) (hz : ns.length ≤ sizeLine) (room : Room k callerA) (F : ∀ base : Heap, K.In base → base.Ns mainGlobals mg → FnG P w K mg base CX k fa fd [x] sp)
    (bind1 : ∀ (s : Shared) (u : Value), BindsTo s fd ⟨[u], []⟩ [(x, u)]) (noX : ∀ H e s', CX [] H t (fun _ _ _ => False) e s' → False)
    (pre : ∀ H : Hp, Only H → SqL K H a (ns.map V.int) → sp [.ref a] H (fun v _ => v = .bl true) fun _ _ _ => False) : codeAny (model P w) callerA (.call (.ref fa) ⟨[.ref a], []⟩) (Fine t) t := by
  have rv := vals_ints areInts
  have many := areInts.length
  cases own : K.lookup a with
  | some o =>
    have g := inK a o own
    rw [at_a] at g
    cases g
    have none0 : Only fun _ => none := fun _ => .inl rfl
    exact lawH inK nsM nsB bb nl ng at_a room F bind1 noX none0 (pre _ none0 (.inr ⟨_, us.toArray, _, own, rfl, rfl, rfl, by rw [List.size_toArray, many]; exact hz, by simpa using rv⟩)) (fun b u z => nomatch (show (none : Option HO) = some u from z)) (fun b z => absurd rfl z) fun z => absurd rfl z
  | none =>
    let H1 : Hp := fun b => if b = a then some (.frz { cls := .type "list", data := .seq us.toArray } (.lst (ns.map V.int))) else none
    have yes : H1 a = some (.frz { cls := .type "list", data := .seq us.toArray } (.lst (ns.map V.int))) := if_pos rfl
    have no : ∀ {b : Addr}, b ≠ a → H1 b = none := fun nb => if_neg nb
    have one : Only H1 := fun b => by
      by_cases e : b = a
      · exact .inr ⟨_, _, by rw [e]; exact yes⟩
      · exact .inl (no e)
    refine lawH inK nsM nsB bb nl ng at_a room F bind1 noX one (pre _ one (.inl (.inr ⟨_, yes⟩))) (fun b u z => ?_) (fun b z => ?_) fun _ => own
    · by_cases e : b = a
      · subst e
        rw [yes] at z
        cases z
        exact ⟨at_a, by rw [List.length_map]; exact hz, us, _, rv, at_a⟩
      · rw [no e] at z
        cases z
    · exact Decidable.byContradiction fun e => z (no e)
end
theorem walkG {l : PySem.W.OpenLaw} {n k : Nat} {q : Program} {loose : List Str} {XP : (Str → Option Value) → Heap → Prop} {YP : World → Heap → Prop} {d : DefRec} {K : Params → PySem.W.Frag} {sp : World → Sp} {x : Str}
    (hn : l.most = some n) (hz : n ≤ sizeLine) (hdf : d.params.defaults = []) (room : Room k callerA) (hY : ∀ (w : World) (h : Heap), YP w h → (K w.params).In h)
    (F : ∀ (w : World) (mg : Str → Option Value) (fa : Addr) (h : Heap), (K w.params).In h → h.Ns mainGlobals mg → mg d.name = some (.ref fa) →
      ∃ fd : FuncData, (∀ (s : Shared) (u : Value), BindsTo s fd ⟨[u], []⟩ [(x, u)]) ∧ ∀ base : Heap, (K w.params).In base → base.Ns mainGlobals mg → FnG l.prog w (K w.params) mg base CX0 k fa fd [x] (sp w))
    (pre : ∀ (w : World) (H : Hp) (a : Addr) (ns : List Int), ns.length ≤ n → Only H → SqL (K w.params) H a (ns.map V.int) → sp w [.ref a] H (fun v _ => v = .bl true) fun _ _ _ => False) :
    PySem.W.WalkO q loose XP YP l.row.toRowW d [] (fun f vs => PySem.call f vs) := by
  refine Att.attach_call hn hdf fun w t0 t mg mb fa o pm cd doc a us ns G Y ho hd hcd hmg at_a areInts many ng => ?_
  obtain ⟨fd, hb, hF⟩ := F w mg fa _ (hY w _ Y) G.T.g hmg
  exact lawG (hY w _ Y) G.T.g G.T.b G.T.builtins G.T.nolimit ng at_a areInts (Nat.le_trans many hz) room hF hb (fun _ _ _ z => z) fun H h1 h2 => pre w H a ns many h1 h2
end TR

set_option Elab.async false
set_option linter.all false
set_option maxRecDepth 100000
set_option maxHeartbeats 4000000
/-! TQ: an error that is caught and kept in a name. -/
namespace TQ
open PySem PySem.Spec PyProof.Rows L2 TX

/-- at a: a caught error of the class at C, its dict at d -/
def kxo (a C : Addr) (d : Option Addr) : HO := .ext fun h => ∃ (oe : Obj) (vs : Array Value), h.get? a = some oe ∧ Zc (.ref C) d oe ∧ oe.data = .fields vs
theorem kxo_ok {P : Program} {w : World} {H : Hp} {h : Heap} {a C : Addr} {d : Option Addr} {oe : Obj} {vs : Array Value} (e : h.get? a = some oe) (z : Zc (.ref C) d oe) (f : oe.data = .fields vs) : ObjOk P w H h a (kxo a C d) :=
  ⟨⟨oe, vs, e, z, f⟩, ⟨oe, e⟩, fun h1 h2 ⟨o, us, q, r⟩ k => ⟨o, us, k _ q, r⟩⟩
theorem kxo_at {P : Program} {w : World} {H : Hp} {h : Heap} {a C : Addr} {d : Option Addr} (ok : HOk P w H h) (e : H a = some (kxo a C d)) : ∃ (oe : Obj) (vs : Array Value), h.get? a = some oe ∧ Zc (.ref C) d oe ∧ oe.data = .fields vs := by
  have x : ObjOk P w H h a (.ext fun h => ∃ (oe : Obj) (vs : Array Value), h.get? a = some oe ∧ Zc (.ref C) d oe ∧ oe.data = .fields vs) := ok a _ e
  exact x.1
/-- a caught error with the field f -/
def Kept (H : Hp) (a C : Addr) (fs : List (Str × V)) : Prop := ∃ d, H a = some (kxo a C (some d)) ∧ H d = some (.xd fs)
theorem Kept.same {H H' : Hp} {a C : Addr} {fs : List (Str × V)} (e : Kept H a C fs) (h : ∀ b o, H b = some o → H' b = some o) : Kept H' a C fs :=
  let ⟨d, h1, h2⟩ := e
  ⟨d, h _ _ h1, h _ _ h2⟩
section
variable {X : Cx} {pins : List (Addr × Obj)} {σ : L2.St} {H : Hp} {s : Shared} {a C : Addr} {fs : List (Str × V)}
/-- an object that was made since the entry is looked at from here on -/
theorem track {φ : Heap → Prop} (I : Inv X pins σ H s) (new : ObjOk X.prog X.w (upd H a (.ext φ)) s.heap a (.ext φ)) (na : H a = none) (n0 : X.s_0.heap.get? a = none) (nL : a ≠ X.env.locals) (nC : ∀ x c, X.env.cells.lookup x = some c → c ≠ a) (nP : ∀ p ∈ X.pn ++ pins, p.1 ≠ a) :
    Inv X pins σ (upd H a (.ext φ)) s := by
  have ne : ∀ {b : Addr} {o : HO}, H b = some o → b ≠ a := fun {b o} e z => by
    rw [z, na] at e
    cases e
  have up : ∀ {b : Addr} {o : HO}, H b = some o → upd H a (.ext φ) b = some o := fun {b o} e => by
    rw [upd_ne (ne e)]
    exact e
  have off : ∀ {b : Addr}, b ≠ a → H b = none → upd H a (.ext φ) b = none := fun {b} nb e => by
    rw [upd_ne nb]
    exact e
  refine ⟨I.ok, I.os, I.bare, ⟨I.base.keep, I.base.slot, fun b o e n hx => off (fun z => ?_) (I.base.free b o e n hx), I.base.there, fun b xs e => up (I.base.tups b xs e), fun b o u e => up (I.base.frzs b o u e), fun b ps e => ?_⟩, I.loc, I.cell, off nL.symm I.free, fun x c e => off (nC x c e) (I.freeC x c e), fun p hp => ?_, fun b o e => ?_, I.len⟩
  · rw [z, n0] at e
    cases e
  · obtain ⟨more, q⟩ := I.base.tbls b ps e
    exact ⟨more, up q⟩
  · obtain ⟨h1, h2, h3⟩ := I.pin p hp
    exact ⟨h1, off (nP p hp) h2, h3⟩
  · by_cases hb : b = a
    · subst hb
      rw [upd_same] at e
      cases e
      exact new
    · rw [upd_ne hb] at e
      exact (I.hok b o e).stay (fun _ _ _ q => q) (fun _ q => up q) fun _ _ q => up q
theorem kinst_of (I : Inv X pins σ H s) (e : Kept H a C fs) : ∃ ox od, PySem.W.InstAt s.heap a ox C (some od) ∧ ∃ d, ox.dict = some d ∧ H d = some (.xd fs) ∧ s.heap.get? d = some od := by
  obtain ⟨d, h1, h2⟩ := e
  obtain ⟨oe, vs, ho, hz, hf⟩ := kxo_at I.hok h1
  have hx : ObjOk X.prog X.w H s.heap d (.xd fs) := I.hok d _ h2
  obtain ⟨mA, hns, _⟩ := hx
  obtain ⟨od, hd, _⟩ := lookIn_ns hns
  exact ⟨oe, od, ⟨ho, hz.1, by unfold PySem.W.notCls; rw [hf] <;> rfl, by rw [hz.2]; exact hd⟩, d, hz.2, h2, hd⟩
end
/-- isinstance(e, c): e a caught error -/
def rIsQ (K : PySem.W.Frag) : List V → Hp → VK → Prop := fun xs H Q => ∃ (a C : Addr) (fs : List (Str × V)) (c : V) (cv : Value) (b : Bool), xs = [.ref a, c] ∧ ExcC K C ∧ Kept H a C fs ∧ ClsV c cv ∧ PySem.W.kitOne K (.ref C) cv = some b ∧ Q (.bl b) H
theorem call_isQ {X : Cx} : CallR X (.builtin "isinstance") (rIsQ X.K) := by
  intro pins s σ H xs us Q I r h
  obtain ⟨a, C, fs, c, cv, b, rfl, hC, he, k, e, q⟩ := h
  obtain ⟨u1, u2, rfl, r1, r2⟩ := vals2 r
  cases (show u1 = Value.ref a from r1)
  have e2 := k.eq r2
  subst e2
  obtain ⟨ox, od, J, _⟩ := kinst_of I he
  refine PySem.W.kia_one (PySem.W.kitx_exc (ox := ox) (od := some od) ?_ hC.hg hC.hk hC.hs hC.ha hC.hn hC.ht hC.hm) I.kIn J e (fun z => nomatch z) fun tk => ⟨.bl b, H, I.tok tk, rfl, q⟩
  have z := hC.hd
  unfold PySem.W.hasDictIn at z
  cases w : PySem.W.clsIn X.K C with
  | some _ => rfl
  | none => rw [w] at z; cases z
/-- e.f: a field of a caught error -/
def tQx (K : PySem.W.Frag) (f : Str) (te : TE) : TE := fun σ H Q => te σ H fun x H1 => ∃ (a C : Addr) (fs : List (Str × V)) (v : V), x = .ref a ∧ XfC K C ∧ PySem.W.findIn K (.ref C) f = some none ∧ Kept H1 a C fs ∧ fs.lookup f = some v ∧ Q v H1
theorem pe_qx {X : Cx} {e : Expr} {te : TE} {pos : Pos} {f : Str} (he : PE X e te) (hb : attributeBase e f X.env (eval e X.env) = eval e X.env := by rfl) : PE X (.Attribute e f pos) (tQx X.K f te) := by
  refine ⟨fun pins s σ H Q I h => attr_of hb (thn (he.run pins s σ H _ I h) fun u s1 ⟨x, H1, I1, rx, a, C, fs, v, ex, T, hno, he, l, q⟩ => ?_)⟩
  subst ex
  cases (show u = Value.ref a from rx)
  obtain ⟨d, h1, h2⟩ := he
  obtain ⟨oe, vs, ho, hz, hf⟩ := kxo_at I1.hok h1
  have hx : ObjOk X.prog X.w H1 s1.heap d (.xd fs) := I1.hok d _ h2
  obtain ⟨mA, hns, hr⟩ := hx
  obtain ⟨od, hd, hl⟩ := lookIn_ns hns
  obtain ⟨y, hy, ry⟩ := RelO.some_of (v := v) (o := mA f) (by rw [← l]; exact hr f)
  have J : PySem.W.InstAt s1.heap a oe C (some od) := ⟨ho, hz.1, by unfold PySem.W.notCls; rw [hf] <;> rfl, by rw [hz.2]; exact hd⟩
  exact HandSPX.exc_get I1.kIn J T.ga T.gg T.exC (PySem.W.findObj_own T.hdC hno rfl (by rw [hl, hy])) (handed_of ry) ⟨v, H1, I1.tok _, ry, q⟩

/-! ### try: body, except x as n: y = n -/
def wKeep (K : PySem.W.Frag) (c : Value) (i j : Nat) (Wout : WX) (D : Ends) : WX := fun cls d σ H => ∃ (C : Addr) (b : Bool), cls = .ref C ∧ PySem.W.exmOne K cls c = some b ∧
  (b = true → ∀ a, H a = none → D.nx (((σ.set i (some (.ref a))).set j (some (.ref a))).set i none) (upd H a (kxo a C d))) ∧ (b = false → Wout cls d σ H)
section
variable {X : Cx} {x n y : Str} {c : Value} {i j : Nat} {body : List Stmt} {np np2 yp ap pos pos' : Pos} {tb : WX → TS} {Wout : WX}
theorem ps_try_keep (hex : X.ex = []) (hs : X.stack = X.env :: X.outer) (hf : X.env.frame = some X.env.locals) (hN : X.N.Nodup) (hi : X.N[i]? = some n) (hln : X.env.kindOf n = some .local) (hj : X.N[j]? = some y) (hly : X.env.kindOf y = some .local) (hij : i ≠ j) (hc : Names X x c) (tk : Takes X Wout)
    (hb : ∀ (W : WX) (pn : List (Addr × Obj)) (xe : Value → Shared → Prop), Takes (X.tr pn xe) W → PassesOwn (model X.prog X.w) X.A X.env xe → PSs (X.tr pn xe) body (tb W))
    (hsu : ∀ (a : Addr) (pn : List (Addr × Obj)), PSs (X.suite a pn) [.Assign [.Name y yp] (.Name n np2) ap] (tAsg (tVar i) (gName j))) :
    PS X (.Try body [.ExceptHandler (some (.Name x np)) (some n) [.Assign [.Name y yp] (.Name n np2) ap] pos'] [] [] pos) (fun D σ H => tb (wKeep X.K c i j Wout D) D σ H) := by
  refine ⟨fun pins s σ H D I h => ?_⟩
  have ok := I.ok
  have frames : X.A.frames = some (X.env :: X.outer) := by rw [ok.frames, hs]
  refine wpAny_Try_except ?_
  refine wpAny_mono ((hb (wKeep X.K c i j Wout D) (X.pn ++ pins) (fun e t1 => wpAny (model X.prog X.w) X.A (noteFrame e X.env) (fun _ t2 => wpAny (model X.prog X.w) X.A (setFlight e none) (fun _ t3 =>
    wpAny (model X.prog X.w) X.A (handleBy e X.env [.ExceptHandler (some (.Name x np)) (some n) [.Assign [.Name y yp] (.Name n np2) ap] pos']) (SP X pins D) X.xe t3) X.xe t2) X.xe t1) (fun u s' air => ?_) PassesOwn.looking).run [] s σ H D (I.toTry _) h) (fun fl s1 q => ?_) (fun _ _ q => q)
  · obtain ⟨a, B, sI, pins', σ', H', cls, d, rfl, J', nb, up, sky, na, os, ag, C, b, hcls, hb1, yes, no⟩ := air
    have J : Inv X pins σ' H' sI := J'.ofTry ok
    rw [show (X.tr (X.pn ++ pins) _).stack = X.env :: X.outer from hs] at sky
    show wpAny (model X.prog X.w) X.A (noteFrame (.ref a) X.env) _ _ _
    refine Sky.land Zc.steady frames hf sky fun h3 fl3 up3 => ?_
    have J3 : Inv X pins σ' H' { s' with heap := h3 } := J.landed nb fl3.1 (up.trans up3) os ag
    obtain ⟨o3, f3, g3, z3, d3⟩ := fl3.there
    have outside : ∀ {h : Heap} {o : Obj} {vs : Array Value}, h.FunFrames B (X.env :: X.outer) → h.get? a = some o → o.data = .fields vs → a ∉ frs (X.env :: X.outer) := fun {h o vs} ff e dd hm => by
      obtain ⟨_, o', e', nf⟩ := ff.mem hm
      rw [e] at e'
      cases e'
      exact nf _ dd
    have off := outside fl3.2.2.1 g3 d3
    have nL : a ≠ X.env.locals := fun z => off (List.mem_filterMap.mpr ⟨X.env, List.mem_cons_self, by rw [hf, z]⟩)
    have nF : a ∉ X.fs := fun hm => by
      obtain ⟨e, he, q⟩ := List.mem_filterMap.mp hm
      exact off (List.mem_filterMap.mpr ⟨e, List.mem_cons_of_mem _ he, q⟩)
    -- it is new to the state ahead of it
    have newI : ∀ {b : Addr} {o : Obj}, sI.heap.get? b = some o → b ∉ frs X.stack → b ≠ a := fun {b o} e nf z => by
      have q := nb b o e nf
      rw [z, fl3.2.1] at q
      cases q
    have n0 : X.s_0.heap.get? a = none := by
      cases q : X.s_0.heap.get? a with
      | none => rfl
      | some o =>
        by_cases hx : a ∈ X.ex
        · rw [hex] at hx
          cases hx
        · obtain ⟨o', e'⟩ := J.base.there a o q hx
          exact absurd rfl (newI e' (by rw [hs]; exact off))
    have nP : ∀ p ∈ X.pn ++ pins, p.1 ≠ a := fun p hp z => by
      have q := (J.pin p hp).1
      rw [z] at q
      exact newI q (by rw [hs]; exact off) rfl
    have S3 := J3.suite g3 d3 na nL nF
    refine wpAny_handleBy_cons (codeAny_handlers_test ?_) (by intro q; cases q)
    have LT : PySem.W.Looks (model X.prog X.w) h3 (typeOf (.ref a)) cls := fun A Q E s k q => wpAny_typeOf_ref (k _ _ g3) (by rw [z3.1]; exact q)
    have LM := PySem.W.exm_one (M := model X.prog X.w) J3.kIn LT hb1
    have named : ∀ {Q : Value → Shared → Prop} {E : Value → Shared → Prop}, Q c { s' with heap := h3 } → wpAny (model X.prog X.w) (X.A.mark (some (.ref a))) (eval (.Name x np) X.env) Q E { s' with heap := h3 } := fun {Q E} q => by
      obtain ⟨hg, hdbg, hm | ⟨hm, hv, hnn⟩⟩ := hc
      · exact ld_glob (X := X.suite a ((a, o3) :: (X.pn ++ pins))) S3 hg hm q hdbg
      · exact ld_blt (X := X.suite a ((a, o3) :: (X.pn ++ pins))) S3 hg hm hv q hnn hdbg
    refine named (LM.here ?_)
    cases b with
    | true =>
      refine codeAny_handlers_suite_as (HandSPX.lands_againZ fl3 fun h4 fl4 up4 => ?_)
      have J4 : Inv X pins σ' H' { s' with heap := h4 } := J.landed nb fl4.1 ((up.trans up3).trans up4) os ag
      obtain ⟨o4, f4, g4, z4, d4⟩ := fl4.there
      have S4 := J4.suite g4 d4 na nL nF
      have hiσ : i < σ'.length := by rw [J.len]; exact (List.getElem?_eq_some_iff.mp hi).1
      refine store_ok (X := X.suite a ((a, o4) :: (X.pn ++ pins))) (v := .ref a) S4 hN hi (.inl hln) rfl (fun s5 S5 => ?_) (.inr hln)
      have go := (hsu a ((a, o4) :: (X.pn ++ pins))).run [] s5 _ H' { nx := fun σ6 H6 => σ6 = (σ'.set i (some (.ref a))).set j (some (.ref a)) ∧ H6 = H', rt := fun _ _ => False, bk := fun _ _ => False, ct := fun _ _ => False } S5
        ⟨.ref a, by rw [List.getElem?_set_self hiσ], rfl, rfl⟩
      refine wpAny_mono go (fun fl s6 q => ?_) (fun _ _ z => False.elim z)
      cases fl with
      | next =>
        obtain ⟨σ6, H6, S6, e6, e7⟩ := q
        rw [e6, e7] at S6
        show wpAny (model X.prog X.w) X.A (do bindName X.env n .none; unbindBehindTheSuite X.env n pos') _ _ _
        refine gone_ok (X := X.suite a ((a, o4) :: (X.pn ++ pins))) S6 hN hi hln fun s7 S7 => ?_
        have g7 : s7.heap.get? a = some o4 := (S7.pin (a, o4) (List.mem_append_left _ List.mem_cons_self)).1
        have J7 : Inv X pins _ H' s7 := S7.unsuite ok
        rw [hcls] at z4
        refine ⟨_, _, track J7 (kxo_ok g7 z4 d4) na n0 nL (fun x0 c0 e z => ?_) nP, yes rfl a na⟩
        obtain ⟨v, hv⟩ := J7.cell x0 c0 e
        rw [z] at hv
        obtain ⟨oc, hoc, hdc⟩ := hv
        rw [g7] at hoc
        cases hoc
        rw [d4] at hdc
        cases hdc
      | brk => obtain ⟨_, _, _, z⟩ := q; exact False.elim z
      | cont => obtain ⟨_, _, _, z⟩ := q; exact False.elim z
      | ret u => obtain ⟨_, _, _, _, _, z⟩ := q; exact False.elim z
    | false =>
      show wpAny _ X.A (handleBy (.ref a) X.env []) _ _ _
      refine wpAny_handleBy_nil ?_
      obtain ⟨_, _, _, oe, vs, T, oT, ts', he, hz, hd, h1, hr⟩ := id fl3
      unfold PySem.passOn
      refine wpAny_bind (wpAny_field he hd h1 ?_)
      rw [if_neg (show ¬ ((Value.ref T == Value.none) = true) from by simp)]
      have away : wpAny (model X.prog X.w) X.A (setFlight (.ref a) X.env.frame) (fun _ s4 => wpAny (model X.prog X.w) X.A (throw (.ref a) : Sem Flow) (SP X pins D) X.xe s4) X.xe { s' with heap := h3 } := by
        rw [hf]
        refine HandSPX.setFlight_upZ fl3 fun h4 hh4 up4 => wpAny_throw (tk _ _ ⟨a, B, sI, pins, σ', H', cls, d, rfl, J, nb, (up.trans up3).trans up4, .inr (.inr (by rw [hs]; exact hh4)), na, os, ag, no rfl⟩)
      first
        | exact wpAny_bind (wpAny_pure (wpAny_bind away))
        | exact wpAny_bind away
  · cases fl with
    | next =>
      obtain ⟨σ', H', J', q⟩ := q
      exact wpAny_execs_nil ⟨σ', H', J'.ofTry ok, q⟩
    | brk =>
      obtain ⟨σ', H', J', q⟩ := q
      exact ⟨σ', H', J'.ofTry ok, q⟩
    | cont =>
      obtain ⟨σ', H', J', q⟩ := q
      exact ⟨σ', H', J'.ofTry ok, q⟩
    | ret u =>
      obtain ⟨v, σ', H', J', r, q⟩ := q
      exact ⟨v, σ', H', J'.ofTry ok, r, q⟩
end

/-! ### raise, and calls that may raise -/
/-- a reading that may be weakened -/
def tLax (te : TE) : TE := fun σ H Q => ∃ Q0 : VK, te σ H Q0 ∧ ∀ v H1, Q0 v H1 → Q v H1
theorem pe_lax {X : Cx} {e : Expr} {te : TE} (h : PE X e te) : PE X e (tLax te) :=
  ⟨fun pins s σ H Q I ⟨Q0, h0, im⟩ => wpAny_mono (h.run pins s σ H Q0 I h0) (fun u s' ⟨v, H1, J, r, q⟩ => ⟨v, H1, J, r, im v H1 q⟩) fun _ _ z => z⟩
/-- raise C(e) -/
def tRs (C : Addr) (f : Str) (te : TE) : L2.St → Hp → XK → Prop := fun σ H Q => te σ H fun y H1 => ∀ d H2, Same H1 H2 → H1 d = none → H2 d = some (.xd [(f, y)]) → Q (.ref C) (some d) H2
section
variable {X : Cx} {x f q : Str} {C : Addr} {e : Expr} {te : TE} {p pos : Pos}
theorem pmk_err (O : OwnE X.K X.mg x C f q) (hr : Room 2 X.A) (hg : Gl X x) (he : PE X e te) (hdb : (x == ("__debug__" : Str)) = false := by decide) (hs : starEach [e] X.env = (false, eval e X.env) :: starEach [] X.env := by rfl) :
    PMk X (.Call (.Name x p) [e] [] pos) (tRs C f te) := by
  obtain ⟨fI, fd, iC, tI, _, b1, _, ok⟩ := O.ex
  intro pins s σ H Q I h
  refine pmk_oex (ta := tCons (tLax te) tNil) (dvs := []) (ds := []) O.ox iC tI (ok X.prog X.w X.base) hr b1 .nil pass0 hg O.m (pa_cons (pe_lax he) pa_nil hs) hdb hs (by rfl) pins s σ H Q I ⟨_, h, fun y H1 hy => ?_⟩
  refine ⟨by simp, fun a na => ⟨a, y, rfl, upd_same, fun dx nd ne => ⟨rfl, dx, [(f, y)], upd_same, ?_, ?_, ?_⟩⟩⟩
  · rw [upd_ne ne, upd_same]
  · rw [upd_ne ne] at nd
    exact nd
  · rw [upd_ne ne] at nd
    refine hy dx _ (fun b o hb => ?_) nd upd_same
    have e1 : b ≠ a := fun z => by rw [z, na] at hb; cases hb
    have e2 : b ≠ dx := fun z => by rw [z, nd] at hb; cases hb
    rw [upd_ne e2, del_ne e1, upd_ne e1, upd_ne e2, upd_ne e1]
    exact hb
end
/-- f(e, ..), f may raise: W by the slots as they stand -/
def tCallX (sp : Sp) (dvs : List V) (W : WX) (t : TA) : TE := fun σ H Q => t σ H fun vs H1 => sp (vs ++ dvs) H1 Q fun cls d H2 => W cls d σ H2
section
variable {X : Cx} {k : Nat} {f : Addr} {fd : FuncData} {ps : List Str} {sp : Sp} {ds : List Value} {dvs : List V} {W : WX} {x : Str} {e : Expr} {es : List Expr} {t : TA} {p pos : Pos}
theorem run_fnX {pins : List (Addr × Obj)} {σ : L2.St} {H : Hp} {s : Shared} {Q : VK} {us : List Value} {vs : List V} (F : FnOk X.prog X.w X.K X.mg X.base (L2.CX X.prog X.w) k f fd ps sp) (tk : Takes X W) (hr : Room k X.A) (hb : Binds X.K fd ps ds) (hd : Vals dvs ds)
    (J : Inv X pins σ H s) (r : Vals vs us) (q : sp (vs ++ dvs) H Q fun cls d H2 => W cls d σ H2) : wpAny (model X.prog X.w) X.A (call (.ref f) us) (EP X pins σ Q) X.xe s := by
  have rr : Vals (vs ++ dvs) (us ++ ds) := r.append hd
  refine wpAny_call (codeAny_mono (F.run X.A X.stack s H ⟨us, []⟩ (us ++ ds) (vs ++ dvs) Q _ hr J.env0 (hb s us J.kIn (rr.length.symm.trans (F.len _ _ _ _ q))) rr q) fun res s' z => ?_)
  cases res with
  | error er => exact tk er s' (XE.of_call J (fun cls d H' w => w) z)
  | ok fl =>
    cases fl with
    | ret u => exact J.after z
    | next => exact False.elim z
    | brk => exact False.elim z
    | cont => exact False.elim z
theorem pe_callX (F : FnOk X.prog X.w X.K X.mg X.base (L2.CX X.prog X.w) k f fd ps sp) (tk : Takes X W) (hr : Room k X.A) (hg : Gl X x) (hm : X.mg x = some (.ref f)) (hk : PySem.W.keepIn X.K (.ref f) = true) (hb : Binds X.K fd ps ds) (hd : Vals dvs ds)
    (ha : PA X (e :: es) t) (hdb : (x == ("__debug__" : Str)) = false := by decide) (he : starEach (e :: es) X.env = (false, eval e X.env) :: starEach es X.env := by rfl) (hpl : (backTo pos (starEach es X.env)).any (·.1) = false := by rfl) :
    PE X (.Call (.Name x p) (e :: es) [] pos) (tCallX sp dvs W t) :=
  ⟨fun pins s σ H Q I h => wpAny_Call_Name_kw (ld_glob I hg hm (PySem.W.callWith_K (h₀ := X.base) I.ok.mod.kin hk (thn (ha.run pos pins s σ H _ I h) fun us s1 ⟨vs, H1, J, r, q⟩ => ⟨J.kIn, run_fnX F tk hr hb hd J r q⟩) he hpl) hdb)⟩
end

open TR in
/-- repr(x) of plain data of any kind -/
def rReprV : List V → Hp → VK → Prop := fun xs H Q => ∃ (x : V) (d : PyData) (c : Bool), xs = [x] ∧ DV H c x d ∧ (d.hasDict = true → c = true) ∧ d.showable = true ∧ d.depth ≤ 60 ∧ d.shown.length ≤ sizeLine ∧ Q (.str d.shown) H
open TR in
theorem cr_reprV {X : Cx} (hg : X.A.guards = some []) (hu : X.A.units + 64 < cLine) : CallR X (.builtin "repr") rReprV := by
  intro pins s σ H xs us Q I r h
  obtain ⟨x, d, c, rfl, hd, hc, hs, hp, hz, q⟩ := h
  have asRef : ∀ a, x = .ref a → wpAny (model X.prog X.w) X.A (call (.builtin "repr") us) (EP X pins σ Q) X.xe s := fun a e => by
    subst e
    exact cr_repr hg hu pins s σ H _ us Q I r ⟨a, d, c, rfl, hd, hc, hs, hp, hz, q⟩
  cases hd with
  | non =>
    obtain ⟨u, rfl, ru⟩ := r.one
    cases (show u = Value.none from ru)
    simp only [PyData.shown] at q
    exact PySem.P.repr_of_none ⟨.str "None", H, I.tok _, ⟨_, rfl⟩, q⟩
  | bl b =>
    obtain ⟨u, rfl, ru⟩ := r.one
    cases (show u = Value.bool b from ru)
    simp only [PyData.shown] at q
    exact PySem.P.repr_of_bool ⟨.str (if b then "True" else "False"), H, I.tok _, ⟨_, rfl⟩, q⟩
  | int i =>
    obtain ⟨u, rfl, ru⟩ := r.one
    obtain ⟨t, rfl⟩ := (show ∃ t, u = Value.int i t from ru)
    simp only [PyData.shown] at q
    exact PySem.P.repr_of_int (by simpa only [PyData.showable, decide_eq_true_eq] using hs) ⟨.str (toString i), H, I.tok _, ⟨_, rfl⟩, q⟩
  | str z =>
    obtain ⟨u, rfl, ru⟩ := r.one
    obtain ⟨t, rfl⟩ := (show ∃ t, u = Value.str z t from ru)
    simp only [PyData.shown] at q hz
    exact PySem.P.repr_of_str ⟨.str (reprText z), H, I.tok _, ⟨_, rfl⟩, q⟩ hz
  | lst a b c => exact asRef _ rfl
  | tup a b => exact asRef _ rfl
  | dic a b => exact asRef _ rfl

/-- fs[i](e, ..): a function out of a list, it may raise -/
def tCallSX (P : Program) (w : World) (K : PySem.W.Frag) (mg : Str → Option Value) (base : Heap) (A : Around) (W : WX) (tf : TE) (t : TA) : TE := fun σ H Q => tf σ H fun x H1 => ∃ (f : Addr) (fd : FuncData) (ps : List Str) (sp : Sp) (k : Nat), x = .ref f ∧ FnOk P w K mg base (L2.CX P w) k f fd ps sp ∧ Room k A ∧ PySem.W.keepIn K (.ref f) = true ∧ Binds K fd ps [] ∧
  t σ H1 fun vs H2 => sp vs H2 Q fun cls d H3 => W cls d σ H3
theorem pe_callSX {X : Cx} {W : WX} {a i : Expr} {e : Expr} {es : List Expr} {tf : TE} {t : TA} {p pos : Pos} (tk : Takes X W) (hf : PE X (.Subscript a i p) tf) (ha : PA X (e :: es) t)
    (hc : eval (.Call (.Subscript a i p) (e :: es) [] pos) X.env = (do let f ← eval (.Subscript a i p) X.env; callWith pos f [] (backTo pos (starEach (e :: es) X.env)) (backToKw pos (keywordEach [] X.env))) := by rfl)
    (he : starEach (e :: es) X.env = (false, eval e X.env) :: starEach es X.env := by rfl) (hpl : (backTo pos (starEach es X.env)).any (·.1) = false := by rfl) :
    PE X (.Call (.Subscript a i p) (e :: es) [] pos) (tCallSX X.prog X.w X.K X.mg X.base X.A W tf t) := by
  refine ⟨fun pins s σ H Q I h => ?_⟩
  rw [hc]
  refine wpAny_bind (thn (hf.run pins s σ H _ I h) fun u s1 ⟨x, H1, J, rx, f, fd, ps, sp, k, ex, F, hr, hk, hb, q⟩ => ?_)
  subst ex
  cases (show u = Value.ref f from rx)
  exact PySem.W.callWith_K (h₀ := X.base) J.ok.mod.kin hk (thn (ha.run pos pins s1 σ H1 _ J q) fun us s2 ⟨vs, H2, J2, r, q2⟩ => ⟨J2.kIn, run_fnX (dvs := []) (ds := []) F tk hr hb .nil J2 r (by rw [List.append_nil]; exact q2)⟩) he hpl
end TQ

namespace Toy
open PySem L2 TT TX TR TQ
def top (i : Nat) : Stmt := PySem.Challenge.pw_treeturns_k04_trees_that_grow.main.body.getD i (.Pass ⟨0, 0, 0, 0⟩)
def ini : Stmt → Stmt
  | .ClassDef (body := b) .. => b.headD (.Pass ⟨0, 0, 0, 0⟩)
  | s => s
abbrev i_InvalidTree : Stmt := ini (top 2)
theorem si_InvalidTree : FnScope ["self", "value"] ["self", "value"] (defScope i_InvalidTree) := ⟨rfl, rfl, rfl, by decide +kernel, rfl, by decide +kernel, by decide +kernel⟩
abbrev i_InvalidList : Stmt := ini (top 3)
theorem si_InvalidList : FnScope ["self", "value"] ["self", "value"] (defScope i_InvalidList) := ⟨rfl, rfl, rfl, by decide +kernel, rfl, by decide +kernel, by decide +kernel⟩
abbrev s_is_tree : Stmt := top 5
abbrev nm_is_tree : List Str := ["value", "awaited", "sign", "want"]
theorem sc_is_tree : FnScope ["value", "awaited", "sign", "want"] ["value"] (defScope s_is_tree) := ⟨rfl, rfl, rfl, by decide +kernel, rfl, by decide +kernel, by decide +kernel⟩
abbrev s_check_tree : Stmt := top 6
abbrev nm_check_tree : List Str := ["value"]
theorem sc_check_tree : FnScope ["value"] ["value"] (defScope s_check_tree) := ⟨rfl, rfl, rfl, by decide +kernel, rfl, by decide +kernel, by decide +kernel⟩
abbrev s_ends : Stmt := top 7
abbrev nm_ends : List Str := ["tree", "behind", "begun", "at", "sign"]
theorem sc_ends : FnScope ["tree", "behind", "begun", "at", "sign"] ["tree"] (defScope s_ends) := ⟨rfl, rfl, rfl, by decide +kernel, rfl, by decide +kernel, by decide +kernel⟩
abbrev s_check_hung : Stmt := top 8
abbrev nm_check_hung : List Str := ["tree", "trees", "item"]
theorem sc_check_hung : FnScope ["tree", "trees", "item"] ["tree", "trees"] (defScope s_check_hung) := ⟨rfl, rfl, rfl, by decide +kernel, rfl, by decide +kernel, by decide +kernel⟩
abbrev s_grown : Stmt := top 9
abbrev nm_grown : List Str := ["tree", "hung", "texts", "item", "text"]
theorem sc_grown : FnScope ["tree", "hung", "texts", "item", "text"] ["tree", "hung"] (defScope s_grown) := ⟨rfl, rfl, rfl, by decide +kernel, rfl, by decide +kernel, by decide +kernel⟩
abbrev s_hung : Stmt := top 10
abbrev nm_hung : List Str := ["tree", "top", "behind", "found", "at", "sign"]
theorem sc_hung : FnScope ["tree", "top", "behind", "found", "at", "sign"] ["tree", "top"] (defScope s_hung) := ⟨rfl, rfl, rfl, by decide +kernel, rfl, by decide +kernel, by decide +kernel⟩
abbrev s_joined : Stmt := top 11
abbrev nm_joined : List Str := ["one", "other", "top", "mine", "its"]
theorem sc_joined : FnScope ["one", "other", "top", "mine", "its"] ["one", "other"] (defScope s_joined) := ⟨rfl, rfl, rfl, by decide +kernel, rfl, by decide +kernel, by decide +kernel⟩
abbrev s_shared : Stmt := top 12
abbrev nm_shared : List Str := ["one", "other", "behind_one", "behind_other", "signs", "at", "to"]
theorem sc_shared : FnScope ["one", "other", "behind_one", "behind_other", "signs", "at", "to"] ["one", "other"] (defScope s_shared) := ⟨rfl, rfl, rfl, by decide +kernel, rfl, by decide +kernel, by decide +kernel⟩
abbrev s_law_cell : Stmt := top 14
abbrev nm_law_cell : List Str := ["_law_script", "_law_index"]
theorem sc_law_cell : FnScope ["_law_script", "_law_index"] ["_law_script", "_law_index"] (defScope s_law_cell) := ⟨rfl, rfl, rfl, by decide +kernel, rfl, by decide +kernel, by decide +kernel⟩
abbrev s_law_hash : Stmt := top 15
abbrev nm_law_hash : List Str := ["_law_seed", "_law_index", "_law_mixed"]
theorem sc_law_hash : FnScope ["_law_seed", "_law_index", "_law_mixed"] ["_law_seed", "_law_index"] (defScope s_law_hash) := ⟨rfl, rfl, rfl, by decide +kernel, rfl, by decide +kernel, by decide +kernel⟩
abbrev s_law_generator : Stmt := top 16
abbrev nm_law_generator : List Str := ["_law_script", "_law_index", "_law_seed"]
theorem sc_law_generator : FnScope ["_law_script", "_law_index", "_law_seed"] ["_law_script", "_law_index"] (defScope s_law_generator) := ⟨rfl, rfl, rfl, by decide +kernel, rfl, by decide +kernel, by decide +kernel⟩
abbrev s_law_random : Stmt := top 17
abbrev nm_law_random : List Str := ["_law_generator_here", "_law_bound", "_law_drawn", "_law_turn"]
theorem sc_law_random : FnScope ["_law_generator_here", "_law_bound", "_law_drawn", "_law_turn"] ["_law_generator_here", "_law_bound"] (defScope s_law_random) := ⟨rfl, rfl, rfl, by decide +kernel, rfl, by decide +kernel, by decide +kernel⟩
abbrev s_law_tree : Stmt := top 18
abbrev nm_law_tree : List Str := ["_law_generator_here", "_law_many", "_law_left"]
theorem sc_law_tree : FnScope ["_law_generator_here", "_law_many", "_law_left"] ["_law_generator_here", "_law_many"] (defScope s_law_tree) := ⟨rfl, rfl, rfl, by decide +kernel, rfl, by decide +kernel, by decide +kernel⟩
abbrev s_law_parsed : Stmt := top 19
abbrev nm_law_parsed : List Str := ["_law_tree_here", "_law_found", "_law_sign"]
theorem sc_law_parsed : FnScope ["_law_tree_here", "_law_found", "_law_sign"] ["_law_tree_here"] (defScope s_law_parsed) := ⟨rfl, rfl, rfl, by decide +kernel, rfl, by decide +kernel, by decide +kernel⟩
abbrev s_law_text : Stmt := top 20
abbrev nm_law_text : List Str := ["_law_parsed_here"]
theorem sc_law_text : FnScope ["_law_parsed_here"] ["_law_parsed_here"] (defScope s_law_text) := ⟨rfl, rfl, rfl, by decide +kernel, rfl, by decide +kernel, by decide +kernel⟩
abbrev s_law_filled : Stmt := top 21
abbrev nm_law_filled : List Str := ["_law_parsed_here", "_law_pieces", "_law_left"]
theorem sc_law_filled : FnScope ["_law_parsed_here", "_law_pieces", "_law_left"] ["_law_parsed_here", "_law_pieces"] (defScope s_law_filled) := ⟨rfl, rfl, rfl, by decide +kernel, rfl, by decide +kernel, by decide +kernel⟩
abbrev s_law_hanging : Stmt := top 22
abbrev nm_law_hanging : List Str := ["_law_parsed_here", "_law_top", "_law_left", "_law_right"]
theorem sc_law_hanging : FnScope ["_law_parsed_here", "_law_top", "_law_left", "_law_right"] ["_law_parsed_here", "_law_top"] (defScope s_law_hanging) := ⟨rfl, rfl, rfl, by decide +kernel, rfl, by decide +kernel, by decide +kernel⟩
abbrev s_law_both : Stmt := top 23
abbrev nm_law_both : List Str := ["_law_one", "_law_other"]
theorem sc_law_both : FnScope ["_law_one", "_law_other"] ["_law_one", "_law_other"] (defScope s_law_both) := ⟨rfl, rfl, rfl, by decide +kernel, rfl, by decide +kernel, by decide +kernel⟩
abbrev s_law_trees : Stmt := top 24
abbrev nm_law_trees : List Str := ["_law_generator_here", "_law_many", "_law_found", "_law_leaf"]
theorem sc_law_trees : FnScope ["_law_generator_here", "_law_many", "_law_found", "_law_leaf"] ["_law_generator_here", "_law_many"] (defScope s_law_trees) := ⟨rfl, rfl, rfl, by decide +kernel, rfl, by decide +kernel, by decide +kernel⟩
abbrev s_law_core : Stmt := top 25
abbrev nm_law_core : List Str := ["_law_one", "_law_other"]
theorem sc_law_core : FnScope ["_law_one", "_law_other"] ["_law_one", "_law_other"] (defScope s_law_core) := ⟨rfl, rfl, rfl, by decide +kernel, rfl, by decide +kernel, by decide +kernel⟩
abbrev s_law_pair_right : Stmt := top 26
abbrev nm_law_pair_right : List Str := ["_law_one", "_law_other", "_law_first", "_law_second", "_law_found", "_law_due", "_law_piece", "_law_turn", "_law_told"]
theorem sc_law_pair_right : FnScope ["_law_one", "_law_other", "_law_first", "_law_second", "_law_found", "_law_due", "_law_piece", "_law_turn", "_law_told"] ["_law_one", "_law_other"] (defScope s_law_pair_right) := ⟨rfl, rfl, rfl, by decide +kernel, rfl, by decide +kernel, by decide +kernel⟩
abbrev s_law_caught : Stmt := top 27
abbrev nm_law_caught : List Str := ["_law_tree_here", "_law_trees_here", "_law_caught_here", "error", "_law_kept"]
theorem sc_law_caught : FnScope ["_law_tree_here", "_law_trees_here", "_law_caught_here", "error", "_law_kept"] ["_law_tree_here", "_law_trees_here"] (defScope s_law_caught) := ⟨rfl, rfl, rfl, by decide +kernel, rfl, by decide +kernel, by decide +kernel⟩
abbrev s_law_no_tree : Stmt := top 28
abbrev nm_law_no_tree : List Str := ["_law_door", "_law_one", "_law_other", "_law_bad", "_law_caught_here", "error"]
theorem sc_law_no_tree : FnScope ["_law_door", "_law_one", "_law_other", "_law_bad", "_law_caught_here", "error"] ["_law_door", "_law_one", "_law_other", "_law_bad"] (defScope s_law_no_tree) := ⟨rfl, rfl, rfl, by decide +kernel, rfl, by decide +kernel, by decide +kernel⟩
abbrev s_law_refused : Stmt := top 29
abbrev nm_law_refused : List Str := ["_law_tree_here", "_law_bad", "_law_door", "_law_first", "_law_second"]
theorem sc_law_refused : FnScope ["_law_tree_here", "_law_bad", "_law_door", "_law_first", "_law_second"] ["_law_tree_here"] (defScope s_law_refused) := ⟨rfl, rfl, rfl, by decide +kernel, rfl, by decide +kernel, by decide +kernel⟩
abbrev s_law_great_right : Stmt := top 30
abbrev nm_law_great_right : List Str := ["_law_generator_here", "_law_left", "_law_right", "_law_turn", "_law_tree_here"]
theorem sc_law_great_right : FnScope ["_law_generator_here", "_law_left", "_law_right", "_law_turn", "_law_tree_here"] ["_law_generator_here"] (defScope s_law_great_right) := ⟨rfl, rfl, rfl, by decide +kernel, rfl, by decide +kernel, by decide +kernel⟩
abbrev s_law : Stmt := top 31
abbrev nm_law : List Str := ["_law_script", "_law_index", "_law_generator_here", "_law_tree_here", "_law_trees_here", "_law_kept", "_law_full", "_law_pieces", "_law_one", "_law_others", "_law_turn", "_law_other", "_law_lists", "_law_both_here", "_law_bad"]
theorem sc_law : FnScope ["_law_script", "_law_index", "_law_generator_here", "_law_tree_here", "_law_trees_here", "_law_kept", "_law_full", "_law_pieces", "_law_one", "_law_others", "_law_turn", "_law_other", "_law_lists", "_law_both_here", "_law_bad"] ["_law_script"] (defScope s_law) := ⟨rfl, rfl, rfl, by decide +kernel, rfl, by decide +kernel, by decide +kernel⟩
abbrev veL : List Value := [.type "ValueError", .type "Exception", .type "BaseException", .type "object"]
structure Txt (K : PySem.W.Frag) (mg : Str → Option Value) where
  c_TurnError : Addr
  g_TurnError : mg "TurnError" = some (.ref c_TurnError)
  e_TurnError : ErrC K c_TurnError (.ref c_TurnError :: veL)
  c_InvalidTree : Addr
  o_InvalidTree : OwnE K mg "InvalidTree" c_InvalidTree "value" "value"
  g_InvalidTree : mg "InvalidTree" = some (.ref c_InvalidTree)
  e_InvalidTree : ErrC K c_InvalidTree (.ref c_InvalidTree :: .ref c_TurnError :: veL)
  x_InvalidTree : XfC K c_InvalidTree
  n_InvalidTree : PySem.W.findIn K (.ref c_InvalidTree) "value" = some none
  c_InvalidList : Addr
  o_InvalidList : OwnE K mg "InvalidList" c_InvalidList "value" "value"
  g_InvalidList : mg "InvalidList" = some (.ref c_InvalidList)
  e_InvalidList : ErrC K c_InvalidList (.ref c_InvalidList :: .ref c_TurnError :: veL)
  x_InvalidList : XfC K c_InvalidList
  n_InvalidList : PySem.W.findIn K (.ref c_InvalidList) "value" = some none
  nd : [c_InvalidTree, c_InvalidList, c_TurnError].Nodup
  a_is_tree : Addr
  fd_is_tree : FuncData
  F_is_tree : Fun K "is_tree" "is_tree" s_is_tree a_is_tree fd_is_tree
  b_is_tree : Binds K fd_is_tree ["value"] []
  m_is_tree : mg "is_tree" = some (.ref a_is_tree)
  a_check_tree : Addr
  fd_check_tree : FuncData
  F_check_tree : Fun K "check_tree" "check_tree" s_check_tree a_check_tree fd_check_tree
  b_check_tree : Binds K fd_check_tree ["value"] []
  m_check_tree : mg "check_tree" = some (.ref a_check_tree)
  a_ends : Addr
  fd_ends : FuncData
  F_ends : Fun K "ends" "ends" s_ends a_ends fd_ends
  b_ends : Binds K fd_ends ["tree"] []
  m_ends : mg "ends" = some (.ref a_ends)
  a_check_hung : Addr
  fd_check_hung : FuncData
  F_check_hung : Fun K "check_hung" "check_hung" s_check_hung a_check_hung fd_check_hung
  b_check_hung : Binds K fd_check_hung ["tree", "trees"] []
  m_check_hung : mg "check_hung" = some (.ref a_check_hung)
  a_grown : Addr
  fd_grown : FuncData
  F_grown : Fun K "grown" "grown" s_grown a_grown fd_grown
  b_grown : Binds K fd_grown ["tree", "hung"] []
  m_grown : mg "grown" = some (.ref a_grown)
  a_hung : Addr
  fd_hung : FuncData
  F_hung : Fun K "hung" "hung" s_hung a_hung fd_hung
  b_hung : Binds K fd_hung ["tree", "top"] []
  m_hung : mg "hung" = some (.ref a_hung)
  a_joined : Addr
  fd_joined : FuncData
  F_joined : Fun K "joined" "joined" s_joined a_joined fd_joined
  b_joined : Binds K fd_joined ["one", "other"] []
  m_joined : mg "joined" = some (.ref a_joined)
  a_shared : Addr
  fd_shared : FuncData
  F_shared : Fun K "shared" "shared" s_shared a_shared fd_shared
  b_shared : Binds K fd_shared ["one", "other"] []
  m_shared : mg "shared" = some (.ref a_shared)
  a_law_cell : Addr
  fd_law_cell : FuncData
  F_law_cell : Fun K "_law_cell" "_law_cell" s_law_cell a_law_cell fd_law_cell
  b_law_cell : Binds K fd_law_cell ["_law_script", "_law_index"] []
  m_law_cell : mg "_law_cell" = some (.ref a_law_cell)
  a_law_hash : Addr
  fd_law_hash : FuncData
  F_law_hash : Fun K "_law_hash" "_law_hash" s_law_hash a_law_hash fd_law_hash
  b_law_hash : Binds K fd_law_hash ["_law_seed", "_law_index"] []
  m_law_hash : mg "_law_hash" = some (.ref a_law_hash)
  a_law_generator : Addr
  fd_law_generator : FuncData
  F_law_generator : Fun K "_law_generator" "_law_generator" s_law_generator a_law_generator fd_law_generator
  b_law_generator : Binds K fd_law_generator ["_law_script", "_law_index"] []
  m_law_generator : mg "_law_generator" = some (.ref a_law_generator)
  a_law_random : Addr
  fd_law_random : FuncData
  F_law_random : Fun K "_law_random" "_law_random" s_law_random a_law_random fd_law_random
  b_law_random : Binds K fd_law_random ["_law_generator_here", "_law_bound"] []
  m_law_random : mg "_law_random" = some (.ref a_law_random)
  a_law_tree : Addr
  fd_law_tree : FuncData
  F_law_tree : Fun K "_law_tree" "_law_tree" s_law_tree a_law_tree fd_law_tree
  b_law_tree : Binds K fd_law_tree ["_law_generator_here", "_law_many"] []
  m_law_tree : mg "_law_tree" = some (.ref a_law_tree)
  a_law_parsed : Addr
  fd_law_parsed : FuncData
  F_law_parsed : Fun K "_law_parsed" "_law_parsed" s_law_parsed a_law_parsed fd_law_parsed
  b_law_parsed : Binds K fd_law_parsed ["_law_tree_here"] []
  m_law_parsed : mg "_law_parsed" = some (.ref a_law_parsed)
  a_law_text : Addr
  fd_law_text : FuncData
  F_law_text : Fun K "_law_text" "_law_text" s_law_text a_law_text fd_law_text
  b_law_text : Binds K fd_law_text ["_law_parsed_here"] []
  m_law_text : mg "_law_text" = some (.ref a_law_text)
  a_law_filled : Addr
  fd_law_filled : FuncData
  F_law_filled : Fun K "_law_filled" "_law_filled" s_law_filled a_law_filled fd_law_filled
  b_law_filled : Binds K fd_law_filled ["_law_parsed_here", "_law_pieces"] []
  m_law_filled : mg "_law_filled" = some (.ref a_law_filled)
  a_law_hanging : Addr
  fd_law_hanging : FuncData
  F_law_hanging : Fun K "_law_hanging" "_law_hanging" s_law_hanging a_law_hanging fd_law_hanging
  b_law_hanging : Binds K fd_law_hanging ["_law_parsed_here", "_law_top"] []
  m_law_hanging : mg "_law_hanging" = some (.ref a_law_hanging)
  a_law_both : Addr
  fd_law_both : FuncData
  F_law_both : Fun K "_law_both" "_law_both" s_law_both a_law_both fd_law_both
  b_law_both : Binds K fd_law_both ["_law_one", "_law_other"] []
  m_law_both : mg "_law_both" = some (.ref a_law_both)
  a_law_trees : Addr
  fd_law_trees : FuncData
  F_law_trees : Fun K "_law_trees" "_law_trees" s_law_trees a_law_trees fd_law_trees
  b_law_trees : Binds K fd_law_trees ["_law_generator_here", "_law_many"] []
  m_law_trees : mg "_law_trees" = some (.ref a_law_trees)
  a_law_core : Addr
  fd_law_core : FuncData
  F_law_core : Fun K "_law_core" "_law_core" s_law_core a_law_core fd_law_core
  b_law_core : Binds K fd_law_core ["_law_one", "_law_other"] []
  m_law_core : mg "_law_core" = some (.ref a_law_core)
  a_law_pair_right : Addr
  fd_law_pair_right : FuncData
  F_law_pair_right : Fun K "_law_pair_right" "_law_pair_right" s_law_pair_right a_law_pair_right fd_law_pair_right
  b_law_pair_right : Binds K fd_law_pair_right ["_law_one", "_law_other"] []
  m_law_pair_right : mg "_law_pair_right" = some (.ref a_law_pair_right)
  a_law_caught : Addr
  fd_law_caught : FuncData
  F_law_caught : Fun K "_law_caught" "_law_caught" s_law_caught a_law_caught fd_law_caught
  b_law_caught : Binds K fd_law_caught ["_law_tree_here", "_law_trees_here"] []
  m_law_caught : mg "_law_caught" = some (.ref a_law_caught)
  a_law_no_tree : Addr
  fd_law_no_tree : FuncData
  F_law_no_tree : Fun K "_law_no_tree" "_law_no_tree" s_law_no_tree a_law_no_tree fd_law_no_tree
  b_law_no_tree : Binds K fd_law_no_tree ["_law_door", "_law_one", "_law_other", "_law_bad"] []
  m_law_no_tree : mg "_law_no_tree" = some (.ref a_law_no_tree)
  a_law_refused : Addr
  fd_law_refused : FuncData
  F_law_refused : Fun K "_law_refused" "_law_refused" s_law_refused a_law_refused fd_law_refused
  b_law_refused : Binds K fd_law_refused ["_law_tree_here"] []
  m_law_refused : mg "_law_refused" = some (.ref a_law_refused)
  a_law_great_right : Addr
  fd_law_great_right : FuncData
  F_law_great_right : Fun K "_law_great_right" "_law_great_right" s_law_great_right a_law_great_right fd_law_great_right
  b_law_great_right : Binds K fd_law_great_right ["_law_generator_here"] []
  m_law_great_right : mg "_law_great_right" = some (.ref a_law_great_right)
  a_law : Addr
  fd_law : FuncData
  F_law : Fun K "law" "law" s_law a_law fd_law
  b_law : Binds K fd_law ["_law_script"] []
  m_law : mg "law" = some (.ref a_law)
  z_isinstance : mg "isinstance" = none
  z_str : mg "str" = none
  z_len : mg "len" = none
  z_all : mg "all" = none
  z_list : mg "list" = none
  z_int : mg "int" = none
  z_max : mg "max" = none
  z_range : mg "range" = none
  z_enumerate : mg "enumerate" = none
  z_zip : mg "zip" = none
  z_repr : mg "repr" = none
  z_tuple : mg "tuple" = none
/-! ### words for trees -/
abbrev trV (t : Tr) : V := .str (S t.cs)
/-- all but what stands at g is as it was -/
def Keep (g : Addr) (H H' : Hp) : Prop := ∀ b o, b ≠ g → H b = some o → H' b = some o
/-- a generator: its third number is at most n -/
def GenAt (H : Hp) (g : Addr) (n : Nat) : Prop := ∃ a b c : Int, H g = some (.lst [.int a, .int b, .int c]) ∧ 0 ≤ c ∧ c ≤ (n : Int)
def NotStr (K : PySem.W.Frag) (H : Hp) (v : V) : Prop := ∃ t, TyX K H v t ∧ PySem.W.kitOne K t (.type "str") = some false
/-- how is_tree reads, its stack's top first -/
def isT : List Nat → List Str → Bool
  | [], st => st.isEmpty
  | c :: cs, st =>
    if st.headD "end" = "tree" ∧ S [c] = "(" then isT cs ("tree" :: "tree" :: ")" :: st.tail)
    else if st.headD "end" ≠ S [c] ∧ ¬ (st.headD "end" = "tree" ∧ S [c] = ".") then false
    else isT cs st.tail
def sp_is_tree (K : PySem.W.Frag) : Sp := fun vs H Q _ => ∃ v, vs = [v] ∧ ((∃ x : Str, v = .str x ∧ x.length ≤ 1000000 ∧ ∀ H', Same H H' → Q (.bl (isT x.cps.toList ["tree"])) H') ∨ (NotStr K H v ∧ Q (.bl false) H))
def sp_ends (K : PySem.W.Frag) : Sp := fun vs H Q _ => ∃ t : Tr, vs = [trV t] ∧ t.size ≤ 2000 ∧ ∀ p H', H p = none → Same H H' → H' p = some (.lst ((Tr.ends 0 t).map fun n => V.int (n : Nat))) → Q (.ref p) H'
def sp_law_cell (K : PySem.W.Frag) : Sp := fun vs H Q _ => ∃ (a : Addr) (ns : List Int) (i : Nat), vs = [.ref a, .int i] ∧ SqL K H a (ns.map V.int) ∧ Q (.int (ns.getD i 0)) H
def sp_law_hash (K : PySem.W.Frag) : Sp := fun vs H Q _ => ∃ s i : Int, vs = [.int s, .int i] ∧ 0 ≤ i ∧ i ≤ 1000000000000000 ∧ ∀ r : Int, Q (.int r) H
def sp_law_generator (K : PySem.W.Frag) : Sp := fun vs H Q _ => ∃ (a : Addr) (ns : List Int) (i : Nat), vs = [.ref a, .int i] ∧ SqL K H a (ns.map V.int) ∧ ∀ g H', H g = none → Same H H' → GenAt H' g (1000 * i) → Q (.ref g) H'
def sp_law_random (K : PySem.W.Frag) : Sp := fun vs H Q _ => ∃ (g : Addr) (b : Int) (n : Nat), vs = [.ref g, .int b] ∧ GenAt H g n ∧ n ≤ 100000000000000 ∧ 1 ≤ b ∧ b < 1000000000000000 ∧
  ∀ (r : Int) H', 0 ≤ r → r < b → Keep g H H' → GenAt H' g (n + 3) → Q (.int r) H'
def sp_law_tree (K : PySem.W.Frag) (k : Nat) : Sp := fun vs H Q _ => ∃ (g : Addr) (m n : Nat), vs = [.ref g, .int m] ∧ m < k ∧ m ≤ 2000 ∧ GenAt H g n ∧ n + 6 * m ≤ 10000000000000 ∧
  ∀ (t : Tr) H', t.size = m → Keep g H H' → GenAt H' g (n + 6 * m) → Q (trV t) H'
def sp_law_trees (K : PySem.W.Frag) : Sp := fun vs H Q _ => ∃ (g : Addr) (m n : Nat), vs = [.ref g, .int m] ∧ m ≤ 2000 ∧ GenAt H g n ∧ n + 21 * m ≤ 1000000000000 ∧
  ∀ (p : Addr) (xs : List Tr) H', xs.length = m → (∀ x ∈ xs, x.size ≤ 3) → H p = none → Keep g H H' → GenAt H' g (n + 21 * m) → H' p = some (.lst (xs.map trV)) → Q (.ref p) H'

theorem tyX_same {K : PySem.W.Frag} {H H' : Hp} {x : V} {t : Value} (h : TyX K H x t) (s : Same H H') : TyX K H' x t := by
  cases h with
  | base h =>
    cases h with
    | non => exact .base .non
    | bl b => exact .base (.bl b)
    | int i => exact .base (.int i)
    | str z => exact .base (.str z)
    | flt z => exact .base (.flt z)
    | lst e => exact .base (.lst (s _ _ e))
    | frz e => exact .base (.frz (s _ _ e))
    | tup e => exact .base (.tup (s _ _ e))
    | dK e => exact .base (.dK (s _ _ e))
    | dT e => exact .base (.dT (s _ _ e))
    | ins e cl a b c d => exact .base (.ins (s _ _ e) cl a b c d)
  | byt b => exact .byt b
  | set e => exact .set (s _ _ e)
  | kList e c => exact .kList e c
  | kTuple e c => exact .kTuple e c
  | kDict e c => exact .kDict e c
  | fTuple e => exact .fTuple (s _ _ e)
  | fDict e => exact .fDict (s _ _ e)

/-! ### what may be refused -/
def NotTree (K : PySem.W.Frag) (H : Hp) (v : V) : Prop := (∃ x : Str, v = .str x ∧ x.length ≤ 1000000 ∧ isT x.cps.toList ["tree"] = false) ∨ NotStr K H v
/-- an error of the class at C with the value v leaves -/
def Out (C : Addr) (v : V) (H : Hp) (E : XK) : Prop := ∀ d H', Same H H' → H d = none → H' d = some (.xd [("value", v)]) → E (.ref C) (some d) H'
def GoodL (H : Hp) (t : Tr) (v : V) (xs : List Tr) : Prop := ∃ a, v = .ref a ∧ H a = some (.lst (xs.map trV)) ∧ xs.length = t.lvs ∧ ∀ x ∈ xs, x.size ≤ 2000
def BadL (K : PySem.W.Frag) (H : Hp) (t : Tr) (v : V) : Prop := (∃ ty, TyX K H v ty ∧ PySem.W.kitOne K ty (.type "list") = some false) ∨
  ∃ a ws, v = .ref a ∧ H a = some (.lst ws) ∧ ws.length ≤ 100000 ∧ (ws.length ≠ t.lvs ∨ (∀ u ∈ ws, (∃ x : Tr, u = trV x ∧ x.size ≤ 2000) ∨ NotTree K H u) ∧ ∃ u ∈ ws, NotTree K H u)
section
variable {K : PySem.W.Frag} {mg : Str → Option Value}
def sp_check_tree (T : Txt K mg) : Sp := fun vs H Q E => ∃ v, vs = [v] ∧ ((∃ t : Tr, v = trV t ∧ t.size ≤ 2000 ∧ ∀ H', Same H H' → Q .non H') ∨ (NotTree K H v ∧ Out T.c_InvalidTree v H E))
def sp_check_hung (T : Txt K mg) : Sp := fun vs H Q E => ∃ (t : Tr) (v : V), vs = [trV t, v] ∧ t.size ≤ 2000 ∧ ((∃ xs, GoodL H t v xs ∧ ∀ H', Same H H' → Q .non H') ∨ (BadL K H t v ∧ Out T.c_InvalidList v H E))
def sp_grown (T : Txt K mg) : Sp := fun vs H Q E => ∃ (u v : V), vs = [u, v] ∧ ((∃ t : Tr, u = trV t ∧ t.size ≤ 2000 ∧ ((∃ xs, GoodL H t v xs ∧ ∀ H', Same H H' → Q (trV (t.grow xs)) H') ∨ (BadL K H t v ∧ Out T.c_InvalidList v H E))) ∨ (NotTree K H u ∧ Out T.c_InvalidTree u H E))
/-- two trees, or the first that is none -/
def TwoTrees (K : PySem.W.Frag) (C : Addr) (vs : List V) (H : Hp) (E : XK) (G : Tr → Tr → Prop) : Prop := ∃ (u v : V), vs = [u, v] ∧ ((∃ a : Tr, u = trV a ∧ a.size ≤ 2000 ∧ ((∃ b : Tr, v = trV b ∧ b.size ≤ 2000 ∧ G a b) ∨ (NotTree K H v ∧ Out C v H E))) ∨ (NotTree K H u ∧ Out C u H E))
def sp_hung (T : Txt K mg) : Sp := fun vs H Q E => TwoTrees K T.c_InvalidTree vs H E fun s c => (Tr.hang s c = none → ∀ H', Same H H' → Q .non H') ∧
  ∀ xs, Tr.hang s c = some xs → ∀ p H', H p = none → Same H H' → H' p = some (.lst (xs.map trV)) → Q (.ref p) H'
def sp_joined (T : Txt K mg) : Sp := fun vs H Q E => TwoTrees K T.c_InvalidTree vs H E fun a b => ∀ H', Same H H' → Q (trV (Tr.join a b)) H'
def sp_shared (T : Txt K mg) : Sp := fun vs H Q E => TwoTrees K T.c_InvalidTree vs H E fun a b => ∀ H', Same H H' → Q (trV (Tr.meet a b)) H'
end
theorem NotStr.same {K : PySem.W.Frag} {H H' : Hp} {v : V} (h : NotStr K H v) (s : Same H H') : NotStr K H' v := let ⟨t, a, b⟩ := h; ⟨t, tyX_same a s, b⟩
theorem NotTree.same {K : PySem.W.Frag} {H H' : Hp} {v : V} (h : NotTree K H v) (s : Same H H') : NotTree K H' v := h.imp id fun z => z.same s
theorem Out.same {C : Addr} {v : V} {H H' : Hp} {E : XK} (h : Out C v H E) (s : Same H H') : Out C v H' E := fun d H2 s2 n e => h d H2 (s.trans s2) (s.free n) e
theorem GoodL.same {H H' : Hp} {t : Tr} {v : V} {xs : List Tr} (h : GoodL H t v xs) (s : Same H H') : GoodL H' t v xs := let ⟨a, e, g, r⟩ := h; ⟨a, e, s _ _ g, r⟩
theorem BadL.same {K : PySem.W.Frag} {H H' : Hp} {t : Tr} {v : V} (h : BadL K H t v) (s : Same H H') : BadL K H' t v := by
  rcases h with ⟨ty, a, b⟩ | ⟨a, ws, e, g, l, r⟩
  · exact .inl ⟨ty, tyX_same a s, b⟩
  · refine .inr ⟨a, ws, e, s _ _ g, l, r.imp id fun ⟨al, u, hu, nu⟩ => ⟨fun z hz => (al z hz).imp id fun n => n.same s, u, hu, nu.same s⟩⟩

/-! ### trees as nested tuples -/
def Tr.hgt : Tr → Nat
  | .leaf => 0
  | .node l r => max (hgt l) (hgt r) + 1
inductive PT (H : Hp) : V → Tr → Prop
  | leaf {p : Addr} : H p = some (.tup []) → PT H (.ref p) .leaf
  | node {p : Addr} {x y : V} {l r : Tr} : H p = some (.tup [x, y]) → PT H x l → PT H y r → PT H (.ref p) (.node l r)
theorem PT.same {H H' : Hp} (s : Same H H') : ∀ {v : V} {t : Tr}, PT H v t → PT H' v t
  | _, _, .leaf h => .leaf (s _ _ h)
  | _, _, .node h a b => .node (s _ _ h) (PT.same s a) (PT.same s b)
/-- all but what stands at g, which is a list -/
theorem PT.keep {H H' : Hp} {g : Addr} {ws : List V} (s : Keep g H H') (hg : H g = some (.lst ws)) : ∀ {v : V} {t : Tr}, PT H v t → PT H' v t
  | _, _, .leaf h => .leaf (s _ _ (ne_of h hg fun z => by cases z) h)
  | _, _, .node h a b => .node (s _ _ (ne_of h hg fun z => by cases z) h) (PT.keep s hg a) (PT.keep s hg b)
def tD : Tr → PyData
  | .leaf => .tuple []
  | .node l r => .tuple [tD l, tD r]
theorem PT.dp {K : PySem.W.Frag} {H : Hp} : ∀ {v : V} {t : Tr}, PT H v t → Dp K H v (tD t)
  | _, _, .leaf h => .tup (SqT.of h) .nil
  | _, _, .node h a b => .tup (SqT.of h) (.cons (PT.dp a) (.cons (PT.dp b) .nil))
theorem tD_depth : ∀ t : Tr, (tD t).depth = Tr.hgt t + 1
  | .leaf => by simp [tD, PyData.depth, PyData.depthAll, Tr.hgt]
  | .node l r => by
    have h1 := tD_depth l
    have h2 := tD_depth r
    simp only [tD, PyData.depth, PyData.depthAll, Tr.hgt, h1, h2]
    omega
theorem tD_lay : ∀ t : Tr, (tD t).canLay0 = true
  | .leaf => by simp [tD, PyData.canLay0, PyData.canLayAll0]
  | .node l r => by
    simp only [tD, PyData.canLay0, PyData.canLayAll0, tD_lay l, tD_lay r]
    rfl
theorem tD_shaped {t : Tr} (h : Tr.hgt t ≤ 62) : SeqAt.shaped (tD t) = true := by
  unfold SeqAt.shaped
  rw [tD_lay, tD_depth]
  simp
  omega
theorem tD_leaf : ∀ t : Tr, PyData.eqv (tD t) (.tuple []) = decide (t = .leaf)
  | .leaf => by simp [tD, PyData.eqv, PyData.eqvAll]
  | .node l r => by simp [tD, PyData.eqv, PyData.eqvAll]
/-- x == () -/
theorem eqLeaf {K : PySem.W.Frag} {H : Hp} {v : V} {t : Tr} {p : Addr} {Q : VK} (h : PT H v t) (ht : Tr.hgt t ≤ 62) (hp : H p = some (.tup [])) (q : Q (.bl (decide (t = .leaf))) H) : rEqD K v (.ref p) H Q :=
  ⟨tD t, .tuple [], h.dp, .tup (SqT.of hp) .nil, tD_shaped ht, by decide +kernel, by rw [tD_leaf]; exact q⟩
section
variable {K : PySem.W.Frag} {mg : Str → Option Value}
def sp_law_parsed (K : PySem.W.Frag) : Sp := fun vs H Q _ => ∃ t : Tr, vs = [trV t] ∧ t.size ≤ 2000 ∧ ∀ v H', Same H H' → PT H' v t → Q v H'
def sp_law_text (K : PySem.W.Frag) (k : Nat) : Sp := fun vs H Q _ => ∃ (v : V) (t : Tr), vs = [v] ∧ PT H v t ∧ Tr.hgt t < k ∧ Tr.hgt t ≤ 62 ∧ t.size ≤ 2000 ∧ ∀ H', Same H H' → Q (trV t) H'
def sp_law_both (K : PySem.W.Frag) (k : Nat) : Sp := fun vs H Q _ => ∃ (u v : V) (a b : Tr), vs = [u, v] ∧ PT H u a ∧ PT H v b ∧ Tr.hgt a < k ∧ Tr.hgt a ≤ 62 ∧ Tr.hgt b ≤ 62 ∧ ∀ z H', Same H H' → PT H' z (Tr.join a b) → Q z H'
def sp_law_core (K : PySem.W.Frag) (k : Nat) : Sp := fun vs H Q _ => ∃ (u v : V) (a b : Tr), vs = [u, v] ∧ PT H u a ∧ PT H v b ∧ Tr.hgt a < k ∧ Tr.hgt a ≤ 62 ∧ Tr.hgt b ≤ 62 ∧ ∀ z H', Same H H' → PT H' z (Tr.meet a b) → Q z H'
end
inductive PTs (H : Hp) : List V → List Tr → Prop
  | nil : PTs H [] []
  | cons {v : V} {t : Tr} {vs : List V} {ts : List Tr} : PT H v t → PTs H vs ts → PTs H (v :: vs) (t :: ts)
theorem PTs.same {H H' : Hp} (s : Same H H') : ∀ {vs : List V} {ts : List Tr}, PTs H vs ts → PTs H' vs ts
  | _, _, .nil => .nil
  | _, _, .cons a b => .cons (a.same s) (PTs.same s b)
theorem PTs.keep {H H' : Hp} {g : Addr} {ws : List V} (s : Keep g H H') (hg : H g = some (.lst ws)) : ∀ {vs : List V} {ts : List Tr}, PTs H vs ts → PTs H' vs ts
  | _, _, .nil => .nil
  | _, _, .cons a b => .cons (a.keep s hg) (PTs.keep s hg b)
theorem PTs.length {H : Hp} : ∀ {vs : List V} {ts : List Tr}, PTs H vs ts → vs.length = ts.length
  | _, _, .nil => rfl
  | _, _, .cons _ b => congrArg Nat.succ (PTs.length b)
theorem PTs.append {H : Hp} : ∀ {vs : List V} {ts : List Tr} {us : List V} {rs : List Tr}, PTs H vs ts → PTs H us rs → PTs H (vs ++ us) (ts ++ rs)
  | _, _, _, _, .nil, b => b
  | _, _, _, _, .cons a c, b => .cons a (PTs.append c b)
section
variable {K : PySem.W.Frag} {mg : Str → Option Value}
def sp_law_filled (K : PySem.W.Frag) (k : Nat) : Sp := fun vs H Q _ => ∃ (v : V) (a : Addr) (t : Tr) (ws : List V) (xs : List Tr), vs = [v, .ref a] ∧ PT H v t ∧ Tr.hgt t < k ∧ Tr.hgt t ≤ 62 ∧ H a = some (.lst ws) ∧ PTs H ws xs ∧ t.lvs ≤ xs.length ∧ xs.length ≤ 100000 ∧
  ∀ z ws' H', Keep a H H' → H' a = some (.lst ws') → PTs H' ws' (t.growR xs).2 → PT H' z (t.growR xs).1 → Q z H'
def sp_law_hanging (K : PySem.W.Frag) (k : Nat) : Sp := fun vs H Q _ => ∃ (u v : V) (s c : Tr), vs = [u, v] ∧ PT H u s ∧ PT H v c ∧ Tr.hgt c < k ∧ Tr.hgt c ≤ 62 ∧ Tr.hgt s ≤ 62 ∧ c.size ≤ 2000 ∧ (Tr.hang s c = none → ∀ H', Same H H' → Q .non H') ∧
  ∀ xs, Tr.hang s c = some xs → ∀ p ws H', Same H H' → H p = none → H' p = some (.lst ws) → PTs H' ws xs → Q (.ref p) H'
def sp_law_pair_right (T : Txt K mg) : Sp := fun vs H Q _ => ∃ (a b : Tr), vs = [trV a, trV b] ∧ a.size ≤ 500 ∧ b.size ≤ 500 ∧ Tr.hgt a ≤ 62 ∧ Tr.hgt b ≤ 62 ∧ ∀ H', Same H H' → Q (.bl true) H'
/-- a value that can be shown -/
structure Good (H : Hp) (y : V) (d : PyData) : Prop where
  dv : DV H d.hasDict y d
  sh : d.showable = true
  dp : d.depth ≤ 20
  ln : d.shown.length ≤ 1000000
def sp_law_caught (T : Txt K mg) : Sp := fun vs H Q _ => ∃ (t : Tr) (v : V) (d : PyData), vs = [trV t, v] ∧ t.size ≤ 500 ∧ BadL K H t v ∧ Good H v d ∧
  (((∃ ty, TyX K H v ty ∧ PySem.W.kitOne K ty (.type "list") = some false) ∧ ∀ H', Same H H' → Q (.bl true) H') ∨ (∃ a ws, v = .ref a ∧ H a = some (.lst ws) ∧ ws.length ≤ 100000 ∧ ∀ H', Keep a H H' → Q (.bl true) H'))
def sp_law_no_tree (T : Txt K mg) : Sp := fun vs H Q _ => ∃ (n : Nat) (u v b : V) (d : PyData), vs = [.int (n : Nat), u, v, b] ∧ n < 4 ∧ NotTree K H b ∧ Good H b d ∧ (u = b ∨ (1 ≤ n ∧ v = b ∧ ∃ t : Tr, u = trV t ∧ t.size ≤ 500)) ∧ ∀ H', Same H H' → Q (.bl true) H'
def sp_law_refused (T : Txt K mg) : Sp := fun vs H Q _ => ∃ t : Tr, vs = [trV t] ∧ t.size ≤ 400 ∧ ∀ H', Same H H' → Q (.bl true) H'
def sp_law_great_right (K : PySem.W.Frag) : Sp := fun vs H Q _ => ∃ (g : Addr) (n : Nat), vs = [.ref g] ∧ GenAt H g n ∧ n ≤ 1000000000000 ∧ ∀ H', Q (.bl true) H'
def sp_law (K : PySem.W.Frag) : Sp := fun vs H Q _ => ∃ (a : Addr) (ns : List Int), vs = [.ref a] ∧ SqL K H a (ns.map V.int) ∧ ns.length ≤ 63 ∧ ∀ H', Q (.bl true) H'
end

section
variable {P : Program} {w : World} {K : PySem.W.Frag} {mg : Str → Option Value} {base : Heap}
theorem isT_nil (st : List Str) : isT [] st = st.isEmpty := rfl
theorem isT_open {c : Nat} {cs : List Nat} {st : List Str} {wd : Str} {st' : List Str} (hw : st.headD "end" = wd) (ht : st.tail = st') (h : wd = "tree" ∧ S [c] = "(") : isT (c :: cs) st = isT cs ("tree" :: "tree" :: ")" :: st') := by
  subst hw; subst ht
  show (if _ then _ else _) = _
  rw [if_pos h]
theorem isT_bad {c : Nat} {cs : List Nat} {st : List Str} {wd : Str} (hw : st.headD "end" = wd) (h : ¬ (wd = "tree" ∧ S [c] = "(")) (h2 : wd ≠ S [c] ∧ ¬ (wd = "tree" ∧ S [c] = ".")) : isT (c :: cs) st = false := by
  subst hw
  show (if _ then _ else _) = _
  rw [if_neg h, if_pos h2]
theorem isT_on {c : Nat} {cs : List Nat} {st : List Str} {wd : Str} {st' : List Str} (hw : st.headD "end" = wd) (ht : st.tail = st') (h : ¬ (wd = "tree" ∧ S [c] = "(")) (h2 : ¬ (wd ≠ S [c] ∧ ¬ (wd = "tree" ∧ S [c] = "."))) : isT (c :: cs) st = isT cs st' := by
  subst hw; subst ht
  show (if _ then _ else _) = _
  rw [if_neg h, if_neg h2]
theorem ok_is_tree (T : Txt K mg) : FnOk P w K mg base CX0 1 T.a_is_tree T.fd_is_tree ["value"] (sp_is_tree K) := by
  refine T.F_is_tree.ok sc_is_tree (fun vs H Q E h => ?_) (fun cdv A outer s H vs Q E hr h => ?_)
  · obtain ⟨v, rfl, _⟩ := h; rfl
  obtain ⟨v, rfl, h⟩ := h
  refine ⟨_, (pss_cons (ps_if (pt_not (pt_val (pe_callB call_isi (by rfl) T.z_isinstance (by decide +kernel) (pa_cons (pv 0) (pa_cons (pe_bltn (v := .ty "str") (by rfl) T.z_str (by decide +kernel) rfl) pa_nil))))) (pss_one (ps_ret pe_bl)) pss_nil)
    (pss_cons (ps_set (i := 1) sc_is_tree.nd rfl (by first | exact Or.inl rfl | exact Or.inr rfl) (pe_lst (pa_cons pe_str pa_nil)))
    (pss_cons (ps_for PassesOwn.never rfl (pi_str (pv 0)) (pg_name (i := 2) sc_is_tree.nd rfl (by first | exact Or.inl rfl | exact Or.inr rfl)) (pss_cons (ps_set (i := 3) sc_is_tree.nd rfl (by first | exact Or.inl rfl | exact Or.inr rfl) (pe_ifExp (pt_truth (pv 1) (fun _ => rfl)) (pe_bm0 PySem.F.plainAttrs_list PySem.F.slot_list_pop PySem.F.type_list_pop mt_pop (pv 1)) pe_str))
    (pss_one (ps_if (pw_and (pt_cmpR op_eq (pv 3) pe_str (nomark _)) (pw_and1 (pt_cmpR op_eq (pv 2) pe_str (nomark _)))).pt (pss_one (ps_expr (pe_bm PySem.F.plainAttrs_list PySem.F.slot_list_extend PySem.F.type_list_extend mt_extend (pv 1) (pa_cons (pe_lst (pa_cons pe_str (pa_cons pe_str (pa_cons pe_str pa_nil)))) pa_nil)))) (pss_one (ps_if (pw_and (pt_cmpR op_ne (pv 3) (pv 2) (nomark _)) (pw_and1 (pt_not (pw_and (pt_cmpR op_eq (pv 3) pe_str (nomark _)) (pw_and1 (pt_cmpR op_eq (pv 2) pe_str (nomark _)))).pt))).pt (pss_one (ps_ret pe_bl)) pss_nil))))))
    (pss_one (ps_ret (pe_notT (pv 1))))))), ?_⟩
  rcases h with ⟨x, rfl, hx, q⟩ | ⟨⟨t, ht, hk⟩, q⟩
  · simp only [cxOf_K, tAsg2, tYes, wipe, tSeq, tIfS, tNot, tB, tCB, tCons, tNil, tVar, tC, tTest, tOp, tAnd, tOr, tAsg, gName, tRet, tRetN, tDrop, tNext, tIf, tCall, tTup, tLst, tNotV, tAndV, tOrV, tUn, rI0, rI, rU, rEq, rNe, tM1, tM0, tBM, tBM0, tSl, tPart, tNoPart, iStr, iEnumS, iRng1, iRng2, iList, gSub, tBits, tAug, tPar, L2.start, List.map_cons, List.map_nil, List.length_cons, List.length_nil, List.getElem?_cons_zero, List.getElem?_cons_succ, List.cons_append, List.nil_append, List.append_nil, List.set_cons_zero, List.set_cons_succ, List.replicate_succ, List.replicate_zero, Option.some.injEq, exists_eq_left', V.int.injEq, V.str.injEq, V.ref.injEq, V.bl.injEq, exists_and_left, exists_eq_left, List.cons.injEq, and_true, true_and, tCallX, tRs]
    refine ⟨_, _, _, _, true, rfl, .ty _, .base (.str x), kit_ty (by decide +kernel), _, rfl, ?_⟩
    refine ⟨by decide, fun p hp => ⟨_, rfl, x, rfl, for_str (fun i σ H' => ∃ (st : List Str) (a2 a3 : Option V), σ = [some (.str x), some (.ref p), a2, a3] ∧ Same H H' ∧ H' p = some (.lst (st.reverse.map V.str)) ∧
      isT (x.cps.toList.drop i) st = isT x.cps.toList ["tree"] ∧ st.length ≤ 1 + 2 * i) ⟨_, none, none, rfl, (L2.Same.refl H).new hp _, upd_same, rfl, by decide⟩ ?_ ?_⟩⟩
    · rintro i c σ H' hc ⟨st, a2, a3, rfl, s0, hl, he, hn⟩
      have hi : i < x.cps.size := (Array.getElem?_eq_some_iff.mp hc).1
      have hxl : x.cps.size = x.length := rfl
      have hd : x.cps.toList.drop i = c :: x.cps.toList.drop (i + 1) := by
        rw [List.drop_eq_getElem_cons (by simpa using hi)]
        congr 1
        have := (Array.getElem?_eq_some_iff.mp hc).2
        simpa using this
      rw [hd] at he
      simp only [cxOf_K, tAsg2, tYes, wipe, tSeq, tIfS, tNot, tB, tCB, tCons, tNil, tVar, tC, tTest, tOp, tAnd, tOr, tAsg, gName, tRet, tRetN, tDrop, tNext, tIf, tCall, tTup, tLst, tNotV, tAndV, tOrV, tUn, rI0, rI, rU, rEq, rNe, tM1, tM0, tBM, tBM0, tSl, tPart, tNoPart, iStr, iEnumS, iRng1, iRng2, iList, gSub, tBits, tAug, tPar, L2.start, List.map_cons, List.map_nil, List.length_cons, List.length_nil, List.getElem?_cons_zero, List.getElem?_cons_succ, List.cons_append, List.nil_append, List.append_nil, List.set_cons_zero, List.set_cons_succ, List.replicate_succ, List.replicate_zero, Option.some.injEq, exists_eq_left', V.int.injEq, V.str.injEq, V.ref.injEq, V.bl.injEq, exists_and_left, exists_eq_left, List.cons.injEq, and_true, true_and, tCallX, tRs]
      have hS : ({ cps := #[c] } : Str) = S [c] := rfl
      rcases st with _ | ⟨w0, st⟩
      · refine ⟨false, .inl ⟨_, SqL.of hl, rfl⟩, ?_⟩
        rw [if_neg Bool.false_ne_true]
        obtain ⟨st0, hst0⟩ : ∃ st0 : List Str, st0 = [] := ⟨_, rfl⟩
        replace he : isT (c :: x.cps.toList.drop (i + 1)) st0 = isT x.cps.toList ["tree"] := by rw [hst0]; exact he
        obtain ⟨wd, hwd⟩ : ∃ wd, wd = Str.ofString "end" := ⟨_, rfl⟩
        rw [← hwd]
        obtain ⟨st', hst'⟩ : ∃ st' : List Str, st' = [] := ⟨_, rfl⟩
        have hw : st0.headD "end" = wd := by rw [hst0, hwd]; rfl
        have ht : st0.tail = st' := by rw [hst0, hst']; rfl
        have hn' : st'.length ≤ 2 * i := by rw [hst']; exact Nat.zero_le _
        rw [← hst'] at hl
        try simp only [V.str.injEq]
        refine ⟨rfl, ?_⟩
        have yes : wd = "tree" → S [c] = "(" → ∀ l, H' l = none → ∃ st2 a2 a3, (some (V.str ⟨#[c]⟩) = a2 ∧ some (V.str wd) = a3) ∧ Same H (upd (upd H' l (.lst [.str ")", .str "tree", .str "tree"])) p (.lst (st'.reverse.map V.str ++ [.str ")", .str "tree", .str "tree"]))) ∧
            upd (upd H' l (.lst [.str ")", .str "tree", .str "tree"])) p (.lst (st'.reverse.map V.str ++ [.str ")", .str "tree", .str "tree"])) p = some (.lst (List.map V.str st2.reverse)) ∧ isT (x.cps.toList.drop (i + 1)) st2 = isT x.cps.toList ["tree"] ∧ st2.length ≤ 1 + 2 * (i + 1) := fun h1 h2 l hl' => by
          refine ⟨"tree" :: "tree" :: ")" :: st', _, _, ⟨rfl, rfl⟩, ((s0.new (s0.free hl') _).new hp _), ?_, ?_, ?_⟩
          · rw [upd_same]; simp
          · rw [← he, isT_open hw ht ⟨h1, h2⟩]
          · simp only [List.length_cons]; omega
        have no : ¬ (wd = "tree" ∧ S [c] = "(") → (if (!decide (wd = S [c])) = true then scal (V.str wd) (V.str "tree") = true ∧ (if decide (wd = "tree") = true then scal (V.str (S [c])) (V.str ".") = true ∧ (if (!decide (S [c] = ".")) = true then Q (V.bl false) H' else
              ∃ st2 a2 a3, (some (V.str ⟨#[c]⟩) = a2 ∧ some (V.str wd) = a3) ∧ Same H H' ∧ H' p = some (.lst (List.map V.str st2.reverse)) ∧ isT (x.cps.toList.drop (i + 1)) st2 = isT x.cps.toList ["tree"] ∧ st2.length ≤ 1 + 2 * (i + 1))
              else if (!false) = true then Q (V.bl false) H' else ∃ st2 a2 a3, (some (V.str ⟨#[c]⟩) = a2 ∧ some (V.str wd) = a3) ∧ Same H H' ∧ H' p = some (.lst (List.map V.str st2.reverse)) ∧ isT (x.cps.toList.drop (i + 1)) st2 = isT x.cps.toList ["tree"] ∧ st2.length ≤ 1 + 2 * (i + 1))
            else if false = true then Q (V.bl false) H' else ∃ st2 a2 a3, (some (V.str ⟨#[c]⟩) = a2 ∧ some (V.str wd) = a3) ∧ Same H H' ∧ H' p = some (.lst (List.map V.str st2.reverse)) ∧ isT (x.cps.toList.drop (i + 1)) st2 = isT x.cps.toList ["tree"] ∧ st2.length ≤ 1 + 2 * (i + 1)) := fun hno => by
          have bad : wd ≠ S [c] → ¬ (wd = "tree" ∧ S [c] = ".") → Q (V.bl false) H' := fun h1 h2 => by
            rw [isT_bad hw hno ⟨h1, h2⟩] at he
            rw [he]; exact q _ s0
          have good : ¬ (wd ≠ S [c] ∧ ¬ (wd = "tree" ∧ S [c] = ".")) → ∃ st2 a2 a3, (some (V.str ⟨#[c]⟩) = a2 ∧ some (V.str wd) = a3) ∧ Same H H' ∧ H' p = some (.lst (List.map V.str st2.reverse)) ∧ isT (x.cps.toList.drop (i + 1)) st2 = isT x.cps.toList ["tree"] ∧ st2.length ≤ 1 + 2 * (i + 1) := fun h => by
            rw [isT_on hw ht hno h] at he
            exact ⟨st', _, _, ⟨rfl, rfl⟩, s0, hl, he, by omega⟩
          by_cases e1 : wd = S [c]
          · rw [if_neg (by simp [e1]), if_neg Bool.false_ne_true]
            exact good (fun h => h.1 e1)
          · rw [if_pos (by simp [e1])]
            refine ⟨rfl, ?_⟩
            by_cases e2 : wd = "tree"
            · rw [if_pos (decide_eq_true e2)]
              refine ⟨rfl, ?_⟩
              by_cases e3 : S [c] = "."
              · rw [if_neg (by simp [e3])]
                exact good (fun h => h.2 ⟨e2, e3⟩)
              · rw [if_pos (by simp [e3])]
                exact bad e1 (fun h => e3 h.2)
            · rw [if_neg (by simp [e2]), if_pos (show (!false) = true from rfl)]
              exact bad e1 (fun h => e2 h.1)
        by_cases h1 : wd = "tree"
        · rw [if_pos (decide_eq_true h1)]
          refine ⟨rfl, ?_⟩
          by_cases h2 : S [c] = "("
          · rw [if_pos (decide_eq_true h2)]
            refine ⟨tyV_lst hl, by decide, fun l hl' => ⟨p, l, st'.reverse.map V.str, _, rfl, rfl, ?_, upd_same, ?_, ?_⟩⟩
            · rw [upd_ne (ne_of_none hl hl')]; exact hl
            · simp only [List.length_map, List.length_reverse, List.length_cons, List.length_nil]
              exact small5 (by omega)
            · exact yes h1 h2 l hl'
          · rw [if_neg (by simp only [decide_eq_true_eq]; exact h2)]
            exact ⟨rfl, no (fun h => h2 h.2)⟩
        · rw [if_neg (by simp only [decide_eq_true_eq]; exact h1), if_neg Bool.false_ne_true]
          exact ⟨rfl, no (fun h => h1 h.1)⟩
      · refine ⟨true, .inl ⟨_, SqL.of hl, by simp⟩, ?_⟩
        rw [if_pos rfl]
        refine ⟨tyV_lst hl, p, _, .str w0, rfl, rfl, hl, by simp, ?_⟩
        have hl' : (upd H' p (.lst ((List.map V.str (w0 :: st).reverse).dropLast))) p = some (.lst (st.reverse.map V.str)) := by
          rw [upd_same]; simp
        have s0' := s0.new hp (.lst ((List.map V.str (w0 :: st).reverse).dropLast))
        generalize upd H' p (.lst ((List.map V.str (w0 :: st).reverse).dropLast)) = H' at hl' s0' ⊢
        replace hl := hl'
        replace s0 := s0'
        have hn' : st.length ≤ 2 * i := by simp only [List.length_cons] at hn; omega
        obtain ⟨st0, hst0⟩ : ∃ st0 : List Str, st0 = w0 :: st := ⟨_, rfl⟩
        rw [← hst0] at he
        have hw : st0.headD "end" = w0 := by rw [hst0]; rfl
        have ht : st0.tail = st := by rw [hst0]; rfl
        obtain ⟨wd, hwd⟩ : ∃ wd, wd = w0 := ⟨_, rfl⟩
        rw [← hwd] at hw ⊢
        obtain ⟨st', hst'⟩ : ∃ st' : List Str, st' = st := ⟨_, rfl⟩
        rw [← hst'] at ht hl hn'
        try simp only [V.str.injEq]
        refine ⟨rfl, ?_⟩
        have yes : wd = "tree" → S [c] = "(" → ∀ l, H' l = none → ∃ st2 a2 a3, (some (V.str ⟨#[c]⟩) = a2 ∧ some (V.str wd) = a3) ∧ Same H (upd (upd H' l (.lst [.str ")", .str "tree", .str "tree"])) p (.lst (st'.reverse.map V.str ++ [.str ")", .str "tree", .str "tree"]))) ∧
            upd (upd H' l (.lst [.str ")", .str "tree", .str "tree"])) p (.lst (st'.reverse.map V.str ++ [.str ")", .str "tree", .str "tree"])) p = some (.lst (List.map V.str st2.reverse)) ∧ isT (x.cps.toList.drop (i + 1)) st2 = isT x.cps.toList ["tree"] ∧ st2.length ≤ 1 + 2 * (i + 1) := fun h1 h2 l hl' => by
          refine ⟨"tree" :: "tree" :: ")" :: st', _, _, ⟨rfl, rfl⟩, ((s0.new (s0.free hl') _).new hp _), ?_, ?_, ?_⟩
          · rw [upd_same]; simp
          · rw [← he, isT_open hw ht ⟨h1, h2⟩]
          · simp only [List.length_cons]; omega
        have no : ¬ (wd = "tree" ∧ S [c] = "(") → (if (!decide (wd = S [c])) = true then scal (V.str wd) (V.str "tree") = true ∧ (if decide (wd = "tree") = true then scal (V.str (S [c])) (V.str ".") = true ∧ (if (!decide (S [c] = ".")) = true then Q (V.bl false) H' else
              ∃ st2 a2 a3, (some (V.str ⟨#[c]⟩) = a2 ∧ some (V.str wd) = a3) ∧ Same H H' ∧ H' p = some (.lst (List.map V.str st2.reverse)) ∧ isT (x.cps.toList.drop (i + 1)) st2 = isT x.cps.toList ["tree"] ∧ st2.length ≤ 1 + 2 * (i + 1))
              else if (!false) = true then Q (V.bl false) H' else ∃ st2 a2 a3, (some (V.str ⟨#[c]⟩) = a2 ∧ some (V.str wd) = a3) ∧ Same H H' ∧ H' p = some (.lst (List.map V.str st2.reverse)) ∧ isT (x.cps.toList.drop (i + 1)) st2 = isT x.cps.toList ["tree"] ∧ st2.length ≤ 1 + 2 * (i + 1))
            else if false = true then Q (V.bl false) H' else ∃ st2 a2 a3, (some (V.str ⟨#[c]⟩) = a2 ∧ some (V.str wd) = a3) ∧ Same H H' ∧ H' p = some (.lst (List.map V.str st2.reverse)) ∧ isT (x.cps.toList.drop (i + 1)) st2 = isT x.cps.toList ["tree"] ∧ st2.length ≤ 1 + 2 * (i + 1)) := fun hno => by
          have bad : wd ≠ S [c] → ¬ (wd = "tree" ∧ S [c] = ".") → Q (V.bl false) H' := fun h1 h2 => by
            rw [isT_bad hw hno ⟨h1, h2⟩] at he
            rw [he]; exact q _ s0
          have good : ¬ (wd ≠ S [c] ∧ ¬ (wd = "tree" ∧ S [c] = ".")) → ∃ st2 a2 a3, (some (V.str ⟨#[c]⟩) = a2 ∧ some (V.str wd) = a3) ∧ Same H H' ∧ H' p = some (.lst (List.map V.str st2.reverse)) ∧ isT (x.cps.toList.drop (i + 1)) st2 = isT x.cps.toList ["tree"] ∧ st2.length ≤ 1 + 2 * (i + 1) := fun h => by
            rw [isT_on hw ht hno h] at he
            exact ⟨st', _, _, ⟨rfl, rfl⟩, s0, hl, he, by omega⟩
          by_cases e1 : wd = S [c]
          · rw [if_neg (by simp [e1]), if_neg Bool.false_ne_true]
            exact good (fun h => h.1 e1)
          · rw [if_pos (by simp [e1])]
            refine ⟨rfl, ?_⟩
            by_cases e2 : wd = "tree"
            · rw [if_pos (decide_eq_true e2)]
              refine ⟨rfl, ?_⟩
              by_cases e3 : S [c] = "."
              · rw [if_neg (by simp [e3])]
                exact good (fun h => h.2 ⟨e2, e3⟩)
              · rw [if_pos (by simp [e3])]
                exact bad e1 (fun h => e3 h.2)
            · rw [if_neg (by simp [e2]), if_pos (show (!false) = true from rfl)]
              exact bad e1 (fun h => e2 h.1)
        by_cases h1 : wd = "tree"
        · rw [if_pos (decide_eq_true h1)]
          refine ⟨rfl, ?_⟩
          by_cases h2 : S [c] = "("
          · rw [if_pos (decide_eq_true h2)]
            refine ⟨tyV_lst hl, by decide, fun l hl' => ⟨p, l, st'.reverse.map V.str, _, rfl, rfl, ?_, upd_same, ?_, ?_⟩⟩
            · rw [upd_ne (ne_of_none hl hl')]; exact hl
            · simp only [List.length_map, List.length_reverse, List.length_cons, List.length_nil]
              exact small5 (by omega)
            · exact yes h1 h2 l hl'
          · rw [if_neg (by simp only [decide_eq_true_eq]; exact h2)]
            exact ⟨rfl, no (fun h => h2 h.2)⟩
        · rw [if_neg (by simp only [decide_eq_true_eq]; exact h1), if_neg Bool.false_ne_true]
          exact ⟨rfl, no (fun h => h1 h.1)⟩
    · rintro σ H' ⟨st, a2, a3, rfl, s0, hl, he, hn⟩
      have : x.cps.toList.drop x.cps.size = [] := List.drop_eq_nil_of_le (by simp)
      rw [this, isT_nil] at he
      simp only [cxOf_K, tAsg2, tYes, wipe, tSeq, tIfS, tNot, tB, tCB, tCons, tNil, tVar, tC, tTest, tOp, tAnd, tOr, tAsg, gName, tRet, tRetN, tDrop, tNext, tIf, tCall, tTup, tLst, tNotV, tAndV, tOrV, tUn, rI0, rI, rU, rEq, rNe, tM1, tM0, tBM, tBM0, tSl, tPart, tNoPart, iStr, iEnumS, iRng1, iRng2, iList, gSub, tBits, tAug, tPar, L2.start, List.map_cons, List.map_nil, List.length_cons, List.length_nil, List.getElem?_cons_zero, List.getElem?_cons_succ, List.cons_append, List.nil_append, List.append_nil, List.set_cons_zero, List.set_cons_succ, List.replicate_succ, List.replicate_zero, Option.some.injEq, exists_eq_left', V.int.injEq, V.str.injEq, V.ref.injEq, V.bl.injEq, exists_and_left, exists_eq_left, List.cons.injEq, and_true, true_and, tCallX, tRs, tNotT]
      refine ⟨!st.isEmpty, .inl ⟨_, SqL.of hl, by simp⟩, ?_⟩
      rw [Bool.not_not, he]
      exact q _ s0
  · simp only [cxOf_K, tAsg2, tYes, wipe, tSeq, tIfS, tNot, tB, tCB, tCons, tNil, tVar, tC, tTest, tOp, tAnd, tOr, tAsg, gName, tRet, tRetN, tDrop, tNext, tIf, tCall, tTup, tLst, tNotV, tAndV, tOrV, tUn, rI0, rI, rU, rEq, rNe, tM1, tM0, tBM, tBM0, tSl, tPart, tNoPart, iStr, iEnumS, iRng1, iRng2, iList, gSub, tBits, tAug, tPar, L2.start, List.map_cons, List.map_nil, List.length_cons, List.length_nil, List.getElem?_cons_zero, List.getElem?_cons_succ, List.cons_append, List.nil_append, List.append_nil, List.set_cons_zero, List.set_cons_succ, List.replicate_succ, List.replicate_zero, Option.some.injEq, exists_eq_left', V.int.injEq, V.str.injEq, V.ref.injEq, V.bl.injEq, exists_and_left, exists_eq_left, List.cons.injEq, and_true, true_and, tCallX, tRs]
    exact ⟨_, _, _, _, false, rfl, .ty _, ht, hk, _, rfl, q⟩

theorem lit_ne (c : Nat) : ("tree" : Str) ≠ S [c] := by
  intro h
  rw [lit_tree] at h
  have := S_inj h
  simp at this
theorem isT_tree : ∀ (t : Tr) (rest : List Nat) (st : List Str), isT (t.cs ++ rest) ("tree" :: st) = isT rest st
  | .leaf, rest, st => by
    show isT (46 :: rest) ("tree" :: st) = _
    refine isT_on (st := "tree" :: st) (wd := "tree") rfl rfl (fun h => ?_) (fun h => h.2 ⟨rfl, lit_dot.symm⟩)
    have := h.2
    rw [lit_open] at this
    have := S_inj this
    simp at this
  | .node l r, rest, st => by
    show isT (40 :: ((l.cs ++ (r.cs ++ [41])) ++ rest)) ("tree" :: st) = _
    rw [isT_open (st := "tree" :: st) (wd := "tree") (st' := st) rfl rfl ⟨rfl, lit_open.symm⟩, List.append_assoc, isT_tree l, List.append_assoc, isT_tree r]
    show isT (41 :: ([] ++ rest)) (")" :: st) = _
    rw [isT_on (st := ")" :: st) (wd := ")") (st' := st) rfl rfl]
    · rfl
    · intro h; exact absurd h.1 (by decide +kernel)
    · intro h; exact h.1 lit_close
theorem isT_text (t : Tr) : isT t.cs ["tree"] = true := by
  have := isT_tree t [] []
  rw [List.append_nil] at this
  rw [this]; rfl
theorem tr_len {t : Tr} (h : t.size ≤ 2000) : t.cs.length ≤ 6001 := by rw [Tr.cs_length, Tr.len_size]; omega
theorem ok_check_tree (T : Txt K mg) : FnOk P w K mg base (L2.CX P w) 3 T.a_check_tree T.fd_check_tree ["value"] (sp_check_tree T) := by
  refine T.F_check_tree.okX sc_check_tree (fun vs H Q E h => ?_) (fun cdv A outer s H vs Q E hr h => ?_)
  · obtain ⟨v, rfl, _⟩ := h; rfl
  obtain ⟨v, rfl, h⟩ := h
  refine ⟨_, (pss_one (ps_if (pt_not (pt_val (pe_call (ok_is_tree T) (hr.mono (by first | decide | omega)) (by rfl) T.m_is_tree T.F_is_tree.kp T.b_is_tree .nil pass0 (pa_cons (pv 0) pa_nil)))) (pss_one (ps_raise rfl (takes_of rfl rfl rfl rfl) (pmk_err T.o_InvalidTree (hr.mono (by first | decide | omega)) (by rfl) (pv 0)))) pss_nil)), ?_⟩
  simp only [cxOf_K, tAsg2, tYes, wipe, tSeq, tIfS, tNot, tB, tCB, tCons, tNil, tVar, tC, tTest, tOp, tAnd, tOr, tAsg, gName, tRet, tRetN, tDrop, tNext, tIf, tCall, tTup, tLst, tNotV, tAndV, tOrV, tUn, rI0, rI, rU, rEq, rNe, tM1, tM0, tBM, tBM0, tSl, tPart, tNoPart, iStr, iEnumS, iRng1, iRng2, iList, gSub, tBits, tAug, tPar, L2.start, List.map_cons, List.map_nil, List.length_cons, List.length_nil, List.getElem?_cons_zero, List.getElem?_cons_succ, List.cons_append, List.nil_append, List.append_nil, List.set_cons_zero, List.set_cons_succ, List.replicate_succ, List.replicate_zero, Option.some.injEq, exists_eq_left', V.int.injEq, V.str.injEq, V.ref.injEq, V.bl.injEq, exists_and_left, exists_eq_left, List.cons.injEq, and_true, true_and, tCallX, tRs]
  rcases h with ⟨t, rfl, ht, q⟩ | ⟨nt, out⟩
  · refine ⟨_, rfl, .inl ⟨_, rfl, by rw [S_len]; have := tr_len ht; omega, fun H' s0 => ?_⟩⟩
    refine ⟨true, by rw [← isT_text t], ?_⟩
    exact iteF (q _ s0)
  · rcases nt with ⟨x, rfl, hx, e⟩ | ns
    · refine ⟨_, rfl, .inl ⟨x, rfl, hx, fun H' s0 => ⟨false, by rw [e], ?_⟩⟩⟩
      rw [if_pos (show (!false) = true from rfl)]
      exact fun d H2 s2 n e2 => out d H2 (s0.trans s2) (s0.free n) e2
    · refine ⟨v, rfl, .inr ⟨ns, false, rfl, ?_⟩⟩
      rw [if_pos (show (!false) = true from rfl)]
      exact out

abbrev nV (n : Nat) : V := .int (n : Nat)
theorem ok_ends (T : Txt K mg) : FnOk P w K mg base CX0 1 T.a_ends T.fd_ends ["tree"] (sp_ends K) := by
  refine T.F_ends.ok sc_ends (fun vs H Q E h => ?_) (fun cdv A outer s H vs Q E hr h => ?_)
  · obtain ⟨t, rfl, _⟩ := h; rfl
  obtain ⟨t, rfl, ht, q⟩ := h
  have hcl := tr_len ht
  have hS : (S t.cs).length = t.len := by rw [S_len, Tr.cs_length]
  have hsz : (S t.cs).cps.size = t.len := hS
  have htl : t.len ≤ 6001 := by rw [← Tr.cs_length]; exact hcl
  refine ⟨_, (pss_cons (ps_set (i := 1) sc_ends.nd rfl (by first | exact Or.inl rfl | exact Or.inr rfl) (pe_op op_rep (pe_lst (pa_cons pe_int pa_nil)) (pe_callB call_len_str (by rfl) T.z_len PySem.boot_len (pa_cons (pv 0) pa_nil))))
    (pss_cons (ps_set (i := 2) sc_ends.nd rfl (by first | exact Or.inl rfl | exact Or.inr rfl) (pe_lst pa_nil))
    (pss_cons (ps_for PassesOwn.never rfl (pi_enumS (by rfl) T.z_enumerate (pa_cons (pv 0) pa_nil)) (pg_tup rfl (pgs_cons (pg_name (i := 3) sc_ends.nd rfl (by first | exact Or.inl rfl | exact Or.inr rfl)) (pgs_cons (pg_name (i := 4) sc_ends.nd rfl (by first | exact Or.inl rfl | exact Or.inr rfl)) pgs_nil))) (pss_one (ps_if (pt_cmpR op_eq (pv 4) pe_str (nomark _)) (pss_one (ps_expr (pe_bm PySem.F.plainAttrs_list PySem.F.slot_list_append PySem.F.type_list_append mt_append (pv 2) (pa_cons (pv 3) pa_nil)))) (pss_one (ps_if (pt_cmpR op_eq (pv 4) pe_str (nomark _)) (pss_one (ps_asg (pe_op op_add (pv 3) pe_int) (pg_sub (pv 1) (pe_bm0 PySem.F.plainAttrs_list PySem.F.slot_list_pop PySem.F.type_list_pop mt_pop (pv 2)) set_list))) (pss_one (ps_asg (pe_op op_add (pv 3) pe_int) (pg_sub (pv 1) (pv 3) set_list))))))))
    (pss_one (ps_ret (pv 1)))))), ?_⟩
  simp only [cxOf_K, tAsg2, tYes, wipe, tSeq, tIfS, tNot, tB, tCB, tCons, tNil, tVar, tC, tTest, tOp, tAnd, tOr, tAsg, gName, tRet, tRetN, tDrop, tNext, tIf, tCall, tTup, tLst, tNotV, tAndV, tOrV, tUn, rI0, rI, rU, rEq, rNe, tM1, tM0, tBM, tBM0, tSl, tPart, tNoPart, iStr, iEnumS, iRng1, iRng2, iList, gSub, tBits, tAug, tPar, L2.start, List.map_cons, List.map_nil, List.length_cons, List.length_nil, List.getElem?_cons_zero, List.getElem?_cons_succ, List.cons_append, List.nil_append, List.append_nil, List.set_cons_zero, List.set_cons_succ, List.replicate_succ, List.replicate_zero, Option.some.injEq, exists_eq_left', V.int.injEq, V.str.injEq, V.ref.injEq, V.bl.injEq, exists_and_left, exists_eq_left, List.cons.injEq, and_true, true_and, tCallX, tRs]
  refine ⟨by decide, fun z hz => ?_⟩
  refine ⟨by rw [hS]; exact small5 (by omega), z, _, [.int 0], rfl, rfl, upd_same, by omega, by rw [hS]; omega, by rw [hS]; simp; exact small5 (by omega), fun p hp => ?_⟩
  refine ⟨by decide, fun g hg => ?_⟩
  have npz : p ≠ z := fun e => by rw [e, upd_same] at hp; cases hp
  have hp0 : H p = none := by rw [upd_ne npz] at hp; exact hp
  have ngp : g ≠ p := fun e => by rw [e, upd_same] at hg; cases hg
  have hg0 : H g = none := by
    rw [upd_ne ngp] at hg
    by_cases e : g = z
    · rw [e]; exact hz
    · rw [upd_ne e] at hg; exact hg
  have hb : (List.replicate ((S t.cs).length : Int).toNat [V.int 0]).flatten = (List.replicate t.len 0).map nV := by
    rw [hS, Int.toNat_natCast]
    induction t.len with
    | zero => rfl
    | succ n ih => rw [List.replicate_succ, List.flatten_cons, ih, List.replicate_succ, List.map_cons]; rfl
  rw [hb]
  refine ⟨_, rfl, _, rfl, for_enumS (fun i σ H' => ∃ (b st : List Nat) (a3 a4 : Option V), σ = [some (trV t), some (.ref p), some (.ref g), a3, a4] ∧ Same H H' ∧ H' p = some (.lst (b.map nV)) ∧ H' g = some (.lst (st.reverse.map nV)) ∧
      endsRun (t.cs.drop i) i b st = some (Tr.ends 0 t) ∧ b.length = t.len ∧ st.length ≤ i) ⟨List.replicate t.len 0, [], none, none, rfl, (((L2.Same.refl H).new hz _).new hp0 _).new hg0 _, ?_, upd_same, ?_, ?_, ?_⟩ ?_ ?_⟩
  · rw [upd_ne ngp.symm, upd_same]
  · rw [List.drop_zero]; exact endsRun_text t
  · simp
  · simp
  · rintro i c σ H' d hc ⟨b, st, a3, a4, rfl, s0, h1, h2, he, hbl, hst⟩ hd
    have hi : i < t.len := by rw [← hsz]; exact (Array.getElem?_eq_some_iff.mp hc).1
    have hd' : t.cs.drop i = c :: t.cs.drop (i + 1) := by
      rw [List.drop_eq_getElem_cons (by rw [Tr.cs_length]; exact hi)]
      congr 1
      have := (Array.getElem?_eq_some_iff.mp hc).2
      simpa using this
    rw [hd'] at he
    have n1 : p ≠ d := ne_of_none h1 hd
    have n2 : g ≠ d := ne_of_none h2 hd
    have h1' : upd H' d (.tup [.int (i : Nat), .str ⟨#[c]⟩]) p = some (.lst (b.map nV)) := by rw [upd_ne n1]; exact h1
    have h2' : upd H' d (.tup [.int (i : Nat), .str ⟨#[c]⟩]) g = some (.lst (st.reverse.map nV)) := by rw [upd_ne n2]; exact h2
    refine ⟨d, _, rfl, SqT.of upd_same, rfl, _, _, rfl, _, _, rfl, rfl, ?_⟩
    have s1 := s0.new (s0.free hd) (.tup [.int (i : Nat), .str ⟨#[c]⟩])
    generalize upd H' d (.tup [.int (i : Nat), .str ⟨#[c]⟩]) = H' at h1' h2' s1 ⊢
    simp only [cxOf_K, tAsg2, tYes, wipe, tSeq, tIfS, tNot, tB, tCB, tCons, tNil, tVar, tC, tTest, tOp, tAnd, tOr, tAsg, gName, tRet, tRetN, tDrop, tNext, tIf, tCall, tTup, tLst, tNotV, tAndV, tOrV, tUn, rI0, rI, rU, rEq, rNe, tM1, tM0, tBM, tBM0, tSl, tPart, tNoPart, iStr, iEnumS, iRng1, iRng2, iList, gSub, tBits, tAug, tPar, L2.start, List.map_cons, List.map_nil, List.length_cons, List.length_nil, List.getElem?_cons_zero, List.getElem?_cons_succ, List.cons_append, List.nil_append, List.append_nil, List.set_cons_zero, List.set_cons_succ, List.replicate_succ, List.replicate_zero, Option.some.injEq, exists_eq_left', V.int.injEq, V.str.injEq, V.ref.injEq, V.bl.injEq, exists_and_left, exists_eq_left, List.cons.injEq, and_true, true_and, tCallX, tRs]
    refine ⟨rfl, ?_⟩
    rcases endsRun_step he with ⟨rfl, he'⟩ | ⟨rfl, o, st', rfl, ho, he'⟩ | ⟨c1, c2, hk, he'⟩
    · refine ifdT (sg_eq lit_open) ?_
      refine ⟨tyV_lst h2', g, _, _, rfl, rfl, h2', by simp; exact small5' (by omega), ?_⟩
      refine ⟨b, i :: st, _, _, ⟨rfl, rfl⟩, s1.new hg0 _, ?_, ?_, he', hbl, by simp; omega⟩
      · rw [upd_ne ngp.symm]; exact h1'
      · rw [upd_same]; simp
    · refine ifdF (sg_ne lit_open (by decide)) ?_
      refine ⟨rfl, ?_⟩
      refine ifdT (sg_eq lit_close) ?_
      refine ⟨tyV_lst h2', g, _, nV o, rfl, rfl, h2', by simp, ?_⟩
      have hdl : (List.map nV (o :: st').reverse).dropLast = st'.reverse.map nV := by simp
      rw [hdl]
      refine ⟨p, b.map nV, (o : Int), o, rfl, rfl, by rw [upd_ne ngp.symm]; exact h1', by rw [List.length_map]; exact ixN_nat ho, ?_⟩
      refine ⟨b.set o (i + 1), st', _, _, ⟨rfl, rfl⟩, (s1.new hg0 _).new hp0 _, ?_, ?_, he', by rw [List.length_set]; exact hbl, by simp at hst; omega⟩
      · rw [upd_same, List.map_set]; rfl
      · rw [upd_ne ngp, upd_same]
    · refine ifdF (sg_ne lit_open c1) ?_
      refine ⟨rfl, ?_⟩
      refine ifdF (sg_ne lit_close c2) ?_
      refine ⟨p, b.map nV, (i : Int), i, rfl, rfl, h1', by rw [List.length_map]; exact ixN_nat hk, ?_⟩
      refine ⟨b.set i (i + 1), st, _, _, ⟨rfl, rfl⟩, s1.new hp0 _, ?_, ?_, he', by rw [List.length_set]; exact hbl, by omega⟩
      · rw [upd_same, List.map_set]; rfl
      · rw [upd_ne ngp]; exact h2'
  · rintro σ H' ⟨b, st, a3, a4, rfl, s0, h1, h2, he, hbl, hst⟩
    rw [hsz, List.drop_eq_nil_of_le (by rw [Tr.cs_length]; exact Nat.le_refl _)] at he
    have he : (if st = [] then some b else none) = some (Tr.ends 0 t) := he
    simp only [cxOf_K, tAsg2, tYes, wipe, tSeq, tIfS, tNot, tB, tCB, tCons, tNil, tVar, tC, tTest, tOp, tAnd, tOr, tAsg, gName, tRet, tRetN, tDrop, tNext, tIf, tCall, tTup, tLst, tNotV, tAndV, tOrV, tUn, rI0, rI, rU, rEq, rNe, tM1, tM0, tBM, tBM0, tSl, tPart, tNoPart, iStr, iEnumS, iRng1, iRng2, iList, gSub, tBits, tAug, tPar, L2.start, List.map_cons, List.map_nil, List.length_cons, List.length_nil, List.getElem?_cons_zero, List.getElem?_cons_succ, List.cons_append, List.nil_append, List.append_nil, List.set_cons_zero, List.set_cons_succ, List.replicate_succ, List.replicate_zero, Option.some.injEq, exists_eq_left', V.int.injEq, V.str.injEq, V.ref.injEq, V.bl.injEq, exists_and_left, exists_eq_left, List.cons.injEq, and_true, true_and, tCallX, tRs]
    by_cases hs : st = []
    · rw [if_pos hs] at he
      have : b = Tr.ends 0 t := Option.some.inj he
      subst this
      exact q p H' hp0 s0 h1
    · rw [if_neg hs] at he; cases he

theorem getV {xs : List Tr} {i : Nat} {x : V} (h : (xs.map trV)[i]? = some x) : ∃ t, xs[i]? = some t ∧ x = trV t ∧ t ∈ xs := by
  rw [List.getElem?_map] at h
  cases e : xs[i]? with
  | none => rw [e] at h; cases h
  | some t => rw [e] at h; exact ⟨t, rfl, (Option.some.inj h).symm, List.mem_of_getElem? e⟩
theorem ok_check_hung (T : Txt K mg) : FnOk P w K mg base (L2.CX P w) 3 T.a_check_hung T.fd_check_hung ["tree", "trees"] (sp_check_hung T) := by
  refine T.F_check_hung.okX sc_check_hung (fun vs H Q E h => ?_) (fun cdv A outer s H vs Q E hr h => ?_)
  · obtain ⟨t, v, rfl, _⟩ := h; rfl
  obtain ⟨t, v, rfl, ht, h⟩ := h
  have hlv : t.lvs ≤ 2001 := by rw [Tr.lvs_size]; omega
  refine ⟨_, (pss_cons (ps_if (pw_or (pt_not (pt_val (pe_callB call_isi (by rfl) T.z_isinstance (by decide +kernel) (pa_cons (pv 1) (pa_cons (pe_bltn (v := .ty "list") (by rfl) T.z_list (by decide +kernel) rfl) pa_nil))))) (pw_or1 (pt_cmpR op_ne (pe_callB call_len_seq (by rfl) T.z_len PySem.boot_len (pa_cons (pv 1) pa_nil)) (pe_m1 PySem.F.slot_str_count PySem.F.type_str_count mt_count (pv 0) pe_str) (nomark _)))).pt (pss_one (ps_raise rfl (takes_of rfl rfl rfl rfl) (pmk_err T.o_InvalidList (hr.mono (by first | decide | omega)) (by rfl) (pv 1)))) pss_nil)
    (pss_one (ps_if (pt_not (pt_val (pe_callB (cr_all rfl) (by rfl) T.z_all (by decide +kernel) (pa_cons (pe_lc (own := [("item", 2)]) rfl sc_check_hung.nd (pi_list (pv 1)) (blkOk_by (own := [("item", 2)]) (N := nm_check_hung) (sc := defScope s_check_hung) (by decide +kernel)) (fun _ _ _ _ _ => by exact (pg_name (i := 2) sc_check_hung.nd rfl (by first | exact Or.inl rfl | exact Or.inr rfl))) (fun _ _ _ _ _ => by exact pts_nil) (fun _ _ _ _ _ => by exact (pe_call (ok_is_tree T) (hr.mono (by first | decide | omega)) (by rfl) T.m_is_tree T.F_is_tree.kp T.b_is_tree .nil pass0 (pa_cons (pv 2) pa_nil)))) pa_nil)))) (pss_one (ps_raise rfl (takes_of rfl rfl rfl rfl) (pmk_err T.o_InvalidList (hr.mono (by first | decide | omega)) (by rfl) (pv 1)))) pss_nil))), ?_⟩
  simp only [cxOf_K, tAsg2, tYes, wipe, tSeq, tIfS, tNot, tB, tCB, tCons, tNil, tVar, tC, tTest, tOp, tAnd, tOr, tAsg, gName, tRet, tRetN, tDrop, tNext, tIf, tCall, tTup, tLst, tNotV, tAndV, tOrV, tUn, rI0, rI, rU, rEq, rNe, tM1, tM0, tBM, tBM0, tSl, tPart, tNoPart, iStr, iEnumS, iRng1, iRng2, iList, gSub, tBits, tAug, tPar, L2.start, List.map_cons, List.map_nil, List.length_cons, List.length_nil, List.getElem?_cons_zero, List.getElem?_cons_succ, List.cons_append, List.nil_append, List.append_nil, List.set_cons_zero, List.set_cons_succ, List.replicate_succ, List.replicate_zero, Option.some.injEq, exists_eq_left', V.int.injEq, V.str.injEq, V.ref.injEq, V.bl.injEq, exists_and_left, exists_eq_left, List.cons.injEq, and_true, true_and, tCallX, tRs]
  rcases h with ⟨xs, ⟨a, rfl, ha, hl, hx⟩, q⟩ | ⟨⟨ty, h1, h2⟩ | ⟨a, ws, rfl, ha, hw, bad⟩, out⟩
  · refine ⟨_, _, _, _, true, rfl, .ty _, .base (.lst ha), kit_ty (by decide +kernel), true, rfl, ?_⟩
    rw [if_neg (by decide)]
    refine ⟨_, rfl, _, .inl (SqL.of ha), ⟨_, rfl⟩, rfl, ?_⟩
    rw [lit_dot, count_S, count_tree, List.length_map, hl]
    refine ifnF rfl ?_
    refine ⟨_, rfl, a, rfl, ⟨_, SqL.of ha⟩, fun D hD => ?_⟩
    refine lc_list (K := K) (a := a) (xs := xs.map trV) (fun i H' => Same H H' ∧ H' D = some (.lst ((List.replicate i true).map V.bl))) ⟨(L2.Same.refl H).new hD _, upd_same⟩ (fun i H' _ hp => SqL.of (hp.1 _ _ ha)) ?_ ?_
    · rintro i x H' hi ⟨s0, hd⟩
      obtain ⟨u, hu, rfl, hm⟩ := getV hi
      have hil : i < xs.length := (List.getElem?_eq_some_iff.mp hu).1
      simp only [cxOf_K, tAsg2, tYes, wipe, tSeq, tIfS, tNot, tB, tCB, tCons, tNil, tVar, tC, tTest, tOp, tAnd, tOr, tAsg, gName, tRet, tRetN, tDrop, tNext, tIf, tCall, tTup, tLst, tNotV, tAndV, tOrV, tUn, rI0, rI, rU, rEq, rNe, tM1, tM0, tBM, tBM0, tSl, tPart, tNoPart, iStr, iEnumS, iRng1, iRng2, iList, gSub, tBits, tAug, tPar, L2.start, List.map_cons, List.map_nil, List.length_cons, List.length_nil, List.getElem?_cons_zero, List.getElem?_cons_succ, List.cons_append, List.nil_append, List.append_nil, List.set_cons_zero, List.set_cons_succ, List.replicate_succ, List.replicate_zero, Option.some.injEq, exists_eq_left', V.int.injEq, V.str.injEq, V.ref.injEq, V.bl.injEq, exists_and_left, exists_eq_left, List.cons.injEq, and_true, true_and, tCallX, tRs]
      rw [if_pos True.intro]
      refine ⟨_, rfl, .inl ⟨_, rfl, by rw [S_len]; have := tr_len (hx u hm); omega, fun H2 s1 => ?_⟩⟩
      refine ⟨_, s1 _ _ hd, by simp; exact small5' (by omega), ((s0.trans s1).new hD _), ?_⟩
      rw [upd_same]
      have : isT (S u.cs).cps.toList ["tree"] = true := isT_text u
      rw [this]
      show _ = some (HO.lst ((List.replicate (i + 1) true).map V.bl))
      rw [List.replicate_succ', List.map_append]; rfl
    · rintro H' ⟨s0, hd⟩
      refine ⟨D, List.replicate (xs.map trV).length true, rfl, SqL.of hd, true, by simp, ?_⟩
      exact iteF (q _ s0)
  · refine ⟨v, _, ty, _, false, rfl, .ty _, h1, h2, false, rfl, ?_⟩
    rw [if_pos (show (!false) = true from rfl), if_pos True.intro]
    exact out
  · refine ⟨_, _, _, _, true, rfl, .ty _, .base (.lst ha), kit_ty (by decide +kernel), true, rfl, ?_⟩
    rw [if_neg (by decide)]
    refine ⟨_, rfl, _, .inl (SqL.of ha), ⟨_, rfl⟩, rfl, ?_⟩
    rw [lit_dot, count_S, count_tree]
    by_cases e : ws.length = t.lvs
    · refine ifnF (by rw [e]) ?_
      obtain ⟨all, u0, hu0, nu0⟩ : (∀ u ∈ ws, (∃ x : Tr, u = trV x ∧ x.size ≤ 2000) ∨ NotTree K H u) ∧ ∃ u ∈ ws, NotTree K H u := bad.resolve_left fun z => z e
      refine ⟨_, rfl, a, rfl, ⟨_, SqL.of ha⟩, fun D hD => ?_⟩
      refine lc_list (K := K) (a := a) (xs := ws) (fun i H' => Same H H' ∧ ∃ bs : List Bool, bs.length = i ∧ H' D = some (.lst (bs.map V.bl)) ∧ ∀ k u, k < i → ws[k]? = some u → NotTree K H u → bs[k]? = some false) ⟨(L2.Same.refl H).new hD _, [], rfl, upd_same, fun k u h => by omega⟩ (fun i H' _ hp => SqL.of (hp.1 _ _ ha)) ?_ ?_
      · rintro i x H' hi ⟨s0, bs, hb, hd, no⟩
        have hil : i < ws.length := (List.getElem?_eq_some_iff.mp hi).1
        have fin : ∀ (b : Bool) (H2 : Hp), Same H' H2 → (NotTree K H x → b = false) → ∃ acc, H2 D = some (.lst acc) ∧ acc.length < sizeLine ∧ Same H (upd H2 D (.lst (acc ++ [V.bl b]))) ∧
            ∃ bs : List Bool, bs.length = i + 1 ∧ upd H2 D (.lst (acc ++ [V.bl b])) D = some (.lst (bs.map V.bl)) ∧ ∀ k u, k < i + 1 → ws[k]? = some u → NotTree K H u → bs[k]? = some false := fun b H2 s1 nb => by
          refine ⟨_, s1 _ _ hd, by rw [List.length_map]; exact small5' (by omega), (s0.trans s1).new hD _, bs ++ [b], by simp [hb], by rw [upd_same]; simp, fun k u hk hu nu => ?_⟩
          by_cases l : k < i
          · rw [List.getElem?_append_left (by omega)]
            exact no k u l hu nu
          · have ek : k = i := by omega
            subst ek
            rw [hi] at hu
            cases hu
            rw [nb nu, List.getElem?_append_right (by omega), hb, Nat.sub_self]
            rfl
        simp only [cxOf_K, tAsg2, tYes, wipe, tSeq, tIfS, tNot, tB, tCB, tCons, tNil, tVar, tC, tTest, tOp, tAnd, tOr, tAsg, gName, tRet, tRetN, tDrop, tNext, tIf, tCall, tTup, tLst, tNotV, tAndV, tOrV, tUn, rI0, rI, rU, rEq, rNe, tM1, tM0, tBM, tBM0, tSl, tPart, tNoPart, iStr, iEnumS, iRng1, iRng2, iList, gSub, tBits, tAug, tPar, L2.start, List.map_cons, List.map_nil, List.length_cons, List.length_nil, List.getElem?_cons_zero, List.getElem?_cons_succ, List.cons_append, List.nil_append, List.append_nil, List.set_cons_zero, List.set_cons_succ, List.replicate_succ, List.replicate_zero, Option.some.injEq, exists_eq_left', V.int.injEq, V.str.injEq, V.ref.injEq, V.bl.injEq, exists_and_left, exists_eq_left, List.cons.injEq, and_true, true_and, tCallX, tRs]
        rw [if_pos True.intro]
        rcases all x (List.mem_of_getElem? hi) with ⟨z, rfl, hz⟩ | nt
        · refine ⟨_, rfl, .inl ⟨_, rfl, by rw [S_len]; have := tr_len hz; omega, fun H2 s1 => fin _ H2 s1 fun nt => ?_⟩⟩
          rcases nt with ⟨y, ey, _, f⟩ | ns
          · cases ey
            exact f
          · obtain ⟨t0, ty0, k0⟩ := ns
            cases ty0 with
            | base b =>
              cases b
              have : PySem.W.kitOne K (.type "str") (.type "str") = some true := by unfold PySem.W.kitOne; rw [if_pos (beq_self_eq_true _)]
              rw [this] at k0
              cases k0
        · rcases nt with ⟨y, rfl, hy, f⟩ | ns
          · exact ⟨_, rfl, .inl ⟨y, rfl, hy, fun H2 s1 => fin _ H2 s1 fun _ => f⟩⟩
          · exact ⟨_, rfl, .inr ⟨ns.same s0, fin false H' (L2.Same.refl H') fun _ => rfl⟩⟩
      · rintro H' ⟨s0, bs, hb, hd, no⟩
        obtain ⟨k, hk⟩ := List.getElem?_of_mem hu0
        have z := no k u0 (List.getElem?_eq_some_iff.mp hk).1 hk nu0
        refine ⟨D, bs, rfl, SqL.of hd, false, ?_, ?_⟩
        · have : false ∈ bs := List.mem_of_getElem? z
          rw [show bs.all id = false from List.all_eq_false.mpr ⟨false, this, by simp⟩]
        · rw [if_pos (show (!false) = true from rfl)]
          exact fun d H2 s2 n e2 => out d H2 (s0.trans s2) (s0.free n) e2
    · have : (!decide ((ws.length : Int) = ((t.lvs : Nat) : Int))) = true := by simp; omega
      rw [if_pos this]
      exact out

theorem getS {xs : List (List Nat)} {i : Nat} {x : V} (h : ((xs.map S).map V.str)[i]? = some x) : ∃ u, xs[i]? = some u ∧ x = .str (S u) := by
  rw [List.getElem?_map, List.getElem?_map] at h
  cases e : xs[i]? with
  | none => rw [e] at h; cases h
  | some t => rw [e] at h; exact ⟨t, rfl, (Option.some.inj h).symm⟩
theorem ok_grown (T : Txt K mg) : FnOk P w K mg base (L2.CX P w) 4 T.a_grown T.fd_grown ["tree", "hung"] (sp_grown T) := by
  refine T.F_grown.okX sc_grown (fun vs H Q E h => ?_) (fun cdv A outer s H vs Q E hr h => ?_)
  · obtain ⟨u, v, rfl, _⟩ := h; rfl
  obtain ⟨u, v, rfl, h⟩ := h
  refine ⟨_, (pss_cons (ps_expr (pe_callX (ok_check_tree T) (takes_of rfl rfl rfl rfl) (hr.mono (by first | decide | omega)) (by rfl) T.m_check_tree T.F_check_tree.kp T.b_check_tree .nil (pa_cons (pv 0) pa_nil)))
    (pss_cons (ps_expr (pe_callX (ok_check_hung T) (takes_of rfl rfl rfl rfl) (hr.mono (by first | decide | omega)) (by rfl) T.m_check_hung T.F_check_hung.kp T.b_check_hung .nil (pa_cons (pv 0) (pa_cons (pv 1) pa_nil))))
    (pss_cons (ps_set (i := 2) sc_grown.nd rfl (by first | exact Or.inl rfl | exact Or.inr rfl) (pe_split (pv 0) pe_str))
    (pss_one (ps_ret (pe_op op_add_str (pe_ix ix_list (pv 2) pe_int (fun _ _ => rfl)) (pe_join pe_str (pe_lc (own := [("item", 3), ("text", 4)]) rfl sc_grown.nd (pi_zip (by rfl) T.z_zip (pa_cons (pv 1) (pa_cons (pe_slice sl_list (pv 2) (po_some pe_int) po_none) pa_nil))) (blkOk_by (own := [("item", 3), ("text", 4)]) (N := nm_grown) (sc := defScope s_grown) (by decide +kernel)) (fun _ _ _ _ _ => by exact (show PG _ _ (gTup K 2 _) from (pg_tup rfl (pgs_cons (pg_name (i := 3) sc_grown.nd rfl (by first | exact Or.inl rfl | exact Or.inr rfl)) (pgs_cons (pg_name (i := 4) sc_grown.nd rfl (by first | exact Or.inl rfl | exact Or.inr rfl)) pgs_nil))))) (fun _ _ _ _ _ => by exact pts_nil) (fun _ _ _ _ _ => by exact (pe_op op_add_str (pv 3) (pv 4))))))))))), ?_⟩
  simp only [cxOf_K, tAsg2, tYes, wipe, tSeq, tIfS, tNot, tB, tCB, tCons, tNil, tVar, tC, tTest, tOp, tAnd, tOr, tAsg, gName, tRet, tRetN, tDrop, tNext, tIf, tCall, tTup, tLst, tNotV, tAndV, tOrV, tUn, rI0, rI, rU, rEq, rNe, tM1, tM0, tBM, tBM0, tSl, tPart, tNoPart, iStr, iEnumS, iRng1, iRng2, iList, gSub, tBits, tAug, tPar, L2.start, List.map_cons, List.map_nil, List.length_cons, List.length_nil, List.getElem?_cons_zero, List.getElem?_cons_succ, List.cons_append, List.nil_append, List.append_nil, List.set_cons_zero, List.set_cons_succ, List.replicate_succ, List.replicate_zero, Option.some.injEq, exists_eq_left', V.int.injEq, V.str.injEq, V.ref.injEq, V.bl.injEq, exists_and_left, exists_eq_left, List.cons.injEq, and_true, true_and, tCallX, tRs]
  rcases h with ⟨t, rfl, ht, h⟩ | ⟨nt, out⟩
  case inr => exact ⟨u, rfl, .inr ⟨nt, out⟩⟩
  refine ⟨_, rfl, .inl ⟨t, rfl, ht, fun H1 s1 => ?_⟩⟩
  simp only [cxOf_K, tAsg2, tYes, wipe, tSeq, tIfS, tNot, tB, tCB, tCons, tNil, tVar, tC, tTest, tOp, tAnd, tOr, tAsg, gName, tRet, tRetN, tDrop, tNext, tIf, tCall, tTup, tLst, tNotV, tAndV, tOrV, tUn, rI0, rI, rU, rEq, rNe, tM1, tM0, tBM, tBM0, tSl, tPart, tNoPart, iStr, iEnumS, iRng1, iRng2, iList, gSub, tBits, tAug, tPar, L2.start, List.map_cons, List.map_nil, List.length_cons, List.length_nil, List.getElem?_cons_zero, List.getElem?_cons_succ, List.cons_append, List.nil_append, List.append_nil, List.set_cons_zero, List.set_cons_succ, List.replicate_succ, List.replicate_zero, Option.some.injEq, exists_eq_left', V.int.injEq, V.str.injEq, V.ref.injEq, V.bl.injEq, exists_and_left, exists_eq_left, List.cons.injEq, and_true, true_and, tCallX, tRs]
  rcases h with ⟨xs, gl, q⟩ | ⟨bl, out⟩
  case inr => exact ⟨t, v, rfl, ht, .inr ⟨bl.same s1, out.same s1⟩⟩
  obtain ⟨a, rfl, ha, hl, hx⟩ := id gl
  have hlv : t.lvs ≤ 2001 := by rw [Tr.lvs_size]; omega
  have hcl := tr_len ht
  refine ⟨t, _, rfl, ht, .inl ⟨xs, gl.same s1, fun H2 s2 => ?_⟩⟩
  have s2 := s1.trans s2
  simp only [cxOf_K, tAsg2, tYes, wipe, tSeq, tIfS, tNot, tB, tCB, tCons, tNil, tVar, tC, tTest, tOp, tAnd, tOr, tAsg, gName, tRet, tRetN, tDrop, tNext, tIf, tCall, tTup, tLst, tNotV, tAndV, tOrV, tUn, rI0, rI, rU, rEq, rNe, tM1, tM0, tBM, tBM0, tSl, tPart, tNoPart, iStr, iEnumS, iRng1, iRng2, iList, gSub, tBits, tAug, tPar, L2.start, List.map_cons, List.map_nil, List.length_cons, List.length_nil, List.getElem?_cons_zero, List.getElem?_cons_succ, List.cons_append, List.nil_append, List.append_nil, List.set_cons_zero, List.set_cons_succ, List.replicate_succ, List.replicate_zero, Option.some.injEq, exists_eq_left', V.int.injEq, V.str.injEq, V.ref.injEq, V.bl.injEq, exists_and_left, exists_eq_left, List.cons.injEq, and_true, true_and, tCallX, tRs]
  refine ⟨⟨_, rfl⟩, by decide +kernel, by rw [S_len]; exact small5 (by omega), fun z hz => ?_⟩
  rw [lit_dot, split_S _ _ (by decide)]
  have hsp := spl_length 46 t.cs
  rw [count_tree] at hsp
  have hsh := spl_eq 46 t.cs
  have haz : a ≠ z := ne_of_none (s2 _ _ ha) hz
  refine ⟨z, _, 0, .str (S ((spl 46 t.cs).headD [])), rfl, rfl, SqL.of upd_same, ?_, ⟨_, rfl⟩, ?_⟩
  · exact atI_nat (j := 0) (by rw [hsh]; rfl)
  have s3 := s2.new (s2.free hz) (.lst (List.map V.str (List.map S (spl 46 t.cs))))
  have hz3 : upd H2 z (.lst (List.map V.str (List.map S (spl 46 t.cs)))) z = some (.lst (((spl 46 t.cs).map S).map V.str)) := upd_same
  generalize upd H2 z (.lst (List.map V.str (List.map S (spl 46 t.cs)))) = H3 at s3 hz3 ⊢
  refine ⟨_, rfl, _, rfl, 1, rfl, z, _, rfl, SqL.of hz3, fun y hy => ?_⟩
  have hcut : cutV (((spl 46 t.cs).map S).map V.str) (some 1) none = ((spl 46 t.cs).tail.map S).map V.str := by
    unfold cutV
    have e0 : HT.sIx ((((spl 46 t.cs).map S).map V.str)).length 0 (some 1) = 1 := by
      rw [show (some (1 : Int)) = some ((1 : Nat) : Int) from rfl, HT.sIx_nat]; simp [hsp]
    rw [e0, HT.sIx_none, hsh]
    simp only [List.map_cons, List.drop_succ_cons, List.drop_zero, List.length_cons, Nat.add_sub_cancel]
    rw [List.take_of_length_le (Nat.le_refl _)]
    simp
  rw [hcut]
  have hay : a ≠ y := ne_of_none (s3 _ _ ha) hy
  have s4 := s3.new (s3.free hy) (.lst (((spl 46 t.cs).tail.map S).map V.str))
  have hy4 : upd H3 y (.lst (((spl 46 t.cs).tail.map S).map V.str)) y = some (.lst (((spl 46 t.cs).tail.map S).map V.str)) := upd_same
  generalize upd H3 y (.lst (((spl 46 t.cs).tail.map S).map V.str)) = H4 at s4 hy4 ⊢
  refine ⟨a, y, xs.map trV, _, rfl, SqL.of (s4 _ _ ha), SqL.of hy4, fun D hD => ?_⟩
  have htl : (spl 46 t.cs).tail.length = xs.length := by rw [hl, List.length_tail, hsp]; rfl
  have hyD : y ≠ D := ne_of_none hy4 hD
  refine lc_zip (K := K) (fun i H' => Same H H' ∧ H' y = some (.lst (((spl 46 t.cs).tail.map S).map V.str)) ∧ H' D = some (.lst ((((List.zipWith (fun i p => i ++ p) (xs.map Tr.cs) (spl 46 t.cs).tail).take i).map S).map V.str)))
    ⟨s4.new (s4.free hD) _, by rw [upd_ne hyD]; exact hy4, upd_same⟩ (fun i H' hp => ⟨SqL.of (hp.1 _ _ ha), SqL.of hp.2.1⟩) ?_ ?_
  · rintro i u v H' d hu hv ⟨s5, h5, h6⟩ hd
    obtain ⟨u, hu1, rfl, hm⟩ := getV hu
    obtain ⟨v, hv1, rfl⟩ := getS hv
    have hyd : y ≠ d := ne_of_none h5 hd
    have hDd : D ≠ d := ne_of_none h6 hd
    have hil : i < xs.length := (List.getElem?_eq_some_iff.mp hu1).1
    refine ⟨d, _, rfl, SqT.of upd_same, rfl, _, _, rfl, _, _, rfl, rfl, rfl, ?_⟩
    simp only [cxOf_K, tAsg2, tYes, wipe, tSeq, tIfS, tNot, tB, tCB, tCons, tNil, tVar, tC, tTest, tOp, tAnd, tOr, tAsg, gName, tRet, tRetN, tDrop, tNext, tIf, tCall, tTup, tLst, tNotV, tAndV, tOrV, tUn, rI0, rI, rU, rEq, rNe, tM1, tM0, tBM, tBM0, tSl, tPart, tNoPart, iStr, iEnumS, iRng1, iRng2, iList, gSub, tBits, tAug, tPar, L2.start, List.map_cons, List.map_nil, List.length_cons, List.length_nil, List.getElem?_cons_zero, List.getElem?_cons_succ, List.cons_append, List.nil_append, List.append_nil, List.set_cons_zero, List.set_cons_succ, List.replicate_succ, List.replicate_zero, Option.some.injEq, exists_eq_left', V.int.injEq, V.str.injEq, V.ref.injEq, V.bl.injEq, exists_and_left, exists_eq_left, List.cons.injEq, and_true, true_and, tCallX, tRs]
    rw [if_pos True.intro]
    have hvl : v.length ≤ t.cs.length := spl_le 46 t.cs v (List.mem_of_mem_tail (List.mem_of_getElem? hv1))
    have hul := tr_len (hx u hm)
    refine ⟨by rw [S_len, S_len]; exact small5 (by omega), _, by rw [upd_ne hDd]; exact h6, ?_, ?_, ?_, ?_⟩
    · simp only [List.length_map, List.length_take]; exact small5' (by omega)
    · exact (s5.new (s5.free hd) _).new (s4.free hD) _
    · rw [upd_ne hyD, upd_ne hyd]; exact h5
    · rw [upd_same, S_app]
      have : (List.zipWith (fun i p => i ++ p) (xs.map Tr.cs) (spl 46 t.cs).tail)[i]? = some (u.cs ++ v) := by
        rw [List.getElem?_zipWith, List.getElem?_map, hu1, hv1]; rfl
      rw [List.take_add_one, this]
      simp
  · rintro H' ⟨s5, h5, h6⟩
    have hmin : min (xs.map trV).length (((spl 46 t.cs).tail.map S).map V.str).length = xs.length := by rw [List.length_map, List.length_map, List.length_map, htl, Nat.min_self]
    rw [hmin] at h6
    have hall : (List.zipWith (fun i p => i ++ p) (xs.map Tr.cs) (spl 46 t.cs).tail).take xs.length = List.zipWith (fun i p => i ++ p) (xs.map Tr.cs) (spl 46 t.cs).tail := List.take_of_length_le (by rw [List.length_zipWith, List.length_map, htl, Nat.min_self]; exact Nat.le_refl _)
    rw [hall] at h6
    simp only [cxOf_K, tAsg2, tYes, wipe, tSeq, tIfS, tNot, tB, tCB, tCons, tNil, tVar, tC, tTest, tOp, tAnd, tOr, tAsg, gName, tRet, tRetN, tDrop, tNext, tIf, tCall, tTup, tLst, tNotV, tAndV, tOrV, tUn, rI0, rI, rU, rEq, rNe, tM1, tM0, tBM, tBM0, tSl, tPart, tNoPart, iStr, iEnumS, iRng1, iRng2, iList, gSub, tBits, tAug, tPar, L2.start, List.map_cons, List.map_nil, List.length_cons, List.length_nil, List.getElem?_cons_zero, List.getElem?_cons_succ, List.cons_append, List.nil_append, List.append_nil, List.set_cons_zero, List.set_cons_succ, List.replicate_succ, List.replicate_zero, Option.some.injEq, exists_eq_left', V.int.injEq, V.str.injEq, V.ref.injEq, V.bl.injEq, exists_and_left, exists_eq_left, List.cons.injEq, and_true, true_and, tCallX, tRs]
    have hg := grown_text t xs hl
    have hgl := congrArg List.length hg
    rw [List.length_append] at hgl
    have hgs := grow_size t xs hx
    have hgc : (t.grow xs).cs.length = 3 * (t.grow xs).size + 1 := by rw [Tr.cs_length, Tr.len_size]
    have hmul : t.lvs * 2000 ≤ 2001 * 2000 := Nat.mul_le_mul_right _ hlv
    refine ⟨(List.zipWith (fun i p => i ++ p) (xs.map Tr.cs) (spl 46 t.cs).tail).map S, .inl (SqL.of h6), ?_, ?_⟩
    · rw [sumlen_S, lit_empty, S_len]
      simp only [List.length_nil, Nat.mul_zero]
      omega
    · rw [lit_empty, join_S, S_app, S_len, S_len, grown_text t xs hl]
      exact ⟨small5 (by omega), q _ s5⟩

theorem cut_part {T s : Tr} {k : Nat} {r : List Nat} (h : T.cs.drop k = s.cs ++ r) (hk : k + s.len ≤ T.len) : cutS (S T.cs) (some (k : Int)) (some ((k + s.len : Nat) : Int)) = S s.cs := by
  unfold cutS
  have e : (S T.cs).length = T.len := by rw [S_len, Tr.cs_length]
  rw [e, HT.sIx_nat, HT.sIx_nat, Nat.min_eq_left (show k ≤ T.len by omega), Nat.min_eq_left hk]
  show S _ = S _
  have e2 : (S T.cs).cps.toList = T.cs := by simp
  rw [e2, h, Nat.add_sub_cancel_left, ← Tr.cs_length, List.take_left]
theorem ok_hung (T : Txt K mg) : FnOk P w K mg base (L2.CX P w) 4 T.a_hung T.fd_hung ["tree", "top"] (sp_hung T) := by
  refine T.F_hung.okX sc_hung (fun vs H Q E h => ?_) (fun cdv A outer s H vs Q E hr h => ?_)
  · obtain ⟨u, v, rfl, _⟩ := h; rfl
  obtain ⟨u, v, rfl, h⟩ := h
  refine ⟨_, (pss_cons (ps_expr (pe_callX (ok_check_tree T) (takes_of rfl rfl rfl rfl) (hr.mono (by first | decide | omega)) (by rfl) T.m_check_tree T.F_check_tree.kp T.b_check_tree .nil (pa_cons (pv 0) pa_nil)))
    (pss_cons (ps_expr (pe_callX (ok_check_tree T) (takes_of rfl rfl rfl rfl) (hr.mono (by first | decide | omega)) (by rfl) T.m_check_tree T.F_check_tree.kp T.b_check_tree .nil (pa_cons (pv 1) pa_nil)))
    (pss_cons (ps_set (i := 2) sc_hung.nd rfl (by first | exact Or.inl rfl | exact Or.inr rfl) (pe_call (ok_ends T) (hr.mono (by first | decide | omega)) (by rfl) T.m_ends T.F_ends.kp T.b_ends .nil pass0 (pa_cons (pv 0) pa_nil)))
    (pss_cons (ps_set (i := 3) sc_hung.nd rfl (by first | exact Or.inl rfl | exact Or.inr rfl) (pe_lst pa_nil))
    (pss_cons (ps_set (i := 4) sc_hung.nd rfl (by first | exact Or.inl rfl | exact Or.inr rfl) pe_int)
    (pss_cons (ps_for (passes_of rfl) rfl (pi_str (pv 1)) (pg_name (i := 5) sc_hung.nd rfl (by first | exact Or.inl rfl | exact Or.inr rfl)) (pss_one (ps_if (pt_cmpR op_eq (pv 5) pe_str (nomark _)) (pss_cons (ps_expr (pe_bm PySem.F.plainAttrs_list PySem.F.slot_list_append PySem.F.type_list_append mt_append (pv 3) (pa_cons (pe_slice sl_str (pv 0) (po_some (pv 4)) (po_some (pe_ix ix_list (pv 2) (pv 4) (fun _ _ => rfl)))) pa_nil)))
    (pss_one (ps_set (i := 4) sc_hung.nd rfl (by first | exact Or.inl rfl | exact Or.inr rfl) (pe_ix ix_list (pv 2) (pv 4) (fun _ _ => rfl))))) (pss_one (ps_if (pt_cmpR op_eq (pv 5) (pe_ix ix_str (pv 0) (pv 4) (fun _ _ => rfl)) (nomark _)) (pss_one (ps_aug (i := 4) sc_hung.nd rfl (by first | exact Or.inl rfl | exact Or.inr rfl) pe_int iop_add)) (pss_one (ps_ret pe_non)))))))
    (pss_one (ps_ret (pv 3))))))))), ?_⟩
  simp only [cxOf_K, tAsg2, tYes, wipe, tSeq, tIfS, tNot, tB, tCB, tCons, tNil, tVar, tC, tTest, tOp, tAnd, tOr, tAsg, gName, tRet, tRetN, tDrop, tNext, tIf, tCall, tTup, tLst, tNotV, tAndV, tOrV, tUn, rI0, rI, rU, rEq, rNe, tM1, tM0, tBM, tBM0, tSl, tPart, tNoPart, iStr, iEnumS, iRng1, iRng2, iList, gSub, tBits, tAug, tPar, L2.start, List.map_cons, List.map_nil, List.length_cons, List.length_nil, List.getElem?_cons_zero, List.getElem?_cons_succ, List.cons_append, List.nil_append, List.append_nil, List.set_cons_zero, List.set_cons_succ, List.replicate_succ, List.replicate_zero, Option.some.injEq, exists_eq_left', V.int.injEq, V.str.injEq, V.ref.injEq, V.bl.injEq, exists_and_left, exists_eq_left, List.cons.injEq, and_true, true_and, tCallX, tRs]
  rcases h with ⟨t, rfl, ht, h⟩ | ⟨nt, out⟩
  case inr => exact ⟨u, rfl, .inr ⟨nt, out⟩⟩
  refine ⟨_, rfl, .inl ⟨t, rfl, ht, fun H1 s1 => ?_⟩⟩
  simp only [cxOf_K, tAsg2, tYes, wipe, tSeq, tIfS, tNot, tB, tCB, tCons, tNil, tVar, tC, tTest, tOp, tAnd, tOr, tAsg, gName, tRet, tRetN, tDrop, tNext, tIf, tCall, tTup, tLst, tNotV, tAndV, tOrV, tUn, rI0, rI, rU, rEq, rNe, tM1, tM0, tBM, tBM0, tSl, tPart, tNoPart, iStr, iEnumS, iRng1, iRng2, iList, gSub, tBits, tAug, tPar, L2.start, List.map_cons, List.map_nil, List.length_cons, List.length_nil, List.getElem?_cons_zero, List.getElem?_cons_succ, List.cons_append, List.nil_append, List.append_nil, List.set_cons_zero, List.set_cons_succ, List.replicate_succ, List.replicate_zero, Option.some.injEq, exists_eq_left', V.int.injEq, V.str.injEq, V.ref.injEq, V.bl.injEq, exists_and_left, exists_eq_left, List.cons.injEq, and_true, true_and, tCallX, tRs]
  rcases h with ⟨c, rfl, hc, qn, qs⟩ | ⟨nt, out⟩
  case inr => exact ⟨v, rfl, .inr ⟨nt.same s1, out.same s1⟩⟩
  have hcl := tr_len ht
  have hcc := tr_len hc
  have hS : (S t.cs).length = t.len := by rw [S_len, Tr.cs_length]
  have htl : t.len ≤ 6001 := by rw [← Tr.cs_length]; exact hcl
  have hts : (S t.cs).cps.toList = t.cs := by simp
  refine ⟨_, rfl, .inl ⟨c, rfl, hc, fun H2 s2 => ?_⟩⟩
  have s2 := s1.trans s2
  simp only [cxOf_K, tAsg2, tYes, wipe, tSeq, tIfS, tNot, tB, tCB, tCons, tNil, tVar, tC, tTest, tOp, tAnd, tOr, tAsg, gName, tRet, tRetN, tDrop, tNext, tIf, tCall, tTup, tLst, tNotV, tAndV, tOrV, tUn, rI0, rI, rU, rEq, rNe, tM1, tM0, tBM, tBM0, tSl, tPart, tNoPart, iStr, iEnumS, iRng1, iRng2, iList, gSub, tBits, tAug, tPar, L2.start, List.map_cons, List.map_nil, List.length_cons, List.length_nil, List.getElem?_cons_zero, List.getElem?_cons_succ, List.cons_append, List.nil_append, List.append_nil, List.set_cons_zero, List.set_cons_succ, List.replicate_succ, List.replicate_zero, Option.some.injEq, exists_eq_left', V.int.injEq, V.str.injEq, V.ref.injEq, V.bl.injEq, exists_and_left, exists_eq_left, List.cons.injEq, and_true, true_and, tCallX, tRs]
  refine ⟨t, rfl, ht, fun z H3 hz s3 hz3 => ?_⟩
  have s3 := s2.trans s3
  simp only [cxOf_K, tAsg2, tYes, wipe, tSeq, tIfS, tNot, tB, tCB, tCons, tNil, tVar, tC, tTest, tOp, tAnd, tOr, tAsg, gName, tRet, tRetN, tDrop, tNext, tIf, tCall, tTup, tLst, tNotV, tAndV, tOrV, tUn, rI0, rI, rU, rEq, rNe, tM1, tM0, tBM, tBM0, tSl, tPart, tNoPart, iStr, iEnumS, iRng1, iRng2, iList, gSub, tBits, tAug, tPar, L2.start, List.map_cons, List.map_nil, List.length_cons, List.length_nil, List.getElem?_cons_zero, List.getElem?_cons_succ, List.cons_append, List.nil_append, List.append_nil, List.set_cons_zero, List.set_cons_succ, List.replicate_succ, List.replicate_zero, Option.some.injEq, exists_eq_left', V.int.injEq, V.str.injEq, V.ref.injEq, V.bl.injEq, exists_and_left, exists_eq_left, List.cons.injEq, and_true, true_and, tCallX, tRs]
  refine ⟨by decide, fun f hf => ?_⟩
  have nzf : z ≠ f := ne_of_none hz3 hf
  have hz0 := s2.free hz
  have hf0 := s3.free hf
  refine ⟨_, rfl, _, rfl, for_str (fun i σ H' => ∃ (ag : Ag) (k : Nat) (found : List Tr) (a5 : Option V), σ = [some (trV t), some (trV c), some (.ref z), some (.ref f), some (nV k), a5] ∧ Same H H' ∧ H' z = some (.lst ((Tr.ends 0 t).map nV)) ∧ H' f = some (.lst (found.map trV)) ∧
      t.cs.drop k = ag.tl ∧ c.cs.drop i = ag.tr ∧ ag.AtL t k ∧ Tr.hang t c = ag.hangs.map (fun y => found ++ y) ∧ found.length ≤ i) ?_ ?_ ?_⟩
  · refine ⟨[some (t, c)], 0, [], none, rfl, s3.new hf0 _, by rw [upd_ne nzf]; exact hz3, upd_same, ?_, ?_, ⟨.root, True.intro⟩, ?_, Nat.le_refl _⟩
    · simp [Ag.tl]
    · simp [Ag.tr]
    · simp only [Ag.hangs]; cases Tr.hang t c <;> simp
  · rintro i d σ H' hi ⟨ag, k, found, a5, rfl, s0, h1, h2, e1, e2, e3, e4, e5⟩
    have hil : i < c.len := by rw [← Tr.cs_length, ← S_len]; exact (Array.getElem?_eq_some_iff.mp hi).1
    have hcl2 : c.len ≤ 6001 := by rw [← Tr.cs_length]; exact hcc
    have hd : c.cs[i]? = some d := by
      have := (Array.getElem?_eq_some_iff.mp hi).2
      rw [List.getElem?_eq_some_iff]
      refine ⟨by rw [Tr.cs_length]; exact hil, ?_⟩
      simpa using this
    simp only [cxOf_K, tAsg2, tYes, wipe, tSeq, tIfS, tNot, tB, tCB, tCons, tNil, tVar, tC, tTest, tOp, tAnd, tOr, tAsg, gName, tRet, tRetN, tDrop, tNext, tIf, tCall, tTup, tLst, tNotV, tAndV, tOrV, tUn, rI0, rI, rU, rEq, rNe, tM1, tM0, tBM, tBM0, tSl, tPart, tNoPart, iStr, iEnumS, iRng1, iRng2, iList, gSub, tBits, tAug, tPar, L2.start, List.map_cons, List.map_nil, List.length_cons, List.length_nil, List.getElem?_cons_zero, List.getElem?_cons_succ, List.cons_append, List.nil_append, List.append_nil, List.set_cons_zero, List.set_cons_succ, List.replicate_succ, List.replicate_zero, Option.some.injEq, exists_eq_left', V.int.injEq, V.str.injEq, V.ref.injEq, V.bl.injEq, exists_and_left, exists_eq_left, List.cons.injEq, and_true, true_and, tCallX, tRs]
    refine ⟨rfl, ?_⟩
    match ag, e1, e2, e3, e4 with
    | [], e1, e2, e3, e4 =>
      have : c.cs.length ≤ i := List.drop_eq_nil_iff.mp e2
      rw [Tr.cs_length] at this
      omega
    | none :: r, e1, e2, e3, e4 =>
      obtain ⟨g1, g2, g3⟩ := drop_cons e1
      obtain ⟨g4, g5, g6⟩ := drop_cons e2
      rw [g4] at hd
      obtain rfl : 41 = d := Option.some.inj hd
      refine ifdF (sg_ne lit_dot (by decide)) ?_
      refine rixs (by omega) g1 ⟨rfl, ifdT rfl ?_⟩
      exact ⟨r, k + 1, found, _, ⟨rfl, rfl⟩, s0, h1, h2, g3, g6, e3, e4, by omega⟩
    | some (s', .leaf) :: r, e1, e2, e3, e4 =>
      obtain ⟨g4, g5, g6⟩ := drop_cons (x := 46) (r := Ag.tr r) e2
      rw [g4] at hd
      obtain rfl : 46 = d := Option.some.inj hd
      obtain ⟨e3, e3'⟩ := e3
      refine ifdT (sg_eq lit_dot) ⟨tyV_lst h2, rixl h1 (x := nV (k + s'.len)) (by rw [List.getElem?_map, e3.end_get]; rfl) ?_⟩
      have hle := e3.le
      refine ⟨((k + s'.len : Nat) : Int), rfl, _, rfl, by rw [hS]; exact small5 (by omega), ?_⟩
      rw [cut_part (r := Ag.tl r) e1 hle]
      refine ⟨f, _, _, rfl, rfl, h2, by rw [List.length_map]; exact small5' (by omega), ?_⟩
      have nfz : z ≠ f := nzf
      refine rixl (x := nV (k + s'.len)) (xs := (Tr.ends 0 t).map nV) (by rw [upd_ne nzf]; exact h1) (by rw [List.getElem?_map, e3.end_get]; rfl) ?_
      refine ⟨r, k + s'.len, found ++ [s'], _, ⟨rfl, rfl⟩, s0.new hf0 _, by rw [upd_ne nzf]; exact h1, by rw [upd_same]; simp, ?_, g6, e3', ?_, by simp; omega⟩
      · have := drop_app (a := s'.cs) (r := Ag.tl r) e1
        rw [Tr.cs_length] at this; exact this
      · rw [e4]; simp only [Ag.hangs, Tr.hang, Option.bind_some, Option.map_map]
        congr 1; funext y; simp
    | some (.leaf, .node c1 c2) :: r, e1, e2, e3, e4 =>
      obtain ⟨g1, g2, g3⟩ := drop_cons (x := 46) (r := Ag.tl r) e1
      obtain ⟨g4, g5, g6⟩ := drop_cons (x := 40) (r := (c1.cs ++ (c2.cs ++ [41])) ++ Ag.tr r) e2
      rw [g4] at hd
      obtain rfl : 40 = d := Option.some.inj hd
      refine ifdF (sg_ne lit_dot (by decide)) (rixs (by omega) g1 ⟨rfl, ifdF (by decide) ?_⟩)
      exact qn (by rw [e4]; rfl) _ s0
    | some (.node a b, .node c1 c2) :: r, e1, e2, e3, e4 =>
      obtain ⟨g1, g2, g3⟩ := drop_cons (x := 40) (r := (a.cs ++ (b.cs ++ [41])) ++ Ag.tl r) e1
      obtain ⟨g4, g5, g6⟩ := drop_cons (x := 40) (r := (c1.cs ++ (c2.cs ++ [41])) ++ Ag.tr r) e2
      rw [g4] at hd
      obtain rfl : 40 = d := Option.some.inj hd
      obtain ⟨e3, e3'⟩ := e3
      refine ifdF (sg_ne lit_dot (by decide)) (rixs (by omega) g1 ⟨rfl, ifdT rfl ?_⟩)
      refine ⟨some (a, c1) :: some (b, c2) :: none :: r, k + 1, found, _, ⟨rfl, rfl⟩, s0, h1, h2, ?_, ?_, ⟨e3.left, e3.right, ?_⟩, ?_, by omega⟩
      · rw [g3]; simp [Ag.tl]
      · rw [g6]; simp [Ag.tr]
      · have : k + 1 + a.len + b.len + 1 = k + (Tr.node a b).len := by show _ = k + (a.len + b.len + 2); omega
        show Ag.AtL t (k + 1 + a.len + b.len + 1) r
        rw [this]; exact e3'
      · rw [e4]; simp only [Ag.hangs, Tr.hang]
        cases Tr.hang a c1 with
        | none => rfl
        | some x =>
          cases Tr.hang b c2 with
          | none => rfl
          | some y => cases Ag.hangs r <;> simp
  · rintro σ H' ⟨ag, k, found, a5, rfl, s0, h1, h2, e1, e2, e3, e4, e5⟩
    simp only [cxOf_K, tAsg2, tYes, wipe, tSeq, tIfS, tNot, tB, tCB, tCons, tNil, tVar, tC, tTest, tOp, tAnd, tOr, tAsg, gName, tRet, tRetN, tDrop, tNext, tIf, tCall, tTup, tLst, tNotV, tAndV, tOrV, tUn, rI0, rI, rU, rEq, rNe, tM1, tM0, tBM, tBM0, tSl, tPart, tNoPart, iStr, iEnumS, iRng1, iRng2, iList, gSub, tBits, tAug, tPar, L2.start, List.map_cons, List.map_nil, List.length_cons, List.length_nil, List.getElem?_cons_zero, List.getElem?_cons_succ, List.cons_append, List.nil_append, List.append_nil, List.set_cons_zero, List.set_cons_succ, List.replicate_succ, List.replicate_zero, Option.some.injEq, exists_eq_left', V.int.injEq, V.str.injEq, V.ref.injEq, V.bl.injEq, exists_and_left, exists_eq_left, List.cons.injEq, and_true, true_and, tCallX, tRs]
    have : (S c.cs).cps.size = c.cs.length := by simp
    rw [this, List.drop_length] at e2
    have := Ag.tr_nil e2.symm
    subst this
    refine qs found ?_ f H' hf0 s0 h2
    rw [e4]; simp [Ag.hangs]

abbrev sgV (c : Nat) : V := .str (S [c])
theorem ok_shared (T : Txt K mg) : FnOk P w K mg base (L2.CX P w) 4 T.a_shared T.fd_shared ["one", "other"] (sp_shared T) := by
  refine T.F_shared.okX sc_shared (fun vs H Q E h => ?_) (fun cdv A outer s H vs Q E hr h => ?_)
  · obtain ⟨u, v, rfl, _⟩ := h; rfl
  obtain ⟨u, v, rfl, h⟩ := h
  refine ⟨_, (pss_cons (ps_expr (pe_callX (ok_check_tree T) (takes_of rfl rfl rfl rfl) (hr.mono (by first | decide | omega)) (by rfl) T.m_check_tree T.F_check_tree.kp T.b_check_tree .nil (pa_cons (pv 0) pa_nil)))
    (pss_cons (ps_expr (pe_callX (ok_check_tree T) (takes_of rfl rfl rfl rfl) (hr.mono (by first | decide | omega)) (by rfl) T.m_check_tree T.F_check_tree.kp T.b_check_tree .nil (pa_cons (pv 1) pa_nil)))
    (pss_cons (ps_par (i := 2) (j := 3) rfl sc_shared.nd rfl rfl (by decide) rfl rfl (pa_cons (pe_call (ok_ends T) (hr.mono (by first | decide | omega)) (by rfl) T.m_ends T.F_ends.kp T.b_ends .nil pass0 (pa_cons (pv 0) pa_nil)) (pa_cons (pe_call (ok_ends T) (hr.mono (by first | decide | omega)) (by rfl) T.m_ends T.F_ends.kp T.b_ends .nil pass0 (pa_cons (pv 1) pa_nil)) pa_nil)) rfl)
    (pss_cons (ps_set (i := 4) sc_shared.nd rfl (by first | exact Or.inl rfl | exact Or.inr rfl) (pe_lst pa_nil))
    (pss_cons (ps_asg2 pe_int (pg_name (i := 5) sc_shared.nd rfl (by first | exact Or.inl rfl | exact Or.inr rfl)) (pg_name (i := 6) sc_shared.nd rfl (by first | exact Or.inl rfl | exact Or.inr rfl)))
    (pss_cons (ps_while (passes_of rfl) (pt_cmpR op_lt (pv 5) (pe_callB call_len_str (by rfl) T.z_len PySem.boot_len (pa_cons (pv 0) pa_nil)) (nomark _)) (pss_one (ps_if (pt_cmpR op_eq (pe_ix ix_str (pv 0) (pv 5) (fun _ _ => rfl)) (pe_ix ix_str (pv 1) (pv 6) (fun _ _ => rfl)) (nomark _)) (pss_cons (ps_expr (pe_bm PySem.F.plainAttrs_list PySem.F.slot_list_append PySem.F.type_list_append mt_append (pv 4) (pa_cons (pe_ix ix_str (pv 0) (pv 5) (fun _ _ => rfl)) pa_nil)))
    (pss_cons (ps_aug (i := 5) sc_shared.nd rfl (by first | exact Or.inl rfl | exact Or.inr rfl) pe_int iop_add)
    (pss_one (ps_aug (i := 6) sc_shared.nd rfl (by first | exact Or.inl rfl | exact Or.inr rfl) pe_int iop_add)))) (pss_cons (ps_expr (pe_bm PySem.F.plainAttrs_list PySem.F.slot_list_append PySem.F.type_list_append mt_append (pv 4) (pa_cons pe_str pa_nil)))
    (pss_cons (ps_set (i := 5) sc_shared.nd rfl (by first | exact Or.inl rfl | exact Or.inr rfl) (pe_ix ix_list (pv 2) (pv 5) (fun _ _ => rfl)))
    (pss_one (ps_set (i := 6) sc_shared.nd rfl (by first | exact Or.inl rfl | exact Or.inr rfl) (pe_ix ix_list (pv 3) (pv 6) (fun _ _ => rfl)))))))))
    (pss_one (ps_ret (pe_join pe_str (pv 4)))))))))), ?_⟩
  simp only [cxOf_K, tAsg2, tYes, wipe, tSeq, tIfS, tNot, tB, tCB, tCons, tNil, tVar, tC, tTest, tOp, tAnd, tOr, tAsg, gName, tRet, tRetN, tDrop, tNext, tIf, tCall, tTup, tLst, tNotV, tAndV, tOrV, tUn, rI0, rI, rU, rEq, rNe, tM1, tM0, tBM, tBM0, tSl, tPart, tNoPart, iStr, iEnumS, iRng1, iRng2, iList, gSub, tBits, tAug, tPar, L2.start, List.map_cons, List.map_nil, List.length_cons, List.length_nil, List.getElem?_cons_zero, List.getElem?_cons_succ, List.cons_append, List.nil_append, List.append_nil, List.set_cons_zero, List.set_cons_succ, List.replicate_succ, List.replicate_zero, Option.some.injEq, exists_eq_left', V.int.injEq, V.str.injEq, V.ref.injEq, V.bl.injEq, exists_and_left, exists_eq_left, List.cons.injEq, and_true, true_and, tCallX, tRs]
  rcases h with ⟨a, rfl, ha, h⟩ | ⟨nt, out⟩
  case inr => exact ⟨u, rfl, .inr ⟨nt, out⟩⟩
  refine ⟨_, rfl, .inl ⟨a, rfl, ha, fun H1 s1 => ?_⟩⟩
  simp only [cxOf_K, tAsg2, tYes, wipe, tSeq, tIfS, tNot, tB, tCB, tCons, tNil, tVar, tC, tTest, tOp, tAnd, tOr, tAsg, gName, tRet, tRetN, tDrop, tNext, tIf, tCall, tTup, tLst, tNotV, tAndV, tOrV, tUn, rI0, rI, rU, rEq, rNe, tM1, tM0, tBM, tBM0, tSl, tPart, tNoPart, iStr, iEnumS, iRng1, iRng2, iList, gSub, tBits, tAug, tPar, L2.start, List.map_cons, List.map_nil, List.length_cons, List.length_nil, List.getElem?_cons_zero, List.getElem?_cons_succ, List.cons_append, List.nil_append, List.append_nil, List.set_cons_zero, List.set_cons_succ, List.replicate_succ, List.replicate_zero, Option.some.injEq, exists_eq_left', V.int.injEq, V.str.injEq, V.ref.injEq, V.bl.injEq, exists_and_left, exists_eq_left, List.cons.injEq, and_true, true_and, tCallX, tRs]
  rcases h with ⟨b, rfl, hb, q⟩ | ⟨nt, out⟩
  case inr => exact ⟨v, rfl, .inr ⟨nt.same s1, out.same s1⟩⟩
  have hal := tr_len ha
  have hbl := tr_len hb
  have hS : (S a.cs).length = a.len := by rw [S_len, Tr.cs_length]
  have hal2 : a.len ≤ 6001 := by rw [← Tr.cs_length]; exact hal
  refine ⟨_, rfl, .inl ⟨b, rfl, hb, fun H2 s2 => ?_⟩⟩
  have s2 := s1.trans s2
  simp only [cxOf_K, tAsg2, tYes, wipe, tSeq, tIfS, tNot, tB, tCB, tCons, tNil, tVar, tC, tTest, tOp, tAnd, tOr, tAsg, gName, tRet, tRetN, tDrop, tNext, tIf, tCall, tTup, tLst, tNotV, tAndV, tOrV, tUn, rI0, rI, rU, rEq, rNe, tM1, tM0, tBM, tBM0, tSl, tPart, tNoPart, iStr, iEnumS, iRng1, iRng2, iList, gSub, tBits, tAug, tPar, L2.start, List.map_cons, List.map_nil, List.length_cons, List.length_nil, List.getElem?_cons_zero, List.getElem?_cons_succ, List.cons_append, List.nil_append, List.append_nil, List.set_cons_zero, List.set_cons_succ, List.replicate_succ, List.replicate_zero, Option.some.injEq, exists_eq_left', V.int.injEq, V.str.injEq, V.ref.injEq, V.bl.injEq, exists_and_left, exists_eq_left, List.cons.injEq, and_true, true_and, tCallX, tRs]
  refine ⟨a, rfl, ha, fun y H3 hy s3 hy3 => ?_⟩
  simp only [cxOf_K, tAsg2, tYes, wipe, tSeq, tIfS, tNot, tB, tCB, tCons, tNil, tVar, tC, tTest, tOp, tAnd, tOr, tAsg, gName, tRet, tRetN, tDrop, tNext, tIf, tCall, tTup, tLst, tNotV, tAndV, tOrV, tUn, rI0, rI, rU, rEq, rNe, tM1, tM0, tBM, tBM0, tSl, tPart, tNoPart, iStr, iEnumS, iRng1, iRng2, iList, gSub, tBits, tAug, tPar, L2.start, List.map_cons, List.map_nil, List.length_cons, List.length_nil, List.getElem?_cons_zero, List.getElem?_cons_succ, List.cons_append, List.nil_append, List.append_nil, List.set_cons_zero, List.set_cons_succ, List.replicate_succ, List.replicate_zero, Option.some.injEq, exists_eq_left', V.int.injEq, V.str.injEq, V.ref.injEq, V.bl.injEq, exists_and_left, exists_eq_left, List.cons.injEq, and_true, true_and, tCallX, tRs]
  have s3' := s2.trans s3
  refine ⟨b, rfl, hb, fun z H4 hz s4 hz4 => ?_⟩
  have hy4 := s4 _ _ hy3
  have s4 := s3'.trans s4
  have hy0 := s2.free hy
  have hz0 := s3'.free hz
  simp only [cxOf_K, tAsg2, tYes, wipe, tSeq, tIfS, tNot, tB, tCB, tCons, tNil, tVar, tC, tTest, tOp, tAnd, tOr, tAsg, gName, tRet, tRetN, tDrop, tNext, tIf, tCall, tTup, tLst, tNotV, tAndV, tOrV, tUn, rI0, rI, rU, rEq, rNe, tM1, tM0, tBM, tBM0, tSl, tPart, tNoPart, iStr, iEnumS, iRng1, iRng2, iList, gSub, tBits, tAug, tPar, L2.start, List.map_cons, List.map_nil, List.length_cons, List.length_nil, List.getElem?_cons_zero, List.getElem?_cons_succ, List.cons_append, List.nil_append, List.append_nil, List.set_cons_zero, List.set_cons_succ, List.replicate_succ, List.replicate_zero, Option.some.injEq, exists_eq_left', V.int.injEq, V.str.injEq, V.ref.injEq, V.bl.injEq, exists_and_left, exists_eq_left, List.cons.injEq, and_true, true_and, tCallX, tRs]
  refine ⟨_, _, ⟨rfl, rfl⟩, by decide, fun f hf => ?_⟩
  have nyf : y ≠ f := ne_of_none hy4 hf
  have nzf : z ≠ f := ne_of_none hz4 hf
  have hf0 := s4.free hf
  have hbl2 : b.len ≤ 6001 := by rw [← Tr.cs_length]; exact hbl
  refine ⟨fun mm σ H' => ∃ (ag : Ag) (k m : Nat) (out : List Nat), mm = a.len - k ∧ σ = [some (trV a), some (trV b), some (.ref y), some (.ref z), some (.ref f), some (nV k), some (nV m)] ∧ Same H H' ∧
      H' y = some (.lst ((Tr.ends 0 a).map nV)) ∧ H' z = some (.lst ((Tr.ends 0 b).map nV)) ∧ H' f = some (.lst (out.map sgV)) ∧
      a.cs.drop k = ag.tl ∧ b.cs.drop m = ag.tr ∧ ag.AtL a k ∧ ag.AtR b m ∧ (Tr.meet a b).cs = out ++ ag.outs ∧ out.length ≤ k, ?_, ?_⟩
  · refine ⟨_, [some (a, b)], 0, 0, [], rfl, rfl, s4.new hf0 _, by rw [upd_ne nyf]; exact hy4, by rw [upd_ne nzf]; exact hz4, upd_same, ?_, ?_, ⟨.root, True.intro⟩, ⟨.root, True.intro⟩, ?_, Nat.le_refl _⟩
    · simp [Ag.tl]
    · simp [Ag.tr]
    · simp [Ag.outs]
  · rintro mm σ H' ⟨ag, k, m, out, rfl, rfl, s0, h1, h2, h3, e1, e2, e3, e4, e5, e6⟩
    simp only [cxOf_K, tAsg2, tYes, wipe, tSeq, tIfS, tNot, tB, tCB, tCons, tNil, tVar, tC, tTest, tOp, tAnd, tOr, tAsg, gName, tRet, tRetN, tDrop, tNext, tIf, tCall, tTup, tLst, tNotV, tAndV, tOrV, tUn, rI0, rI, rU, rEq, rNe, tM1, tM0, tBM, tBM0, tSl, tPart, tNoPart, iStr, iEnumS, iRng1, iRng2, iList, gSub, tBits, tAug, tPar, L2.start, List.map_cons, List.map_nil, List.length_cons, List.length_nil, List.getElem?_cons_zero, List.getElem?_cons_succ, List.cons_append, List.nil_append, List.append_nil, List.set_cons_zero, List.set_cons_succ, List.replicate_succ, List.replicate_zero, Option.some.injEq, exists_eq_left', V.int.injEq, V.str.injEq, V.ref.injEq, V.bl.injEq, exists_and_left, exists_eq_left, List.cons.injEq, and_true, true_and, tCallX, tRs]
    refine ⟨by rw [hS]; exact small5 (by omega), ?_⟩
    rw [hS]
    by_cases hk : (k : Int) < (a.len : Int)
    · refine ifdT hk ?_
      match ag, e1, e2, e3, e4, e5 with
      | [], e1, e2, e3, e4, e5 =>
        have : a.cs.length ≤ k := List.drop_eq_nil_iff.mp e1
        rw [Tr.cs_length] at this
        omega
      | none :: r, e1, e2, e3, e4, e5 =>
        obtain ⟨g1, g2, g3⟩ := drop_cons e1
        obtain ⟨g4, g5, g6⟩ := drop_cons e2
        refine ⟨_, fun _ _ n => n, rixs (by omega) g1 (rixs (by omega) g4 ⟨rfl, ifdT rfl ⟨tyV_lst h3, rixs (by omega) g1 ⟨f, _, _, rfl, rfl, h3, by rw [List.length_map]; exact small5' (by omega), ?_⟩⟩⟩)⟩
        exact ⟨a.len - (k + 1), by omega, r, k + 1, rfl, m + 1, rfl, s0.new hf0 _, by rw [upd_ne nyf]; exact h1, by rw [upd_ne nzf]; exact h2, out ++ [41], by rw [upd_same]; simp, g3, g6, e3, e4, by rw [e5]; simp [Ag.outs], by simp; omega⟩
      | some (.leaf, .leaf) :: r, e1, e2, e3, e4, e5 =>
        obtain ⟨g1, g2, g3⟩ := drop_cons (x := 46) (r := Ag.tl r) e1
        obtain ⟨g4, g5, g6⟩ := drop_cons (x := 46) (r := Ag.tr r) e2
        refine ⟨_, fun _ _ n => n, rixs (by omega) g1 (rixs (by omega) g4 ⟨rfl, ifdT rfl ⟨tyV_lst h3, rixs (by omega) g1 ⟨f, _, _, rfl, rfl, h3, by rw [List.length_map]; exact small5' (by omega), ?_⟩⟩⟩)⟩
        exact ⟨a.len - (k + 1), by omega, r, k + 1, rfl, m + 1, rfl, s0.new hf0 _, by rw [upd_ne nyf]; exact h1, by rw [upd_ne nzf]; exact h2, out ++ [46], by rw [upd_same]; simp, g3, g6, e3.2, e4.2, by rw [e5]; simp [Ag.outs, Tr.meet, Tr.cs], by simp; omega⟩
      | some (.node a1 a2, .node b1 b2) :: r, e1, e2, e3, e4, e5 =>
        obtain ⟨g1, g2, g3⟩ := drop_cons (x := 40) (r := (a1.cs ++ (a2.cs ++ [41])) ++ Ag.tl r) e1
        obtain ⟨g4, g5, g6⟩ := drop_cons (x := 40) (r := (b1.cs ++ (b2.cs ++ [41])) ++ Ag.tr r) e2
        obtain ⟨e3, e3'⟩ := e3
        obtain ⟨e4, e4'⟩ := e4
        refine ⟨_, fun _ _ n => n, rixs (by omega) g1 (rixs (by omega) g4 ⟨rfl, ifdT rfl ⟨tyV_lst h3, rixs (by omega) g1 ⟨f, _, _, rfl, rfl, h3, by rw [List.length_map]; exact small5' (by omega), ?_⟩⟩⟩)⟩
        refine ⟨a.len - (k + 1), by omega, some (a1, b1) :: some (a2, b2) :: none :: r, k + 1, rfl, m + 1, rfl, s0.new hf0 _, by rw [upd_ne nyf]; exact h1, by rw [upd_ne nzf]; exact h2, out ++ [40], by rw [upd_same]; simp, ?_, ?_, ⟨e3.left, e3.right, ?_⟩, ⟨e4.left, e4.right, ?_⟩, by rw [e5]; simp [Ag.outs, Tr.meet, Tr.cs], by simp; omega⟩
        · rw [g3]; simp [Ag.tl]
        · rw [g6]; simp [Ag.tr]
        · have : k + 1 + a1.len + a2.len + 1 = k + (Tr.node a1 a2).len := by show _ = k + (a1.len + a2.len + 2); omega
          show Ag.AtL a (k + 1 + a1.len + a2.len + 1) r
          rw [this]; exact e3'
        · have : m + 1 + b1.len + b2.len + 1 = m + (Tr.node b1 b2).len := by show _ = m + (b1.len + b2.len + 2); omega
          show Ag.AtR b (m + 1 + b1.len + b2.len + 1) r
          rw [this]; exact e4'
      | some (.leaf, .node b1 b2) :: r, e1, e2, e3, e4, e5 =>
        obtain ⟨g1, g2, g3⟩ := drop_cons (x := 46) (r := Ag.tl r) e1
        obtain ⟨g4, g5, g6⟩ := drop_cons (x := 40) (r := (b1.cs ++ (b2.cs ++ [41])) ++ Ag.tr r) e2
        refine ⟨_, fun _ _ n => n, rixs (by omega) g1 (rixs (by omega) g4 ⟨rfl, ifdF (by decide) ⟨tyV_lst h3, f, _, _, rfl, rfl, h3, by rw [List.length_map]; exact small5' (by omega), ?_⟩⟩)⟩
        refine rixl (x := nV (k + Tr.leaf.len)) (xs := (Tr.ends 0 a).map nV) (by rw [upd_ne nyf]; exact h1) (by rw [List.getElem?_map, e3.1.end_get]; rfl) ?_
        refine rixl (x := nV (m + (Tr.node b1 b2).len)) (xs := (Tr.ends 0 b).map nV) (by rw [upd_ne nzf]; exact h2) (by rw [List.getElem?_map, e4.1.end_get]; rfl) ?_
        refine ⟨a.len - (k + 1), by omega, r, k + 1, rfl, m + (Tr.node b1 b2).len, rfl, s0.new hf0 _, by rw [upd_ne nyf]; exact h1, by rw [upd_ne nzf]; exact h2, out ++ [46], by rw [upd_same, lit_dot]; simp, g3, ?_, e3.2, e4.2, by rw [e5]; simp [Ag.outs, Tr.meet, Tr.cs], by simp; omega⟩
        have := drop_app (a := (Tr.node b1 b2).cs) (r := Ag.tr r) e2
        rw [Tr.cs_length] at this; exact this
      | some (.node a1 a2, .leaf) :: r, e1, e2, e3, e4, e5 =>
        obtain ⟨g1, g2, g3⟩ := drop_cons (x := 40) (r := (a1.cs ++ (a2.cs ++ [41])) ++ Ag.tl r) e1
        obtain ⟨g4, g5, g6⟩ := drop_cons (x := 46) (r := Ag.tr r) e2
        have hle := e3.1.le
        have hpos := (Tr.node a1 a2).len_pos
        refine ⟨_, fun _ _ n => n, rixs (by omega) g1 (rixs (by omega) g4 ⟨rfl, ifdF (by decide) ⟨tyV_lst h3, f, _, _, rfl, rfl, h3, by rw [List.length_map]; exact small5' (by omega), ?_⟩⟩)⟩
        refine rixl (x := nV (k + (Tr.node a1 a2).len)) (xs := (Tr.ends 0 a).map nV) (by rw [upd_ne nyf]; exact h1) (by rw [List.getElem?_map, e3.1.end_get]; rfl) ?_
        refine rixl (x := nV (m + Tr.leaf.len)) (xs := (Tr.ends 0 b).map nV) (by rw [upd_ne nzf]; exact h2) (by rw [List.getElem?_map, e4.1.end_get]; rfl) ?_
        refine ⟨a.len - (k + (Tr.node a1 a2).len), by omega, r, k + (Tr.node a1 a2).len, rfl, m + 1, rfl, s0.new hf0 _, by rw [upd_ne nyf]; exact h1, by rw [upd_ne nzf]; exact h2, out ++ [46], by rw [upd_same, lit_dot]; simp, ?_, g6, e3.2, e4.2, by rw [e5]; simp [Ag.outs, Tr.meet, Tr.cs], by simp; omega⟩
        have := drop_app (a := (Tr.node a1 a2).cs) (r := Ag.tl r) e1
        rw [Tr.cs_length] at this; exact this
    · refine ifdF hk ?_
      have : a.cs.drop k = [] := List.drop_eq_nil_of_le (by rw [Tr.cs_length]; omega)
      rw [this] at e1
      have := Ag.tl_nil e1.symm
      subst this
      simp only [Ag.outs, List.append_nil] at e5
      have hol : out.length = (Tr.meet a b).cs.length := by rw [e5]
      refine ⟨⟨_, rfl⟩, out.map (fun c => S [c]), .inl (SqL.of (by rw [h3, List.map_map]; rfl)), ?_, ?_⟩
      · rw [signs_sum, lit_empty, S_len, hol, Tr.cs_length, Tr.len_size]
        have := Tr.size_meet_le a b
        simp only [List.length_nil, Nat.mul_zero]
        omega
      · rw [lit_empty, signs_join, ← e5]; exact q _ s0

theorem pick_V (x y : Tr) : (if trV x = V.str "." then trV y else trV x) = trV (Tr.pick x y) := by
  unfold Tr.pick
  by_cases h : x = .leaf
  · subst h
    rw [if_pos rfl, if_pos (show trV .leaf = V.str "." from congrArg V.str lit_dot.symm)]
  · rw [if_neg h, if_neg]
    intro e
    exact h (Tr.cs_inj (t := .leaf) (S_inj ((V.str.inj e).trans lit_dot)))
theorem ok_joined (T : Txt K mg) : FnOk P w K mg base (L2.CX P w) 5 T.a_joined T.fd_joined ["one", "other"] (sp_joined T) := by
  refine T.F_joined.okX sc_joined (fun vs H Q E h => ?_) (fun cdv A outer s H vs Q E hr h => ?_)
  · obtain ⟨u, v, rfl, _⟩ := h; rfl
  obtain ⟨u, v, rfl, h⟩ := h
  refine ⟨_, (pss_cons (ps_set (i := 2) sc_joined.nd rfl (by first | exact Or.inl rfl | exact Or.inr rfl) (pe_callX (ok_shared T) (takes_of rfl rfl rfl rfl) (hr.mono (by first | decide | omega)) (by rfl) T.m_shared T.F_shared.kp T.b_shared .nil (pa_cons (pv 0) (pa_cons (pv 1) pa_nil))))
    (pss_one (ps_ret (pe_callX (ok_grown T) (takes_of rfl rfl rfl rfl) (hr.mono (by first | decide | omega)) (by rfl) T.m_grown T.F_grown.kp T.b_grown .nil (pa_cons (pv 2) (pa_cons (pe_lc (own := [("mine", 3), ("its", 4)]) rfl sc_joined.nd (pi_zip (by rfl) T.z_zip (pa_cons (pe_callX (ok_hung T) (takes_of rfl rfl rfl rfl) (hr.mono (by first | decide | omega)) (by rfl) T.m_hung T.F_hung.kp T.b_hung .nil (pa_cons (pv 0) (pa_cons (pv 2) pa_nil))) (pa_cons (pe_callX (ok_hung T) (takes_of rfl rfl rfl rfl) (hr.mono (by first | decide | omega)) (by rfl) T.m_hung T.F_hung.kp T.b_hung .nil (pa_cons (pv 1) (pa_cons (pv 2) pa_nil))) pa_nil))) (blkOk_by (own := [("mine", 3), ("its", 4)]) (N := nm_joined) (sc := defScope s_joined) (by decide +kernel)) (fun _ _ _ _ _ => by exact (show PG _ _ (gTup K 2 _) from (pg_tup rfl (pgs_cons (pg_name (i := 3) sc_joined.nd rfl (by first | exact Or.inl rfl | exact Or.inr rfl)) (pgs_cons (pg_name (i := 4) sc_joined.nd rfl (by first | exact Or.inl rfl | exact Or.inr rfl)) pgs_nil))))) (fun _ _ _ _ _ => by exact pts_nil) (fun _ _ _ _ _ => by exact (pe_ifExp (pt_cmpR op_eq (pv 3) pe_str (nomark _)) (pv 4) (pv 3)))) pa_nil)))))), ?_⟩
  simp only [cxOf_K, tAsg2, tYes, wipe, tSeq, tIfS, tNot, tB, tCB, tCons, tNil, tVar, tC, tTest, tOp, tAnd, tOr, tAsg, gName, tRet, tRetN, tDrop, tNext, tIf, tCall, tTup, tLst, tNotV, tAndV, tOrV, tUn, rI0, rI, rU, rEq, rNe, tM1, tM0, tBM, tBM0, tSl, tPart, tNoPart, iStr, iEnumS, iRng1, iRng2, iList, gSub, tBits, tAug, tPar, L2.start, List.map_cons, List.map_nil, List.length_cons, List.length_nil, List.getElem?_cons_zero, List.getElem?_cons_succ, List.cons_append, List.nil_append, List.append_nil, List.set_cons_zero, List.set_cons_succ, List.replicate_succ, List.replicate_zero, Option.some.injEq, exists_eq_left', V.int.injEq, V.str.injEq, V.ref.injEq, V.bl.injEq, exists_and_left, exists_eq_left, List.cons.injEq, and_true, true_and, tCallX, tRs]
  rcases h with ⟨a, rfl, ha, h⟩ | ⟨nt, out⟩
  case inr => exact ⟨u, v, rfl, .inr ⟨nt, out⟩⟩
  rcases h with ⟨b, rfl, hb, q⟩ | ⟨nt, out⟩
  case inr => exact ⟨_, v, rfl, .inl ⟨a, rfl, ha, .inr ⟨nt, out⟩⟩⟩
  obtain ⟨xs, hxs⟩ := Tr.hang_meet a b
  obtain ⟨ys, hys⟩ := Tr.hang_meet' a b
  have hm : (Tr.meet a b).size ≤ 2000 := Nat.le_trans (Tr.size_meet_le a b) ha
  refine ⟨_, _, rfl, .inl ⟨a, rfl, ha, .inl ⟨b, rfl, hb, fun H1 s1 => ?_⟩⟩⟩
  simp only [cxOf_K, tAsg2, tYes, wipe, tSeq, tIfS, tNot, tB, tCB, tCons, tNil, tVar, tC, tTest, tOp, tAnd, tOr, tAsg, gName, tRet, tRetN, tDrop, tNext, tIf, tCall, tTup, tLst, tNotV, tAndV, tOrV, tUn, rI0, rI, rU, rEq, rNe, tM1, tM0, tBM, tBM0, tSl, tPart, tNoPart, iStr, iEnumS, iRng1, iRng2, iList, gSub, tBits, tAug, tPar, L2.start, List.map_cons, List.map_nil, List.length_cons, List.length_nil, List.getElem?_cons_zero, List.getElem?_cons_succ, List.cons_append, List.nil_append, List.append_nil, List.set_cons_zero, List.set_cons_succ, List.replicate_succ, List.replicate_zero, Option.some.injEq, exists_eq_left', V.int.injEq, V.str.injEq, V.ref.injEq, V.bl.injEq, exists_and_left, exists_eq_left, List.cons.injEq, and_true, true_and, tCallX, tRs]
  refine ⟨_, rfl, _, rfl, _, _, rfl, .inl ⟨a, rfl, ha, .inl ⟨Tr.meet a b, rfl, hm, fun e => (by rw [hxs] at e; cases e), fun xs' hxs' y H2 hy s2 hy2 => ?_⟩⟩⟩
  rw [hxs] at hxs'; obtain rfl : xs = xs' := Option.some.inj hxs'
  have s2 := s1.trans s2
  refine ⟨_, rfl, _, rfl, _, _, rfl, .inl ⟨b, rfl, hb, .inl ⟨Tr.meet a b, rfl, hm, fun e => (by rw [hys] at e; cases e), fun ys' hys' z H3 hz s3 hz3 => ?_⟩⟩⟩
  rw [hys] at hys'; obtain rfl : ys = ys' := Option.some.inj hys'
  have hy3 := s3 _ _ hy2
  have s3 := s2.trans s3
  refine ⟨y, z, _, _, rfl, SqL.of hy3, SqL.of hz3, fun D hD => ?_⟩
  have nyD : y ≠ D := ne_of_none hy3 hD
  have nzD : z ≠ D := ne_of_none hz3 hD
  have hl1 := Tr.hang_len _ _ _ hxs
  have hl2 := Tr.hang_len _ _ _ hys
  have hlv : (Tr.meet a b).lvs ≤ 2001 := by rw [Tr.lvs_size]; omega
  refine lc_zip (K := K) (fun i H' => Same H H' ∧ H' y = some (.lst (xs.map trV)) ∧ H' z = some (.lst (ys.map trV)) ∧ H' D = some (.lst (((List.zipWith Tr.pick xs ys).take i).map trV)))
    ⟨s3.new (s3.free hD) _, by rw [upd_ne nyD]; exact hy3, by rw [upd_ne nzD]; exact hz3, upd_same⟩ (fun i H' hp => ⟨SqL.of hp.2.1, SqL.of hp.2.2.1⟩) ?_ ?_
  · rintro i u v H' d hu hv ⟨s5, h5, h6, h7⟩ hd
    obtain ⟨u, hu1, rfl, _⟩ := getV hu
    obtain ⟨v, hv1, rfl, _⟩ := getV hv
    have nyd : y ≠ d := ne_of_none h5 hd
    have nzd : z ≠ d := ne_of_none h6 hd
    have nDd : D ≠ d := ne_of_none h7 hd
    have hil : i < xs.length := (List.getElem?_eq_some_iff.mp hu1).1
    refine ⟨d, _, rfl, SqT.of upd_same, rfl, _, _, rfl, _, _, rfl, rfl, rfl, ?_⟩
    simp only [cxOf_K, tAsg2, tYes, wipe, tSeq, tIfS, tNot, tB, tCB, tCons, tNil, tVar, tC, tTest, tOp, tAnd, tOr, tAsg, gName, tRet, tRetN, tDrop, tNext, tIf, tCall, tTup, tLst, tNotV, tAndV, tOrV, tUn, rI0, rI, rU, rEq, rNe, tM1, tM0, tBM, tBM0, tSl, tPart, tNoPart, iStr, iEnumS, iRng1, iRng2, iList, gSub, tBits, tAug, tPar, L2.start, List.map_cons, List.map_nil, List.length_cons, List.length_nil, List.getElem?_cons_zero, List.getElem?_cons_succ, List.cons_append, List.nil_append, List.append_nil, List.set_cons_zero, List.set_cons_succ, List.replicate_succ, List.replicate_zero, Option.some.injEq, exists_eq_left', V.int.injEq, V.str.injEq, V.ref.injEq, V.bl.injEq, exists_and_left, exists_eq_left, List.cons.injEq, and_true, true_and, tCallX, tRs]
    rw [if_pos True.intro]
    refine ⟨rfl, ?_⟩
    have fin : ∃ acc, upd H' d (.tup [trV u, trV v]) D = some (.lst acc) ∧ acc.length < sizeLine ∧ Same H (upd (upd H' d (.tup [trV u, trV v])) D (.lst (acc ++ [trV (Tr.pick u v)]))) ∧
        upd (upd H' d (.tup [trV u, trV v])) D (.lst (acc ++ [trV (Tr.pick u v)])) y = some (.lst (xs.map trV)) ∧ upd (upd H' d (.tup [trV u, trV v])) D (.lst (acc ++ [trV (Tr.pick u v)])) z = some (.lst (ys.map trV)) ∧
        upd (upd H' d (.tup [trV u, trV v])) D (.lst (acc ++ [trV (Tr.pick u v)])) D = some (.lst (((List.zipWith Tr.pick xs ys).take (i + 1)).map trV)) := by
      refine ⟨_, by rw [upd_ne nDd]; exact h7, ?_, (s5.new (s5.free hd) _).new (s3.free hD) _, by rw [upd_ne nyD, upd_ne nyd]; exact h5, by rw [upd_ne nzD, upd_ne nzd]; exact h6, ?_⟩
      · simp only [List.length_map, List.length_take]; exact small5' (by omega)
      · have : (List.zipWith Tr.pick xs ys)[i]? = some (Tr.pick u v) := by rw [List.getElem?_zipWith, hu1, hv1]
        rw [upd_same, List.take_add_one, this]; simp
    rw [← pick_V] at fin
    by_cases hdot : trV u = V.str "."
    · rw [if_pos hdot] at fin
      exact ifdT (V.str.inj hdot) fin
    · rw [if_neg hdot] at fin
      exact ifdF (fun e => hdot (congrArg V.str e)) fin
  · rintro H' ⟨s5, h5, h6, h7⟩
    have hmin : min (xs.map trV).length (ys.map trV).length = xs.length := by rw [List.length_map, List.length_map, hl1, hl2, Nat.min_self]
    rw [hmin, List.take_of_length_le (by rw [List.length_zipWith]; omega)] at h7
    refine ⟨_, _, rfl, .inl ⟨Tr.meet a b, rfl, hm, .inl ⟨_, ⟨D, rfl, h7, by rw [List.length_zipWith]; omega, ?_⟩, fun H6 s6 => ?_⟩⟩⟩
    · intro x hx
      rcases mem_pick xs ys x hx with hx | hx
      · exact Nat.le_trans (hang_size _ _ _ hxs x hx) ha
      · exact Nat.le_trans (hang_size _ _ _ hys x hx) hb
    · rw [Tr.grow_pick hxs hys]
      exact q _ (s5.trans s6)

theorem ok_law_cell (T : Txt K mg) : FnOk P w K mg base CX0 1 T.a_law_cell T.fd_law_cell ["_law_script", "_law_index"] (sp_law_cell K) := by
  refine T.F_law_cell.ok sc_law_cell (fun vs H Q E h => ?_) (fun cdv A outer s H vs Q E hr h => ?_)
  · obtain ⟨a, ns, i, rfl, _⟩ := h; rfl
  obtain ⟨a, ns, i, rfl, ha, q⟩ := h
  refine ⟨_, (pss_cons (ps_if (pt_cmpR op_lt (pv 1) (pe_callB call_len_seq (by rfl) T.z_len PySem.boot_len (pa_cons (pv 0) pa_nil)) (nomark _)) (pss_one (ps_ret (pe_ix ix_list (pv 0) (pv 1) (fun _ _ => rfl)))) pss_nil)
    (pss_one (ps_ret pe_int))), ?_⟩
  simp only [cxOf_K, tAsg2, tYes, wipe, tSeq, tIfS, tNot, tB, tCB, tCons, tNil, tVar, tC, tTest, tOp, tAnd, tOr, tAsg, gName, tRet, tRetN, tDrop, tNext, tIf, tCall, tTup, tLst, tNotV, tAndV, tOrV, tUn, rI0, rI, rU, rEq, rNe, tM1, tM0, tBM, tBM0, tSl, tPart, tNoPart, iStr, iEnumS, iRng1, iRng2, iList, gSub, tBits, tAug, tPar, L2.start, List.map_cons, List.map_nil, List.length_cons, List.length_nil, List.getElem?_cons_zero, List.getElem?_cons_succ, List.cons_append, List.nil_append, List.append_nil, List.set_cons_zero, List.set_cons_succ, List.replicate_succ, List.replicate_zero, Option.some.injEq, exists_eq_left', V.int.injEq, V.str.injEq, V.ref.injEq, V.bl.injEq, exists_and_left, exists_eq_left, List.cons.injEq, and_true, true_and, tCallX, tRs]
  refine ⟨_, .inl ha, ?_⟩
  rw [List.length_map]
  by_cases h : (i : Int) < (ns.length : Int)
  · refine ifdT h ?_
    have hi : i < ns.length := by omega
    refine ⟨a, _, (i : Int), _, rfl, rfl, ha, atI_nat (by rw [List.getElem?_map, List.getElem?_eq_getElem hi]; rfl), ?_⟩
    rw [List.getD_eq_getElem?_getD, List.getElem?_eq_getElem hi] at q
    exact q
  · refine ifdF h ?_
    rw [List.getD_eq_getElem?_getD, List.getElem?_eq_none (by omega)] at q
    exact q
theorem ok_law_hash (T : Txt K mg) : FnOk P w K mg base CX0 1 T.a_law_hash T.fd_law_hash ["_law_seed", "_law_index"] (sp_law_hash K) := by
  refine T.F_law_hash.ok sc_law_hash (fun vs H Q E h => ?_) (fun cdv A outer s H vs Q E hr h => ?_)
  · obtain ⟨a, i, rfl, _⟩ := h; rfl
  obtain ⟨a, i, rfl, h0, h1, q⟩ := h
  refine ⟨_, (pss_cons (ps_set (i := 2) sc_law_hash.nd rfl (by first | exact Or.inl rfl | exact Or.inr rfl) (pe_op op_mod (pe_callTy call_intI (by rfl) T.z_int (by decide +kernel) (pa_cons (pe_op op_add (pe_op op_add (pe_op op_add (pe_op op_mul (pv 0) pe_int) (pe_op op_mul (pe_op op_mul pe_int (pv 1)) (pv 1))) (pv 1)) pe_int) pa_nil)) pe_int))
    (pss_cons (ps_set (i := 2) sc_law_hash.nd rfl (by first | exact Or.inl rfl | exact Or.inr rfl) (pe_op op_mod (pe_callTy call_intI (by rfl) T.z_int (by decide +kernel) (pa_cons (pe_op op_add (pe_op op_mul (pv 2) (pv 2)) pe_int) pa_nil)) pe_int))
    (pss_one (ps_ret (pe_op op_mod (pe_callTy call_intI (by rfl) T.z_int (by decide +kernel) (pa_cons (pe_op op_mul (pv 2) pe_int) pa_nil)) pe_int))))), ?_⟩
  simp only [cxOf_K, tAsg2, tYes, wipe, tSeq, tIfS, tNot, tB, tCB, tCons, tNil, tVar, tC, tTest, tOp, tAnd, tOr, tAsg, gName, tRet, tRetN, tDrop, tNext, tIf, tCall, tTup, tLst, tNotV, tAndV, tOrV, tUn, rI0, rI, rU, rEq, rNe, tM1, tM0, tBM, tBM0, tSl, tPart, tNoPart, iStr, iEnumS, iRng1, iRng2, iList, gSub, tBits, tAug, tPar, L2.start, List.map_cons, List.map_nil, List.length_cons, List.length_nil, List.getElem?_cons_zero, List.getElem?_cons_succ, List.cons_append, List.nil_append, List.append_nil, List.set_cons_zero, List.set_cons_succ, List.replicate_succ, List.replicate_zero, Option.some.injEq, exists_eq_left', V.int.injEq, V.str.injEq, V.ref.injEq, V.bl.injEq, exists_and_left, exists_eq_left, List.cons.injEq, and_true, true_and, tCallX, tRs]
  refine ⟨cmulR (by decide), cmulL (by decide), cmulR (by omega), by decide, cmulR (cmod _ (by decide) (by decide)), by decide, cmulR (by decide), by decide, q _⟩
theorem ok_law_generator (T : Txt K mg) : FnOk P w K mg base CX0 2 T.a_law_generator T.fd_law_generator ["_law_script", "_law_index"] (sp_law_generator K) := by
  refine T.F_law_generator.ok sc_law_generator (fun vs H Q E h => ?_) (fun cdv A outer s H vs Q E hr h => ?_)
  · obtain ⟨a, ns, i, rfl, _⟩ := h; rfl
  obtain ⟨a, ns, i, rfl, ha, q⟩ := h
  refine ⟨_, (pss_cons (ps_set (i := 2) sc_law_generator.nd rfl (by first | exact Or.inl rfl | exact Or.inr rfl) (pe_call (ok_law_cell T) (hr.mono (by first | decide | omega)) (by rfl) T.m_law_cell T.F_law_cell.kp T.b_law_cell .nil pass0 (pa_cons (pv 0) (pa_cons (pv 1) pa_nil))))
    (pss_one (ps_ret (pe_lst (pa_cons (pe_op op_mod (pe_callTy call_intI (by rfl) T.z_int (by decide +kernel) (pa_cons (pe_callB (call_max2 rfl) (by rfl) T.z_max (by decide +kernel) (pa_cons (pe_op op_sub (pv 2) (pe_op op_powB pe_int pe_int)) (pa_cons pe_int pa_nil))) pa_nil)) (pe_op op_powB (pe_op op_powB pe_int pe_int) pe_int)) (pa_cons (pe_op op_mod (pe_callTy call_intI (by rfl) T.z_int (by decide +kernel) (pa_cons (pv 2) pa_nil)) pe_int) (pa_cons (pe_op op_mul pe_int (pv 1)) pa_nil))))))), ?_⟩
  simp only [cxOf_K, tAsg2, tYes, wipe, tSeq, tIfS, tNot, tB, tCB, tCons, tNil, tVar, tC, tTest, tOp, tAnd, tOr, tAsg, gName, tRet, tRetN, tDrop, tNext, tIf, tCall, tTup, tLst, tNotV, tAndV, tOrV, tUn, rI0, rI, rU, rEq, rNe, tM1, tM0, tBM, tBM0, tSl, tPart, tNoPart, iStr, iEnumS, iRng1, iRng2, iList, gSub, tBits, tAug, tPar, L2.start, List.map_cons, List.map_nil, List.length_cons, List.length_nil, List.getElem?_cons_zero, List.getElem?_cons_succ, List.cons_append, List.nil_append, List.append_nil, List.set_cons_zero, List.set_cons_succ, List.replicate_succ, List.replicate_zero, Option.some.injEq, exists_eq_left', V.int.injEq, V.str.injEq, V.ref.injEq, V.bl.injEq, exists_and_left, exists_eq_left, List.cons.injEq, and_true, true_and, tCallX, tRs]
  refine ⟨a, ns, i, rfl, ha, ?_⟩
  simp only [cxOf_K, tAsg2, tYes, wipe, tSeq, tIfS, tNot, tB, tCB, tCons, tNil, tVar, tC, tTest, tOp, tAnd, tOr, tAsg, gName, tRet, tRetN, tDrop, tNext, tIf, tCall, tTup, tLst, tNotV, tAndV, tOrV, tUn, rI0, rI, rU, rEq, rNe, tM1, tM0, tBM, tBM0, tSl, tPart, tNoPart, iStr, iEnumS, iRng1, iRng2, iList, gSub, tBits, tAug, tPar, L2.start, List.map_cons, List.map_nil, List.length_cons, List.length_nil, List.getElem?_cons_zero, List.getElem?_cons_succ, List.cons_append, List.nil_append, List.append_nil, List.set_cons_zero, List.set_cons_succ, List.replicate_succ, List.replicate_zero, Option.some.injEq, exists_eq_left', V.int.injEq, V.str.injEq, V.ref.injEq, V.bl.injEq, exists_and_left, exists_eq_left, List.cons.injEq, and_true, true_and, tCallX, tRs]
  refine ⟨⟨by decide, by decide +kernel⟩, _, _, ⟨rfl, rfl⟩, ⟨by decide, by decide +kernel⟩, ⟨by decide, by decide +kernel⟩, by decide +kernel, by decide, cmulL (by decide), by decide, fun g hg => ?_⟩
  exact q g _ hg ((L2.Same.refl H).new hg _) ⟨_, _, _, upd_same, by omega, by omega⟩
theorem ok_law_random (T : Txt K mg) : FnOk P w K mg base CX0 2 T.a_law_random T.fd_law_random ["_law_generator_here", "_law_bound"] (sp_law_random K) := by
  refine T.F_law_random.ok sc_law_random (fun vs H Q E h => ?_) (fun cdv A outer s H vs Q E hr h => ?_)
  · obtain ⟨g, b, n, rfl, _⟩ := h; rfl
  obtain ⟨g, b, n, rfl, ⟨x, y, z, hg, z0, z1⟩, hn, b0, b1, q⟩ := h
  refine ⟨_, (pss_cons (ps_if (pt_cmpR op_gt (pe_ix ix_list (pv 0) pe_int (fun _ _ => rfl)) pe_int (nomark _)) (pss_cons (ps_set (i := 2) sc_law_random.nd rfl (by first | exact Or.inl rfl | exact Or.inr rfl) (pe_op op_mod (pe_callTy call_intI (by rfl) T.z_int (by decide +kernel) (pa_cons (pe_ix ix_list (pv 0) pe_int (fun _ _ => rfl)) pa_nil)) (pv 1)))
    (pss_cons (ps_asg (pe_op op_fdivW (pe_ix ix_list (pv 0) pe_int (fun _ _ => rfl)) (pv 1)) (pg_sub (pv 0) pe_int set_list))
    (pss_one (ps_ret (pv 2))))) pss_nil)
    (pss_cons (ps_set (i := 2) sc_law_random.nd rfl (by first | exact Or.inl rfl | exact Or.inr rfl) pe_int)
    (pss_cons (ps_for PassesOwn.never rfl (pi_range1 rfl T.z_range (pa_cons (pe_op op_add pe_int (pe_op op_fdivW (pe_bits (pv 1)) pe_int)) pa_nil)) (pg_name (i := 3) sc_law_random.nd rfl (by first | exact Or.inl rfl | exact Or.inr rfl)) (pss_cons (ps_asg (pe_op op_add (pe_ix ix_list (pv 0) pe_int (fun _ _ => rfl)) pe_int) (pg_sub (pv 0) pe_int set_list))
    (pss_one (ps_set (i := 2) sc_law_random.nd rfl (by first | exact Or.inl rfl | exact Or.inr rfl) (pe_op op_add (pe_op op_mul (pv 2) pe_int) (pe_call (ok_law_hash T) (hr.mono (by first | decide | omega)) (by rfl) T.m_law_hash T.F_law_hash.kp T.b_law_hash .nil pass0 (pa_cons (pe_ix ix_list (pv 0) pe_int (fun _ _ => rfl)) (pa_cons (pe_ix ix_list (pv 0) pe_int (fun _ _ => rfl)) pa_nil))))))))
    (pss_one (ps_ret (pe_op op_mod (pe_callTy call_intI (by rfl) T.z_int (by decide +kernel) (pa_cons (pv 2) pa_nil)) (pv 1))))))), ?_⟩
  simp only [cxOf_K, tAsg2, tYes, wipe, tSeq, tIfS, tNot, tB, tCB, tCons, tNil, tVar, tC, tTest, tOp, tAnd, tOr, tAsg, gName, tRet, tRetN, tDrop, tNext, tIf, tCall, tTup, tLst, tNotV, tAndV, tOrV, tUn, rI0, rI, rU, rEq, rNe, tM1, tM0, tBM, tBM0, tSl, tPart, tNoPart, iStr, iEnumS, iRng1, iRng2, iList, gSub, tBits, tAug, tPar, L2.start, List.map_cons, List.map_nil, List.length_cons, List.length_nil, List.getElem?_cons_zero, List.getElem?_cons_succ, List.cons_append, List.nil_append, List.append_nil, List.set_cons_zero, List.set_cons_succ, List.replicate_succ, List.replicate_zero, Option.some.injEq, exists_eq_left', V.int.injEq, V.str.injEq, V.ref.injEq, V.bl.injEq, exists_and_left, exists_eq_left, List.cons.injEq, and_true, true_and, tCallX, tRs]
  refine ⟨g, _, 0, .int x, rfl, rfl, SqL.of hg, rfl, ?_⟩
  simp only [cxOf_K, tAsg2, tYes, wipe, tSeq, tIfS, tNot, tB, tCB, tCons, tNil, tVar, tC, tTest, tOp, tAnd, tOr, tAsg, gName, tRet, tRetN, tDrop, tNext, tIf, tCall, tTup, tLst, tNotV, tAndV, tOrV, tUn, rI0, rI, rU, rEq, rNe, tM1, tM0, tBM, tBM0, tSl, tPart, tNoPart, iStr, iEnumS, iRng1, iRng2, iList, gSub, tBits, tAug, tPar, L2.start, List.map_cons, List.map_nil, List.length_cons, List.length_nil, List.getElem?_cons_zero, List.getElem?_cons_succ, List.cons_append, List.nil_append, List.append_nil, List.set_cons_zero, List.set_cons_succ, List.replicate_succ, List.replicate_zero, Option.some.injEq, exists_eq_left', V.int.injEq, V.str.injEq, V.ref.injEq, V.bl.injEq, exists_and_left, exists_eq_left, List.cons.injEq, and_true, true_and, tCallX, tRs]
  by_cases hx : 0 < x
  · refine ifdT hx ⟨g, _, 0, .int x, rfl, rfl, SqL.of hg, rfl, ?_⟩
    simp only [cxOf_K, tAsg2, tYes, wipe, tSeq, tIfS, tNot, tB, tCB, tCons, tNil, tVar, tC, tTest, tOp, tAnd, tOr, tAsg, gName, tRet, tRetN, tDrop, tNext, tIf, tCall, tTup, tLst, tNotV, tAndV, tOrV, tUn, rI0, rI, rU, rEq, rNe, tM1, tM0, tBM, tBM0, tSl, tPart, tNoPart, iStr, iEnumS, iRng1, iRng2, iList, gSub, tBits, tAug, tPar, L2.start, List.map_cons, List.map_nil, List.length_cons, List.length_nil, List.getElem?_cons_zero, List.getElem?_cons_succ, List.cons_append, List.nil_append, List.append_nil, List.set_cons_zero, List.set_cons_succ, List.replicate_succ, List.replicate_zero, Option.some.injEq, exists_eq_left', V.int.injEq, V.str.injEq, V.ref.injEq, V.bl.injEq, exists_and_left, exists_eq_left, List.cons.injEq, and_true, true_and, tCallX, tRs]
    refine ⟨by omega, g, _, 0, .int x, rfl, rfl, SqL.of hg, rfl, ?_⟩
    simp only [cxOf_K, tAsg2, tYes, wipe, tSeq, tIfS, tNot, tB, tCB, tCons, tNil, tVar, tC, tTest, tOp, tAnd, tOr, tAsg, gName, tRet, tRetN, tDrop, tNext, tIf, tCall, tTup, tLst, tNotV, tAndV, tOrV, tUn, rI0, rI, rU, rEq, rNe, tM1, tM0, tBM, tBM0, tSl, tPart, tNoPart, iStr, iEnumS, iRng1, iRng2, iList, gSub, tBits, tAug, tPar, L2.start, List.map_cons, List.map_nil, List.length_cons, List.length_nil, List.getElem?_cons_zero, List.getElem?_cons_succ, List.cons_append, List.nil_append, List.append_nil, List.set_cons_zero, List.set_cons_succ, List.replicate_succ, List.replicate_zero, Option.some.injEq, exists_eq_left', V.int.injEq, V.str.injEq, V.ref.injEq, V.bl.injEq, exists_and_left, exists_eq_left, List.cons.injEq, and_true, true_and, tCallX, tRs]
    refine ⟨cdivW b0 b1, g, _, 0, 0, rfl, rfl, hg, rfl, ?_⟩
    exact q _ _ (Int.emod_nonneg _ (by omega)) (Int.emod_lt_of_pos _ (by omega)) (fun p o hp ho => by rw [upd_ne hp]; exact ho) ⟨_, _, _, upd_same, z0, by omega⟩
  · refine ifdF hx ?_
    have hb : (Builtin.Int.intBits b : Int) ≤ 50 := by
      have : Builtin.Int.intBits b ≤ 50 := PyProof.Rows.intBits_le (by omega)
      omega
    have hj0 : (0 : Int) ≤ 1 + (Builtin.Int.intBits b : Int) / 30 := by omega
    have hj1 : (1 : Int) + (Builtin.Int.intBits b : Int) / 30 ≤ 2 := by omega
    refine ⟨_, rfl, _, rfl, _, _, rfl, rfl, cdivW (by decide) (by decide), _, _, rfl, rfl, _, rfl, by omega, by omega, for_range (fun i σ H' => ∃ (d : Int) (a3 : Option V) (z' : Int), σ = [some (.ref g), some (.int b), some (.int d), a3] ∧ Keep g H H' ∧ H' g = some (.lst [.int x, .int y, .int z']) ∧ z' = z + i)
      ⟨0, none, z, rfl, fun p o _ ho => ho, hg, by simp⟩ ?_ ?_⟩
    · rintro i σ H' hi ⟨d, a3, z', rfl, k0, hg', rfl⟩
      simp only [cxOf_K, tAsg2, tYes, wipe, tSeq, tIfS, tNot, tB, tCB, tCons, tNil, tVar, tC, tTest, tOp, tAnd, tOr, tAsg, gName, tRet, tRetN, tDrop, tNext, tIf, tCall, tTup, tLst, tNotV, tAndV, tOrV, tUn, rI0, rI, rU, rEq, rNe, tM1, tM0, tBM, tBM0, tSl, tPart, tNoPart, iStr, iEnumS, iRng1, iRng2, iList, gSub, tBits, tAug, tPar, L2.start, List.map_cons, List.map_nil, List.length_cons, List.length_nil, List.getElem?_cons_zero, List.getElem?_cons_succ, List.cons_append, List.nil_append, List.append_nil, List.set_cons_zero, List.set_cons_succ, List.replicate_succ, List.replicate_zero, Option.some.injEq, exists_eq_left', V.int.injEq, V.str.injEq, V.ref.injEq, V.bl.injEq, exists_and_left, exists_eq_left, List.cons.injEq, and_true, true_and, tCallX, tRs]
      refine ⟨g, _, 2, .int (z + i), rfl, rfl, SqL.of hg', rfl, ?_⟩
      simp only [cxOf_K, tAsg2, tYes, wipe, tSeq, tIfS, tNot, tB, tCB, tCons, tNil, tVar, tC, tTest, tOp, tAnd, tOr, tAsg, gName, tRet, tRetN, tDrop, tNext, tIf, tCall, tTup, tLst, tNotV, tAndV, tOrV, tUn, rI0, rI, rU, rEq, rNe, tM1, tM0, tBM, tBM0, tSl, tPart, tNoPart, iStr, iEnumS, iRng1, iRng2, iList, gSub, tBits, tAug, tPar, L2.start, List.map_cons, List.map_nil, List.length_cons, List.length_nil, List.getElem?_cons_zero, List.getElem?_cons_succ, List.cons_append, List.nil_append, List.append_nil, List.set_cons_zero, List.set_cons_succ, List.replicate_succ, List.replicate_zero, Option.some.injEq, exists_eq_left', V.int.injEq, V.str.injEq, V.ref.injEq, V.bl.injEq, exists_and_left, exists_eq_left, List.cons.injEq, and_true, true_and, tCallX, tRs]
      refine ⟨g, _, 2, 2, rfl, rfl, hg', rfl, ?_⟩
      refine ⟨cmulR (by decide), g, _, 1, .int y, rfl, rfl, SqL.of upd_same, rfl, ?_⟩
      refine ⟨g, _, 2, .int (z + i + 1), rfl, rfl, SqL.of upd_same, rfl, ?_⟩
      refine ⟨y, z + i + 1, rfl, by omega, by omega, fun r => ?_⟩
      simp only [cxOf_K, tAsg2, tYes, wipe, tSeq, tIfS, tNot, tB, tCB, tCons, tNil, tVar, tC, tTest, tOp, tAnd, tOr, tAsg, gName, tRet, tRetN, tDrop, tNext, tIf, tCall, tTup, tLst, tNotV, tAndV, tOrV, tUn, rI0, rI, rU, rEq, rNe, tM1, tM0, tBM, tBM0, tSl, tPart, tNoPart, iStr, iEnumS, iRng1, iRng2, iList, gSub, tBits, tAug, tPar, L2.start, List.map_cons, List.map_nil, List.length_cons, List.length_nil, List.getElem?_cons_zero, List.getElem?_cons_succ, List.cons_append, List.nil_append, List.append_nil, List.set_cons_zero, List.set_cons_succ, List.replicate_succ, List.replicate_zero, Option.some.injEq, exists_eq_left', V.int.injEq, V.str.injEq, V.ref.injEq, V.bl.injEq, exists_and_left, exists_eq_left, List.cons.injEq, and_true, true_and, tCallX, tRs]
      exact ⟨_, _, ⟨rfl, rfl⟩, fun p o hp ho => by rw [upd_ne hp]; exact k0 p o hp ho, z + i + 1, by rw [upd_same], by omega⟩
    · rintro σ H' ⟨d, a3, z', rfl, k0, hg', rfl⟩
      simp only [cxOf_K, tAsg2, tYes, wipe, tSeq, tIfS, tNot, tB, tCB, tCons, tNil, tVar, tC, tTest, tOp, tAnd, tOr, tAsg, gName, tRet, tRetN, tDrop, tNext, tIf, tCall, tTup, tLst, tNotV, tAndV, tOrV, tUn, rI0, rI, rU, rEq, rNe, tM1, tM0, tBM, tBM0, tSl, tPart, tNoPart, iStr, iEnumS, iRng1, iRng2, iList, gSub, tBits, tAug, tPar, L2.start, List.map_cons, List.map_nil, List.length_cons, List.length_nil, List.getElem?_cons_zero, List.getElem?_cons_succ, List.cons_append, List.nil_append, List.append_nil, List.set_cons_zero, List.set_cons_succ, List.replicate_succ, List.replicate_zero, Option.some.injEq, exists_eq_left', V.int.injEq, V.str.injEq, V.ref.injEq, V.bl.injEq, exists_and_left, exists_eq_left, List.cons.injEq, and_true, true_and, tCallX, tRs]
      exact ⟨by omega, q _ _ (Int.emod_nonneg _ (by omega)) (Int.emod_lt_of_pos _ (by omega)) k0 ⟨_, _, _, hg', by omega, by omega⟩⟩

theorem Keep.trans {g : Addr} {H H1 H2 : Hp} (a : Keep g H H1) (b : Keep g H1 H2) : Keep g H H2 := fun p o hp ho => b p o hp (a p o hp ho)
theorem Keep.new {g p : Addr} {H H' : Hp} (a : Keep g H H') (hp : H p = none) (o : HO) : Keep g H (upd H' p o) := fun b u hb hu => by
  rw [upd_ne (ne_of_none hu hp)]; exact a b u hb hu
theorem Keep.of {g : Addr} {H H' : Hp} (a : Same H H') : Keep g H H' := fun p o _ ho => a p o ho
theorem GenAt.same {g : Addr} {H H' : Hp} {n : Nat} (h : GenAt H g n) (s : Same H H') : GenAt H' g n := by
  obtain ⟨a, b, c, h, x, y⟩ := h
  exact ⟨a, b, c, s _ _ h, x, y⟩
theorem GenAt.new {g p : Addr} {H : Hp} {n : Nat} {o : HO} (h : GenAt H g n) (hp : H p = none) : GenAt (upd H p o) g n := by
  obtain ⟨a, b, c, h, x, y⟩ := h
  exact ⟨a, b, c, by rw [upd_ne (ne_of_none h hp)]; exact h, x, y⟩
theorem GenAt.mono {g : Addr} {H : Hp} {n m : Nat} (h : GenAt H g n) (l : n ≤ m) : GenAt H g m := by
  obtain ⟨a, b, c, h, x, y⟩ := h
  exact ⟨a, b, c, h, x, by omega⟩
theorem GenAt.some {g : Addr} {H : Hp} {n : Nat} (h : GenAt H g n) : ∃ o, H g = some o := by
  obtain ⟨a, b, c, h, x, y⟩ := h
  exact ⟨_, h⟩
theorem Keep.free {g p : Addr} {H H' : Hp} (k : Keep g H H') (hg : ∃ o, H' g = some o) (h : H' p = none) (hgH : ∃ o, H g = some o) : H p = none := by
  cases e : H p with
  | none => rfl
  | some o =>
    obtain ⟨o', ho'⟩ := hg
    have : p ≠ g := fun z => by rw [z, ho'] at h; cases h
    rw [k p o this e] at h; cases h
theorem lit_str (t : Tr) : ("." : Str) = S t.cs ↔ t = .leaf := by
  rw [lit_dot, S_iff]
  constructor
  · intro h; exact Tr.cs_inj (t := .leaf) h.symm
  · intro h; rw [h]; rfl
theorem ok_law_tree (T : Txt K mg) : ∀ k : Nat, FnOk P w K mg base CX0 (k + 2) T.a_law_tree T.fd_law_tree ["_law_generator_here", "_law_many"] (sp_law_tree K k)
  | 0 => by
    have no : ∀ vs H Q E, ¬ sp_law_tree K 0 vs H Q E := fun vs H Q E h => by
      obtain ⟨_, _, _, _, h, _⟩ := h
      omega
    exact ⟨fun vs H Q E h => absurd h (no vs H Q E), fun A outer s H args us vs Q E _ _ _ _ h => absurd h (no vs H Q E)⟩
  | k + 1 => by
    have rec_law_tree := ok_law_tree T k
    refine T.F_law_tree.ok sc_law_tree (fun vs H Q E h => ?_) (fun cdv A outer s H vs Q E hr h => ?_)
    · obtain ⟨g, m, n, rfl, _⟩ := h; rfl
    obtain ⟨g, m, n, rfl, hm, hm2, hg, hn, q⟩ := h
    refine ⟨_, (pss_cons (ps_if (pt_cmpR op_eq (pv 1) pe_int (nomark _)) (pss_one (ps_ret pe_str)) pss_nil)
    (pss_cons (ps_set (i := 2) sc_law_tree.nd rfl (by first | exact Or.inl rfl | exact Or.inr rfl) (pe_ix ix_list (pe_lst (pa_cons pe_int (pa_cons (pe_op op_sub (pv 1) pe_int) (pa_cons (pe_call (ok_law_random T) (hr.mono (by first | decide | omega)) (by rfl) T.m_law_random T.F_law_random.kp T.b_law_random .nil pass0 (pa_cons (pv 0) (pa_cons (pv 1) pa_nil))) (pa_cons (pe_op op_fdivW (pv 1) pe_int) pa_nil))))) (pe_call (ok_law_random T) (hr.mono (by first | decide | omega)) (by rfl) T.m_law_random T.F_law_random.kp T.b_law_random .nil pass0 (pa_cons (pv 0) (pa_cons pe_int pa_nil))) (fun _ _ => rfl)))
    (pss_one (ps_ret (pe_op op_add_str (pe_op op_add_str (pe_op op_add_str pe_str (pe_call rec_law_tree (hr.mono (by first | decide | omega)) (by rfl) T.m_law_tree T.F_law_tree.kp T.b_law_tree .nil pass0 (pa_cons (pv 0) (pa_cons (pv 2) pa_nil)))) (pe_call rec_law_tree (hr.mono (by first | decide | omega)) (by rfl) T.m_law_tree T.F_law_tree.kp T.b_law_tree .nil pass0 (pa_cons (pv 0) (pa_cons (pe_op op_sub (pe_op op_sub (pv 1) pe_int) (pv 2)) pa_nil)))) pe_str))))), ?_⟩
    simp only [cxOf_K, tAsg2, tYes, wipe, tSeq, tIfS, tNot, tB, tCB, tCons, tNil, tVar, tC, tTest, tOp, tAnd, tOr, tAsg, gName, tRet, tRetN, tDrop, tNext, tIf, tCall, tTup, tLst, tNotV, tAndV, tOrV, tUn, rI0, rI, rU, rEq, rNe, tM1, tM0, tBM, tBM0, tSl, tPart, tNoPart, iStr, iEnumS, iRng1, iRng2, iList, gSub, tBits, tAug, tPar, L2.start, List.map_cons, List.map_nil, List.length_cons, List.length_nil, List.getElem?_cons_zero, List.getElem?_cons_succ, List.cons_append, List.nil_append, List.append_nil, List.set_cons_zero, List.set_cons_succ, List.replicate_succ, List.replicate_zero, Option.some.injEq, exists_eq_left', V.int.injEq, V.str.injEq, V.ref.injEq, V.bl.injEq, exists_and_left, exists_eq_left, List.cons.injEq, and_true, true_and, tCallX, tRs]
    refine ⟨rfl, ?_⟩
    by_cases h0 : (m : Int) = 0
    · refine ifdT h0 ?_
      have : m = 0 := by omega
      subst this
      rw [lit_dot]
      exact q .leaf H rfl (fun p o _ ho => ho) (hg.mono (by omega))
    · refine ifdF h0 ?_
      have hm0 : 0 < m := by omega
      refine ⟨g, m, n, rfl, hg, by omega, by omega, by omega, fun r H1 r0 r1 k1 g1 => ?_⟩
      simp only [cxOf_K, tAsg2, tYes, wipe, tSeq, tIfS, tNot, tB, tCB, tCons, tNil, tVar, tC, tTest, tOp, tAnd, tOr, tAsg, gName, tRet, tRetN, tDrop, tNext, tIf, tCall, tTup, tLst, tNotV, tAndV, tOrV, tUn, rI0, rI, rU, rEq, rNe, tM1, tM0, tBM, tBM0, tSl, tPart, tNoPart, iStr, iEnumS, iRng1, iRng2, iList, gSub, tBits, tAug, tPar, L2.start, List.map_cons, List.map_nil, List.length_cons, List.length_nil, List.getElem?_cons_zero, List.getElem?_cons_succ, List.cons_append, List.nil_append, List.append_nil, List.set_cons_zero, List.set_cons_succ, List.replicate_succ, List.replicate_zero, Option.some.injEq, exists_eq_left', V.int.injEq, V.str.injEq, V.ref.injEq, V.bl.injEq, exists_and_left, exists_eq_left, List.cons.injEq, and_true, true_and, tCallX, tRs]
      refine ⟨cdivW (by decide) (by decide), by decide, fun p hp => ?_⟩
      have g1' := g1.new (o := .lst [.int 0, .int ((m : Int) - 1), .int r, .int ((m : Int) / 2)]) hp
      refine ⟨g, 4, n + 3, rfl, g1', by omega, by decide, by decide, fun r2 H2 r20 r21 k2 g2 => ?_⟩
      obtain ⟨og, hog⟩ := hg.some
      have hgp : g ≠ p := by obtain ⟨o, ho⟩ := g1.some; exact ne_of_none ho hp
      have hp2 : H2 p = some (.lst [.int 0, .int ((m : Int) - 1), .int r, .int ((m : Int) / 2)]) := k2 p _ hgp.symm upd_same
      have hp0 : H p = none := k1.free g1.some hp ⟨_, hog⟩
      have k2' : Keep g H H2 := (k1.new hp0 _).trans k2
      obtain ⟨L, hL, hL2⟩ : ∃ L : Nat, atI [V.int 0, .int ((m : Int) - 1), .int r, .int ((m : Int) / 2)] r2 = some (.int (L : Nat)) ∧ L < m := by
        have : r2 = 0 ∨ r2 = 1 ∨ r2 = 2 ∨ r2 = 3 := by omega
        rcases this with rfl | rfl | rfl | rfl
        · exact ⟨0, rfl, hm0⟩
        · exact ⟨m - 1, by rw [show ((m - 1 : Nat) : Int) = (m : Int) - 1 by omega]; rfl, by omega⟩
        · exact ⟨r.toNat, by rw [show ((r.toNat : Nat) : Int) = r by omega]; rfl, by omega⟩
        · exact ⟨m / 2, by rw [show ((m / 2 : Nat) : Int) = (m : Int) / 2 by omega]; rfl, by omega⟩
      refine ⟨p, _, r2, .int (L : Nat), rfl, rfl, SqL.of hp2, hL, ?_⟩
      simp only [cxOf_K, tAsg2, tYes, wipe, tSeq, tIfS, tNot, tB, tCB, tCons, tNil, tVar, tC, tTest, tOp, tAnd, tOr, tAsg, gName, tRet, tRetN, tDrop, tNext, tIf, tCall, tTup, tLst, tNotV, tAndV, tOrV, tUn, rI0, rI, rU, rEq, rNe, tM1, tM0, tBM, tBM0, tSl, tPart, tNoPart, iStr, iEnumS, iRng1, iRng2, iList, gSub, tBits, tAug, tPar, L2.start, List.map_cons, List.map_nil, List.length_cons, List.length_nil, List.getElem?_cons_zero, List.getElem?_cons_succ, List.cons_append, List.nil_append, List.append_nil, List.set_cons_zero, List.set_cons_succ, List.replicate_succ, List.replicate_zero, Option.some.injEq, exists_eq_left', V.int.injEq, V.str.injEq, V.ref.injEq, V.bl.injEq, exists_and_left, exists_eq_left, List.cons.injEq, and_true, true_and, tCallX, tRs]
      refine ⟨g, L, n + 3 + 3, rfl, by omega, by omega, g2, by omega, fun t1 H3 ht1 k3 g3 => ?_⟩
      have l1 : t1.cs.length = 3 * L + 1 := by rw [Tr.cs_length, Tr.len_size, ht1]
      simp only [cxOf_K, tAsg2, tYes, wipe, tSeq, tIfS, tNot, tB, tCB, tCons, tNil, tVar, tC, tTest, tOp, tAnd, tOr, tAsg, gName, tRet, tRetN, tDrop, tNext, tIf, tCall, tTup, tLst, tNotV, tAndV, tOrV, tUn, rI0, rI, rU, rEq, rNe, tM1, tM0, tBM, tBM0, tSl, tPart, tNoPart, iStr, iEnumS, iRng1, iRng2, iList, gSub, tBits, tAug, tPar, L2.start, List.map_cons, List.map_nil, List.length_cons, List.length_nil, List.getElem?_cons_zero, List.getElem?_cons_succ, List.cons_append, List.nil_append, List.append_nil, List.set_cons_zero, List.set_cons_succ, List.replicate_succ, List.replicate_zero, Option.some.injEq, exists_eq_left', V.int.injEq, V.str.injEq, V.ref.injEq, V.bl.injEq, exists_and_left, exists_eq_left, List.cons.injEq, and_true, true_and, tCallX, tRs]
      refine ⟨by rw [lit_open]; simp only [S_len, List.length_append, List.length_cons, List.length_nil]; exact small5 (by omega), ?_⟩
      refine ⟨g, m - 1 - L, n + 3 + 3 + 6 * L, by rw [show ((m - 1 - L : Nat) : Int) = (m : Int) - 1 - (L : Int) by omega], by omega, by omega, g3, by omega, fun t2 H4 ht2 k4 g4 => ?_⟩
      have l2 : t2.cs.length = 3 * (m - 1 - L) + 1 := by rw [Tr.cs_length, Tr.len_size, ht2]
      simp only [cxOf_K, tAsg2, tYes, wipe, tSeq, tIfS, tNot, tB, tCB, tCons, tNil, tVar, tC, tTest, tOp, tAnd, tOr, tAsg, gName, tRet, tRetN, tDrop, tNext, tIf, tCall, tTup, tLst, tNotV, tAndV, tOrV, tUn, rI0, rI, rU, rEq, rNe, tM1, tM0, tBM, tBM0, tSl, tPart, tNoPart, iStr, iEnumS, iRng1, iRng2, iList, gSub, tBits, tAug, tPar, L2.start, List.map_cons, List.map_nil, List.length_cons, List.length_nil, List.getElem?_cons_zero, List.getElem?_cons_succ, List.cons_append, List.nil_append, List.append_nil, List.set_cons_zero, List.set_cons_succ, List.replicate_succ, List.replicate_zero, Option.some.injEq, exists_eq_left', V.int.injEq, V.str.injEq, V.ref.injEq, V.bl.injEq, exists_and_left, exists_eq_left, List.cons.injEq, and_true, true_and, tCallX, tRs]
      rw [lit_open, lit_close, S_app, S_app, S_app, S_len, S_len]
      refine ⟨by simp only [S_len, List.length_append, List.length_cons, List.length_nil]; exact small5 (by omega), by simp only [S_len, List.length_append, List.length_cons, List.length_nil]; exact small5 (by omega), ?_⟩
      have ek : [40] ++ t1.cs ++ t2.cs ++ [41] = (Tr.node t1 t2).cs := by simp [Tr.cs]
      rw [ek]
      exact q (.node t1 t2) H4 (by show t1.size + t2.size + 1 = m; omega) (k2'.trans (k3.trans k4)) (g4.mono (by omega))

theorem ok_law_trees (T : Txt K mg) : FnOk P w K mg base CX0 43 T.a_law_trees T.fd_law_trees ["_law_generator_here", "_law_many"] (sp_law_trees K) := by
  refine T.F_law_trees.ok sc_law_trees (fun vs H Q E h => ?_) (fun cdv A outer s H vs Q E hr h => ?_)
  · obtain ⟨g, m, n, rfl, _⟩ := h; rfl
  obtain ⟨g, m, n, rfl, hm, hg, hn, q⟩ := h
  refine ⟨_, (pss_cons (ps_set (i := 2) sc_law_trees.nd rfl (by first | exact Or.inl rfl | exact Or.inr rfl) (pe_lst pa_nil))
    (pss_cons (ps_for PassesOwn.never rfl (pi_range1 rfl T.z_range (pa_cons (pv 1) pa_nil)) (pg_name (i := 3) sc_law_trees.nd rfl (by first | exact Or.inl rfl | exact Or.inr rfl)) (pss_one (ps_expr (pe_bm PySem.F.plainAttrs_list PySem.F.slot_list_append PySem.F.type_list_append mt_append (pv 2) (pa_cons (pe_ifExp (pt_cmpR op_lt (pv 3) pe_int (nomark _)) (pe_call (ok_law_tree T 40) (hr.mono (by first | decide | omega)) (by rfl) T.m_law_tree T.F_law_tree.kp T.b_law_tree .nil pass0 (pa_cons (pv 0) (pa_cons (pe_ix ix_list (pe_lst (pa_cons pe_int (pa_cons pe_int (pa_cons pe_int (pa_cons pe_int (pa_cons pe_int pa_nil)))))) (pe_call (ok_law_random T) (hr.mono (by first | decide | omega)) (by rfl) T.m_law_random T.F_law_random.kp T.b_law_random .nil pass0 (pa_cons (pv 0) (pa_cons pe_int pa_nil))) (fun _ _ => rfl)) pa_nil))) pe_str) pa_nil)))))
    (pss_one (ps_ret (pv 2))))), ?_⟩
  simp only [cxOf_K, tAsg2, tYes, wipe, tSeq, tIfS, tNot, tB, tCB, tCons, tNil, tVar, tC, tTest, tOp, tAnd, tOr, tAsg, gName, tRet, tRetN, tDrop, tNext, tIf, tCall, tTup, tLst, tNotV, tAndV, tOrV, tUn, rI0, rI, rU, rEq, rNe, tM1, tM0, tBM, tBM0, tSl, tPart, tNoPart, iStr, iEnumS, iRng1, iRng2, iList, gSub, tBits, tAug, tPar, L2.start, List.map_cons, List.map_nil, List.length_cons, List.length_nil, List.getElem?_cons_zero, List.getElem?_cons_succ, List.cons_append, List.nil_append, List.append_nil, List.set_cons_zero, List.set_cons_succ, List.replicate_succ, List.replicate_zero, Option.some.injEq, exists_eq_left', V.int.injEq, V.str.injEq, V.ref.injEq, V.bl.injEq, exists_and_left, exists_eq_left, List.cons.injEq, and_true, true_and, tCallX, tRs]
  refine ⟨by decide, fun p hp => ?_⟩
  obtain ⟨og, hog⟩ := hg.some
  have hgp : g ≠ p := ne_of_none hog hp
  refine ⟨_, rfl, _, rfl, by omega, by omega, for_range (fun i σ H' => ∃ (xs : List Tr) (a3 : Option V), σ = [some (.ref g), some (.int m), some (.ref p), a3] ∧ Keep g H H' ∧ GenAt H' g (n + 21 * i) ∧ H' p = some (.lst (xs.map trV)) ∧ xs.length = i ∧ ∀ x ∈ xs, x.size ≤ 3)
    ⟨[], none, rfl, (Keep.of (L2.Same.refl H)).new hp _, hg.new hp, upd_same, rfl, fun _ h => nomatch h⟩ ?_ ?_⟩
  · rintro i σ H1 hi ⟨xs, a3, rfl, k1, g1, h1, hl, hx⟩
    rw [Int.toNat_natCast] at hi
    simp only [cxOf_K, tAsg2, tYes, wipe, tSeq, tIfS, tNot, tB, tCB, tCons, tNil, tVar, tC, tTest, tOp, tAnd, tOr, tAsg, gName, tRet, tRetN, tDrop, tNext, tIf, tCall, tTup, tLst, tNotV, tAndV, tOrV, tUn, rI0, rI, rU, rEq, rNe, tM1, tM0, tBM, tBM0, tSl, tPart, tNoPart, iStr, iEnumS, iRng1, iRng2, iList, gSub, tBits, tAug, tPar, L2.start, List.map_cons, List.map_nil, List.length_cons, List.length_nil, List.getElem?_cons_zero, List.getElem?_cons_succ, List.cons_append, List.nil_append, List.append_nil, List.set_cons_zero, List.set_cons_succ, List.replicate_succ, List.replicate_zero, Option.some.injEq, exists_eq_left', V.int.injEq, V.str.injEq, V.ref.injEq, V.bl.injEq, exists_and_left, exists_eq_left, List.cons.injEq, and_true, true_and, tCallX, tRs]
    have fin : ∀ (H2 : Hp) (t : Tr), t.size ≤ 3 → Keep g H H2 → GenAt H2 g (n + 21 * (i + 1)) → H2 p = some (.lst (xs.map trV)) →
        rAppend (.ref p) [trV t] H2 fun v H3 => Keep g H H3 ∧ GenAt H3 g (n + 21 * (i + 1)) ∧ ∃ xs : List Tr, H3 p = some (.lst (xs.map trV)) ∧ xs.length = i + 1 ∧ ∀ x, x ∈ xs → x.size ≤ 3 := fun H2 t ht k2 g2 h2 => by
      refine ⟨p, _, _, rfl, rfl, h2, by rw [List.length_map]; exact small5' (by omega), k2.new hp _, ?_, xs ++ [t], by rw [upd_same]; simp, by simp [hl], fun x h => ?_⟩
      · obtain ⟨a, b, c, h, x, y⟩ := g2
        exact ⟨a, b, c, by rw [upd_ne hgp]; exact h, x, y⟩
      · rcases List.mem_append.mp h with h | h
        · exact hx x h
        · rw [List.mem_singleton.mp h]; exact ht
    refine ⟨tyV_lst h1, ?_⟩
    by_cases h30 : (0 : Int) + (i : Int) < 30
    · refine ifdT h30 ⟨by decide, fun z hz => ?_⟩
      have hgz : g ≠ z := by obtain ⟨o, ho⟩ := g1.some; exact ne_of_none ho hz
      have hpz : p ≠ z := ne_of_none h1 hz
      refine ⟨g, 5, n + 21 * i, rfl, g1.new hz, by omega, by decide, by decide, fun r H2 r0 r1 k2 g2 => ?_⟩
      have hz2 := k2 z _ hgz.symm upd_same
      have hp2 : H2 p = some (.lst (xs.map trV)) := k2 p _ hgp.symm (by rw [upd_ne hpz]; exact h1)
      have hz0 : H z = none := k1.free g1.some hz ⟨_, hog⟩
      obtain ⟨L, hL, hL2⟩ : ∃ L : Nat, atI [V.int 0, .int 0, .int 1, .int 2, .int 3] r = some (.int (L : Nat)) ∧ L ≤ 3 := by
        have : r = 0 ∨ r = 1 ∨ r = 2 ∨ r = 3 ∨ r = 4 := by omega
        rcases this with rfl | rfl | rfl | rfl | rfl
        · exact ⟨0, rfl, by decide⟩
        · exact ⟨0, rfl, by decide⟩
        · exact ⟨1, rfl, by decide⟩
        · exact ⟨2, rfl, by decide⟩
        · exact ⟨3, rfl, by decide⟩
      refine ⟨z, _, r, .int (L : Nat), rfl, rfl, SqL.of hz2, hL, ?_⟩
      simp only [cxOf_K, tAsg2, tYes, wipe, tSeq, tIfS, tNot, tB, tCB, tCons, tNil, tVar, tC, tTest, tOp, tAnd, tOr, tAsg, gName, tRet, tRetN, tDrop, tNext, tIf, tCall, tTup, tLst, tNotV, tAndV, tOrV, tUn, rI0, rI, rU, rEq, rNe, tM1, tM0, tBM, tBM0, tSl, tPart, tNoPart, iStr, iEnumS, iRng1, iRng2, iList, gSub, tBits, tAug, tPar, L2.start, List.map_cons, List.map_nil, List.length_cons, List.length_nil, List.getElem?_cons_zero, List.getElem?_cons_succ, List.cons_append, List.nil_append, List.append_nil, List.set_cons_zero, List.set_cons_succ, List.replicate_succ, List.replicate_zero, Option.some.injEq, exists_eq_left', V.int.injEq, V.str.injEq, V.ref.injEq, V.bl.injEq, exists_and_left, exists_eq_left, List.cons.injEq, and_true, true_and, tCallX, tRs]
      refine ⟨g, L, n + 21 * i + 3, rfl, by omega, by omega, g2, by omega, fun t H3 ht k3 g3 => ?_⟩
      exact fin H3 t (by omega) ((k1.new hz0 _).trans (k2.trans k3)) (g3.mono (by omega)) (k3 p _ hgp.symm hp2)
    · refine ifdF h30 ?_
      rw [lit_dot]
      exact fin H1 .leaf (by decide) k1 (g1.mono (by omega)) h1
  · rintro σ H1 ⟨xs, a3, rfl, k1, g1, h1, hl, hx⟩
    rw [Int.toNat_natCast] at g1 hl
    simp only [cxOf_K, tAsg2, tYes, wipe, tSeq, tIfS, tNot, tB, tCB, tCons, tNil, tVar, tC, tTest, tOp, tAnd, tOr, tAsg, gName, tRet, tRetN, tDrop, tNext, tIf, tCall, tTup, tLst, tNotV, tAndV, tOrV, tUn, rI0, rI, rU, rEq, rNe, tM1, tM0, tBM, tBM0, tSl, tPart, tNoPart, iStr, iEnumS, iRng1, iRng2, iList, gSub, tBits, tAug, tPar, L2.start, List.map_cons, List.map_nil, List.length_cons, List.length_nil, List.getElem?_cons_zero, List.getElem?_cons_succ, List.cons_append, List.nil_append, List.append_nil, List.set_cons_zero, List.set_cons_succ, List.replicate_succ, List.replicate_zero, Option.some.injEq, exists_eq_left', V.int.injEq, V.str.injEq, V.ref.injEq, V.bl.injEq, exists_and_left, exists_eq_left, List.cons.injEq, and_true, true_and, tCallX, tRs]
    exact q p xs H1 hl hx hp k1 g1 h1

theorem ok_law_text (T : Txt K mg) : ∀ k : Nat, FnOk P w K mg base CX0 (k + 2) T.a_law_text T.fd_law_text ["_law_parsed_here"] (sp_law_text K k)
  | 0 => by
    have no : ∀ vs H Q E, ¬ sp_law_text K 0 vs H Q E := fun vs H Q E h => by
      obtain ⟨_, _, _, _, h, _⟩ := h
      omega
    exact ⟨fun vs H Q E h => absurd h (no vs H Q E), fun A outer s H args us vs Q E _ _ _ _ h => absurd h (no vs H Q E)⟩
  | k + 1 => by
    have rec_law_text := ok_law_text T k
    refine T.F_law_text.ok sc_law_text (fun vs H Q E h => ?_) (fun cdv A outer s H vs Q E hr h => ?_)
    · obtain ⟨v, t, rfl, _⟩ := h; rfl
    obtain ⟨v, t, rfl, hv, hk, ht, hs, q⟩ := h
    have hru := hr.units
    refine ⟨_, (pss_cons (ps_if (pt_cmpR (op_eqD hru) (pv 0) (pe_tup pa_nil) (nomark _)) (pss_one (ps_ret pe_str)) pss_nil)
    (pss_one (ps_ret (pe_op op_add_str (pe_op op_add_str (pe_op op_add_str pe_str (pe_call rec_law_text (hr.mono (by first | decide | omega)) (by rfl) T.m_law_text T.F_law_text.kp T.b_law_text .nil pass0 (pa_cons (pe_ix ix_tup (pv 0) pe_int (fun _ _ => rfl)) pa_nil))) (pe_call rec_law_text (hr.mono (by first | decide | omega)) (by rfl) T.m_law_text T.F_law_text.kp T.b_law_text .nil pass0 (pa_cons (pe_ix ix_tup (pv 0) pe_int (fun _ _ => rfl)) pa_nil))) pe_str)))), ?_⟩
    simp only [cxOf_K, tAsg2, tYes, wipe, tSeq, tIfS, tNot, tB, tCB, tCons, tNil, tVar, tC, tTest, tOp, tAnd, tOr, tAsg, gName, tRet, tRetN, tDrop, tNext, tIf, tCall, tTup, tLst, tNotV, tAndV, tOrV, tUn, rI0, rI, rU, rEq, rNe, tM1, tM0, tBM, tBM0, tSl, tPart, tNoPart, iStr, iEnumS, iRng1, iRng2, iList, gSub, tBits, tAug, tPar, L2.start, List.map_cons, List.map_nil, List.length_cons, List.length_nil, List.getElem?_cons_zero, List.getElem?_cons_succ, List.cons_append, List.nil_append, List.append_nil, List.set_cons_zero, List.set_cons_succ, List.replicate_succ, List.replicate_zero, Option.some.injEq, exists_eq_left', V.int.injEq, V.str.injEq, V.ref.injEq, V.bl.injEq, exists_and_left, exists_eq_left, List.cons.injEq, and_true, true_and, tCallX, tRs]
    refine ⟨by decide, fun p hp => ?_⟩
    have s0 := (L2.Same.refl H).new hp (.tup [])
    refine eqLeaf (hv.same s0) ht upd_same ⟨_, rfl, ?_⟩
    cases hv with
    | leaf h =>
      rw [if_pos (by decide)]
      have := q _ s0
      rw [show trV .leaf = V.str "." from congrArg V.str lit_dot.symm] at this
      exact this
    | @node pn x y l r h hx hy =>
      rw [if_neg (by simp)]
      have e1 : Tr.hgt (Tr.node l r) = max (Tr.hgt l) (Tr.hgt r) + 1 := rfl
      have e2 : (Tr.node l r).size = l.size + r.size + 1 := rfl
      refine ⟨pn, _, 0, x, rfl, rfl, SqT.of (s0 _ _ h), rfl, ?_⟩
      refine ⟨x, l, rfl, hx.same s0, by omega, by omega, by omega, fun H1 s1 => ?_⟩
      have s1 := s0.trans s1
      have c1 := tr_len (t := l) (by omega)
      have c2 := tr_len (t := r) (by omega)
      refine ⟨_, rfl, by rw [lit_open, S_len, S_len]; exact small5 (by simp; omega), ?_⟩
      refine ⟨pn, _, 1, y, rfl, rfl, SqT.of (s1 _ _ h), rfl, ?_⟩
      refine ⟨y, r, rfl, hy.same s1, by omega, by omega, by omega, fun H2 s2 => ?_⟩
      refine ⟨_, rfl, ?_⟩
      have lc : (")" : Str) = S [41] := lit_close
      rw [lit_open, lc, S_app, S_app, S_app, S_len, S_len, S_len, S_len]
      have e3 : trV (Tr.node l r) = V.str (S ([40] ++ l.cs ++ r.cs ++ [41])) := by
        show V.str (S (40 :: (l.cs ++ (r.cs ++ [41])))) = _
        simp
      refine ⟨small5 (by simp; omega), small5 (by simp; omega), ?_⟩
      rw [← e3]
      exact q _ (s1.trans s2)

theorem ok_law_both (T : Txt K mg) : ∀ k : Nat, FnOk P w K mg base CX0 (k + 2) T.a_law_both T.fd_law_both ["_law_one", "_law_other"] (sp_law_both K k)
  | 0 => by
    have no : ∀ vs H Q E, ¬ sp_law_both K 0 vs H Q E := fun vs H Q E h => by
      obtain ⟨_, _, _, _, _, _, _, h, _⟩ := h
      omega
    exact ⟨fun vs H Q E h => absurd h (no vs H Q E), fun A outer s H args us vs Q E _ _ _ _ h => absurd h (no vs H Q E)⟩
  | k + 1 => by
    have rec_law_both := ok_law_both T k
    refine T.F_law_both.ok sc_law_both (fun vs H Q E h => ?_) (fun cdv A outer s H vs Q E hr h => ?_)
    · obtain ⟨u, v, a, b, rfl, _⟩ := h; rfl
    obtain ⟨u, v, a, b, rfl, ha, hb, hk, h1, h2, q⟩ := h
    have hru := hr.units
    refine ⟨_, (pss_cons (ps_if (pt_cmpR (op_eqD hru) (pv 0) (pe_tup pa_nil) (nomark _)) (pss_one (ps_ret (pv 1))) pss_nil)
    (pss_cons (ps_if (pt_cmpR (op_eqD hru) (pv 1) (pe_tup pa_nil) (nomark _)) (pss_one (ps_ret (pv 0))) pss_nil)
    (pss_one (ps_ret (pe_tup (pa_cons (pe_call rec_law_both (hr.mono (by first | decide | omega)) (by rfl) T.m_law_both T.F_law_both.kp T.b_law_both .nil pass0 (pa_cons (pe_ix ix_tup (pv 0) pe_int (fun _ _ => rfl)) (pa_cons (pe_ix ix_tup (pv 1) pe_int (fun _ _ => rfl)) pa_nil))) (pa_cons (pe_call rec_law_both (hr.mono (by first | decide | omega)) (by rfl) T.m_law_both T.F_law_both.kp T.b_law_both .nil pass0 (pa_cons (pe_ix ix_tup (pv 0) pe_int (fun _ _ => rfl)) (pa_cons (pe_ix ix_tup (pv 1) pe_int (fun _ _ => rfl)) pa_nil))) pa_nil))))))), ?_⟩
    simp only [cxOf_K, tAsg2, tYes, wipe, tSeq, tIfS, tNot, tB, tCB, tCons, tNil, tVar, tC, tTest, tOp, tAnd, tOr, tAsg, gName, tRet, tRetN, tDrop, tNext, tIf, tCall, tTup, tLst, tNotV, tAndV, tOrV, tUn, rI0, rI, rU, rEq, rNe, tM1, tM0, tBM, tBM0, tSl, tPart, tNoPart, iStr, iEnumS, iRng1, iRng2, iList, gSub, tBits, tAug, tPar, L2.start, List.map_cons, List.map_nil, List.length_cons, List.length_nil, List.getElem?_cons_zero, List.getElem?_cons_succ, List.cons_append, List.nil_append, List.append_nil, List.set_cons_zero, List.set_cons_succ, List.replicate_succ, List.replicate_zero, Option.some.injEq, exists_eq_left', V.int.injEq, V.str.injEq, V.ref.injEq, V.bl.injEq, exists_and_left, exists_eq_left, List.cons.injEq, and_true, true_and, tCallX, tRs]
    refine ⟨by decide, fun p hp => ?_⟩
    have s0 := (L2.Same.refl H).new hp (.tup [])
    refine eqLeaf (ha.same s0) h1 upd_same ⟨_, rfl, ?_⟩
    cases ha with
    | leaf h =>
      rw [if_pos (by decide)]
      refine q _ _ s0 ?_
      rw [show Tr.join .leaf b = b by unfold Tr.join; rfl]
      exact hb.same s0
    | @node pn x y l r h hx hy =>
      rw [if_neg (by simp)]
      refine ⟨by decide, fun p2 hp2 => ?_⟩
      have s1 := s0.new (s0.free hp2) (.tup [])
      refine eqLeaf (hb.same s1) h2 upd_same ⟨_, rfl, ?_⟩
      cases hb with
      | leaf h' =>
        rw [if_pos (by decide)]
        exact q _ _ s1 ((PT.node h hx hy).same s1)
      | @node pm x' y' l' r' h' hx' hy' =>
        rw [if_neg (by simp)]
        generalize upd (upd H p (HO.tup [])) p2 (HO.tup []) = H1 at s1 ⊢
        have e1 : Tr.hgt (Tr.node l r) = max (Tr.hgt l) (Tr.hgt r) + 1 := rfl
        have e2 : Tr.hgt (Tr.node l' r') = max (Tr.hgt l') (Tr.hgt r') + 1 := rfl
        refine ⟨pn, _, 0, x, rfl, rfl, SqT.of (s1 _ _ h), rfl, pm, _, 0, x', rfl, rfl, SqT.of (s1 _ _ h'), rfl, ?_⟩
        refine ⟨x, x', l, l', rfl, hx.same s1, hx'.same s1, by omega, by omega, by omega, fun z H2 s2 hz => ?_⟩
        have s2 := s1.trans s2
        refine ⟨pn, _, 1, y, rfl, rfl, SqT.of (s2 _ _ h), rfl, pm, _, 1, y', rfl, rfl, SqT.of (s2 _ _ h'), rfl, ?_⟩
        refine ⟨y, y', r, r', rfl, hy.same s2, hy'.same s2, by omega, by omega, by omega, fun z' H3 s3 hz' => ⟨by decide, fun p3 hp3 => ?_⟩⟩
        have s4 := (L2.Same.refl H3).new hp3 (.tup [z, z'])
        exact q _ _ (s2.trans (s3.trans s4)) (.node upd_same (hz.same (s3.trans s4)) (hz'.same s4))

theorem ok_law_core (T : Txt K mg) : ∀ k : Nat, FnOk P w K mg base CX0 (k + 2) T.a_law_core T.fd_law_core ["_law_one", "_law_other"] (sp_law_core K k)
  | 0 => by
    have no : ∀ vs H Q E, ¬ sp_law_core K 0 vs H Q E := fun vs H Q E h => by
      obtain ⟨_, _, _, _, _, _, _, h, _⟩ := h
      omega
    exact ⟨fun vs H Q E h => absurd h (no vs H Q E), fun A outer s H args us vs Q E _ _ _ _ h => absurd h (no vs H Q E)⟩
  | k + 1 => by
    have rec_law_core := ok_law_core T k
    refine T.F_law_core.ok sc_law_core (fun vs H Q E h => ?_) (fun cdv A outer s H vs Q E hr h => ?_)
    · obtain ⟨u, v, a, b, rfl, _⟩ := h; rfl
    obtain ⟨u, v, a, b, rfl, ha, hb, hk, h1, h2, q⟩ := h
    have hru := hr.units
    refine ⟨_, (pss_cons (ps_if (pw_or (pt_cmpR (op_eqD hru) (pv 0) (pe_tup pa_nil) (nomark _)) (pw_or1 (pt_cmpR (op_eqD hru) (pv 1) (pe_tup pa_nil) (nomark _)))).pt (pss_one (ps_ret (pe_tup pa_nil))) pss_nil)
    (pss_one (ps_ret (pe_tup (pa_cons (pe_call rec_law_core (hr.mono (by first | decide | omega)) (by rfl) T.m_law_core T.F_law_core.kp T.b_law_core .nil pass0 (pa_cons (pe_ix ix_tup (pv 0) pe_int (fun _ _ => rfl)) (pa_cons (pe_ix ix_tup (pv 1) pe_int (fun _ _ => rfl)) pa_nil))) (pa_cons (pe_call rec_law_core (hr.mono (by first | decide | omega)) (by rfl) T.m_law_core T.F_law_core.kp T.b_law_core .nil pass0 (pa_cons (pe_ix ix_tup (pv 0) pe_int (fun _ _ => rfl)) (pa_cons (pe_ix ix_tup (pv 1) pe_int (fun _ _ => rfl)) pa_nil))) pa_nil)))))), ?_⟩
    simp only [cxOf_K, tAsg2, tYes, wipe, tSeq, tIfS, tNot, tB, tCB, tCons, tNil, tVar, tC, tTest, tOp, tAnd, tOr, tAsg, gName, tRet, tRetN, tDrop, tNext, tIf, tCall, tTup, tLst, tNotV, tAndV, tOrV, tUn, rI0, rI, rU, rEq, rNe, tM1, tM0, tBM, tBM0, tSl, tPart, tNoPart, iStr, iEnumS, iRng1, iRng2, iList, gSub, tBits, tAug, tPar, L2.start, List.map_cons, List.map_nil, List.length_cons, List.length_nil, List.getElem?_cons_zero, List.getElem?_cons_succ, List.cons_append, List.nil_append, List.append_nil, List.set_cons_zero, List.set_cons_succ, List.replicate_succ, List.replicate_zero, Option.some.injEq, exists_eq_left', V.int.injEq, V.str.injEq, V.ref.injEq, V.bl.injEq, exists_and_left, exists_eq_left, List.cons.injEq, and_true, true_and, tCallX, tRs]
    refine ⟨by decide, fun p hp => ?_⟩
    have s0 := (L2.Same.refl H).new hp (.tup [])
    refine eqLeaf (ha.same s0) h1 upd_same ⟨_, rfl, ?_⟩
    cases ha with
    | leaf h =>
      rw [if_pos (by decide), if_pos True.intro]
      refine ⟨by decide, fun p9 hp9 => q _ _ (s0.new (s0.free hp9) _) ?_⟩
      rw [show Tr.meet .leaf b = .leaf by unfold Tr.meet; rfl]
      exact .leaf upd_same
    | @node pn x y l r h hx hy =>
      rw [if_neg (by simp)]
      refine ⟨by decide, fun p2 hp2 => ?_⟩
      have s1 := s0.new (s0.free hp2) (.tup [])
      refine eqLeaf (hb.same s1) h2 upd_same ⟨_, rfl, ?_⟩
      cases hb with
      | leaf h' =>
        rw [if_pos (by decide)]
        refine ⟨by decide, fun p9 hp9 => q _ _ (s1.new (s1.free hp9) _) ?_⟩
        rw [show Tr.meet (.node l r) .leaf = .leaf by unfold Tr.meet; rfl]
        exact .leaf upd_same
      | @node pm x' y' l' r' h' hx' hy' =>
        rw [if_neg (by simp)]
        generalize upd (upd H p (HO.tup [])) p2 (HO.tup []) = H1 at s1 ⊢
        have e1 : Tr.hgt (Tr.node l r) = max (Tr.hgt l) (Tr.hgt r) + 1 := rfl
        have e2 : Tr.hgt (Tr.node l' r') = max (Tr.hgt l') (Tr.hgt r') + 1 := rfl
        refine ⟨pn, _, 0, x, rfl, rfl, SqT.of (s1 _ _ h), rfl, pm, _, 0, x', rfl, rfl, SqT.of (s1 _ _ h'), rfl, ?_⟩
        refine ⟨x, x', l, l', rfl, hx.same s1, hx'.same s1, by omega, by omega, by omega, fun z H2 s2 hz => ?_⟩
        have s2 := s1.trans s2
        refine ⟨pn, _, 1, y, rfl, rfl, SqT.of (s2 _ _ h), rfl, pm, _, 1, y', rfl, rfl, SqT.of (s2 _ _ h'), rfl, ?_⟩
        refine ⟨y, y', r, r', rfl, hy.same s2, hy'.same s2, by omega, by omega, by omega, fun z' H3 s3 hz' => ⟨by decide, fun p3 hp3 => ?_⟩⟩
        have s4 := (L2.Same.refl H3).new hp3 (.tup [z, z'])
        exact q _ _ (s2.trans (s3.trans s4)) (.node upd_same (hz.same (s3.trans s4)) (hz'.same s4))

/-- how a text is read: the stack, its top first -/
def prs : List Nat → List Tr → Option (List Tr)
  | [], st => some st
  | c :: cs, st => if c = 41 then (match st with | r :: l :: st' => prs cs (.node l r :: st') | _ => none) else if c = 46 then prs cs (.leaf :: st) else prs cs st
theorem prs_tree : ∀ (t : Tr) (rest : List Nat) (st : List Tr), prs (t.cs ++ rest) st = prs rest (t :: st)
  | .leaf, rest, st => rfl
  | .node l r, rest, st => by
    show prs (40 :: ((l.cs ++ (r.cs ++ [41])) ++ rest)) st = _
    show prs ((l.cs ++ (r.cs ++ [41])) ++ rest) st = _
    rw [List.append_assoc, prs_tree l, List.append_assoc, prs_tree r]
    rfl
theorem cut_m2 (xs : List V) (x y : V) : cutV (xs ++ [x, y]) none (some (-2)) = xs := by
  unfold cutV
  have e : HT.sIx (xs ++ [x, y]).length (xs ++ [x, y]).length (some (-2)) = xs.length := by
    unfold HT.sIx
    dsimp only
    rw [if_pos (by decide)]
    simp
    omega
  rw [e, HT.sIx_none]
  simp
theorem at_m2 (xs : List V) (x y : V) : atI (xs ++ [x, y]) (-2) = some x := by
  have h1 : ixN (xs ++ [x, y]).length (-2) = some xs.length := by
    unfold ixN
    rw [if_neg (by decide), if_pos (by simp; omega)]
    congr 1
    simp
    omega
  unfold atI
  rw [h1]
  simp
theorem ok_law_parsed (T : Txt K mg) : FnOk P w K mg base CX0 2 T.a_law_parsed T.fd_law_parsed ["_law_tree_here"] (sp_law_parsed K) := by
  refine T.F_law_parsed.ok sc_law_parsed (fun vs H Q E h => ?_) (fun cdv A outer s H vs Q E hr h => ?_)
  · obtain ⟨t, rfl, _⟩ := h; rfl
  obtain ⟨t, rfl, ht, q⟩ := h
  have hru := hr.units
  refine ⟨_, (pss_cons (ps_set (i := 1) sc_law_parsed.nd rfl (by first | exact Or.inl rfl | exact Or.inr rfl) (pe_lst pa_nil))
    (pss_cons (ps_for PassesOwn.never rfl (pi_str (pv 0)) (pg_name (i := 2) sc_law_parsed.nd rfl (by first | exact Or.inl rfl | exact Or.inr rfl)) (pss_one (ps_if (pt_cmpR op_eq (pv 2) pe_str (nomark _)) (pss_one (ps_set (i := 1) sc_law_parsed.nd rfl (by first | exact Or.inl rfl | exact Or.inr rfl) (pe_op op_cat (pe_slice sl_list (pv 1) po_none (po_some (pe_un un_neg pe_int))) (pe_lst (pa_cons (pe_tup (pa_cons (pe_ix ix_list (pv 1) (pe_un un_neg pe_int) (fun _ _ => rfl)) (pa_cons (pe_ix ix_list (pv 1) (pe_un un_neg pe_int) (fun _ _ => rfl)) pa_nil))) pa_nil))))) (pss_one (ps_if (pt_cmpR op_eq (pv 2) pe_str (nomark _)) (pss_one (ps_expr (pe_bm PySem.F.plainAttrs_list PySem.F.slot_list_append PySem.F.type_list_append mt_append (pv 1) (pa_cons (pe_tup pa_nil) pa_nil)))) pss_nil)))))
    (pss_one (ps_ret (pe_ix ix_list (pv 1) pe_int (fun _ _ => rfl)))))), ?_⟩
  simp only [cxOf_K, tAsg2, tYes, wipe, tSeq, tIfS, tNot, tB, tCB, tCons, tNil, tVar, tC, tTest, tOp, tAnd, tOr, tAsg, gName, tRet, tRetN, tDrop, tNext, tIf, tCall, tTup, tLst, tNotV, tAndV, tOrV, tUn, rI0, rI, rU, rEq, rNe, tM1, tM0, tBM, tBM0, tSl, tPart, tNoPart, iStr, iEnumS, iRng1, iRng2, iList, gSub, tBits, tAug, tPar, L2.start, List.map_cons, List.map_nil, List.length_cons, List.length_nil, List.getElem?_cons_zero, List.getElem?_cons_succ, List.cons_append, List.nil_append, List.append_nil, List.set_cons_zero, List.set_cons_succ, List.replicate_succ, List.replicate_zero, Option.some.injEq, exists_eq_left', V.int.injEq, V.str.injEq, V.ref.injEq, V.bl.injEq, exists_and_left, exists_eq_left, List.cons.injEq, and_true, true_and, tCallX, tRs]
  refine ⟨by decide, fun p hp => ?_⟩
  have hcl := tr_len ht
  refine ⟨_, rfl, _, rfl, for_str (fun i σ H' => ∃ (f : Addr) (st : List Tr) (vs : List V) (a3 : Option V), σ = [some (trV t), some (.ref f), a3] ∧ Same H H' ∧ H f = none ∧ H' f = some (.lst vs.reverse) ∧ PTs H' vs st ∧ prs (t.cs.drop i) st = some [t] ∧ vs.length ≤ i) ?_ ?_ ?_⟩
  · refine ⟨p, [], [], none, rfl, (L2.Same.refl H).new hp _, hp, upd_same, .nil, ?_, Nat.le_refl _⟩
    have := prs_tree t [] []
    rw [List.append_nil] at this
    exact this
  · rintro i d σ H' hi ⟨f, st, vs, a3, rfl, s0, nf, hf, hv, e1, e2⟩
    have hil : i < (S t.cs).length := (Array.getElem?_eq_some_iff.mp hi).1
    rw [S_len] at hil
    have hd : t.cs[i]? = some d := by
      have := (Array.getElem?_eq_some_iff.mp hi).2
      rw [List.getElem?_eq_some_iff]
      exact ⟨hil, by simpa using this⟩
    have ed : t.cs.drop i = d :: t.cs.drop (i + 1) := by
      rw [List.drop_eq_getElem_cons hil]
      rw [(List.getElem?_eq_some_iff.mp hd).2]
    rw [ed] at e1
    simp only [cxOf_K, tAsg2, tYes, wipe, tSeq, tIfS, tNot, tB, tCB, tCons, tNil, tVar, tC, tTest, tOp, tAnd, tOr, tAsg, gName, tRet, tRetN, tDrop, tNext, tIf, tCall, tTup, tLst, tNotV, tAndV, tOrV, tUn, rI0, rI, rU, rEq, rNe, tM1, tM0, tBM, tBM0, tSl, tPart, tNoPart, iStr, iEnumS, iRng1, iRng2, iList, gSub, tBits, tAug, tPar, L2.start, List.map_cons, List.map_nil, List.length_cons, List.length_nil, List.getElem?_cons_zero, List.getElem?_cons_succ, List.cons_append, List.nil_append, List.append_nil, List.set_cons_zero, List.set_cons_succ, List.replicate_succ, List.replicate_zero, Option.some.injEq, exists_eq_left', V.int.injEq, V.str.injEq, V.ref.injEq, V.bl.injEq, exists_and_left, exists_eq_left, List.cons.injEq, and_true, true_and, tCallX, tRs]
    have sg : (({ cps := #[d] } : Str) = S [d]) := rfl
    rw [sg]
    refine ⟨rfl, ?_⟩
    by_cases c1 : d = 41
    · subst c1
      rw [if_pos (decide_eq_true lit_close.symm)]
      cases hv with
      | nil => exact absurd e1 (by simp [prs])
      | @cons v1 r vs1 st1 pr hv =>
        cases hv with
        | nil => exact absurd e1 (by simp [prs])
        | @cons v2 l vs2 st2 pl hv =>
          have e1' : prs (t.cs.drop (i + 1)) (.node l r :: st2) = some [t] := e1
          have ev : (v1 :: v2 :: vs2).reverse = vs2.reverse ++ [v2, v1] := by simp
          rw [ev] at hf
          refine ⟨f, _, rfl, SqL.of hf, fun g hg => ?_⟩
          rw [cut_m2]
          have nfg : f ≠ g := ne_of_none hf hg
          have s1 := (L2.Same.refl H').new hg (.lst vs2.reverse)
          have hf1 := s1 _ _ hf
          have hg1 : upd H' g (.lst vs2.reverse) g = some (.lst vs2.reverse) := upd_same
          generalize upd H' g (.lst vs2.reverse) = H1 at s1 hf1 hg1 ⊢
          refine ⟨f, _, -2, v2, rfl, rfl, SqL.of hf1, at_m2 _ _ _, f, _, -1, v1, rfl, rfl, SqL.of hf1, by rw [show vs2.reverse ++ [v2, v1] = (vs2.reverse ++ [v2]) ++ [v1] by simp]; exact atI_last _ _, by decide, fun p1 hp1 => ⟨by decide, fun p2 hp2 => ?_⟩⟩
          have s2 := (L2.Same.refl H1).new hp1 (.tup [v2, v1])
          have h1 : upd H1 p1 (.tup [v2, v1]) p1 = some _ := upd_same
          generalize upd H1 p1 (.tup [v2, v1]) = H2 at s2 h1 hp2 ⊢
          have s3 := (L2.Same.refl H2).new hp2 (.lst [V.ref p1])
          have h2 : upd H2 p2 (.lst [V.ref p1]) p2 = some _ := upd_same
          generalize upd H2 p2 (.lst [V.ref p1]) = H3 at s3 h2 ⊢
          have s123 := s1.trans (s2.trans s3)
          refine ⟨g, p2, _, _, rfl, rfl, s3 _ _ (s2 _ _ hg1), h2, small5 (by simp at e2 ⊢; omega), fun p3 hp3 => ?_⟩
          have s4 := (L2.Same.refl H3).new hp3 (.lst (vs2.reverse ++ [V.ref p1]))
          have sa := s123.trans s4
          refine ⟨p3, .node l r :: st2, V.ref p1 :: vs2, _, ⟨rfl, rfl⟩, s0.trans sa, (s0.trans s123).free hp3, by rw [upd_same]; simp, .cons (.node (s4 _ _ (s3 _ _ h1)) (pl.same sa) (pr.same sa)) (hv.same sa), e1', by simp at e2 ⊢; omega⟩
    · rw [if_neg (by simp only [decide_eq_true_eq]; rw [lit_close, S_iff]; simpa using c1)]
      refine ⟨rfl, ?_⟩
      by_cases c2 : d = 46
      · subst c2
        rw [if_pos (decide_eq_true lit_dot.symm)]
        refine ⟨tyV_lst hf, by decide, fun p1 hp1 => ?_⟩
        have s1 := (L2.Same.refl H').new hp1 (.tup [])
        have h1 : upd H' p1 (.tup []) p1 = some _ := upd_same
        generalize upd H' p1 (.tup []) = H1 at s1 h1 ⊢
        have hf1 := s1 _ _ hf
        refine ⟨f, _, _, rfl, rfl, hf1, small5' (by simp at e2 ⊢; omega), ?_⟩
        have kf : Keep f H1 (upd H1 f (.lst (vs.reverse ++ [V.ref p1]))) := fun b o nb hb => by rw [upd_ne nb]; exact hb
        refine ⟨f, .leaf :: st, V.ref p1 :: vs, _, ⟨rfl, rfl⟩, (s0.trans s1).new nf _, nf, by rw [upd_same]; simp, .cons (.leaf (kf _ _ (ne_of h1 hf1 fun z => by cases z) h1)) ((hv.same s1).keep kf hf1), ?_, by simp; omega⟩
        exact e1
      · rw [if_neg (by simp only [decide_eq_true_eq]; rw [lit_dot, S_iff]; simpa using c2)]
        refine ⟨f, st, vs, _, ⟨rfl, rfl⟩, s0, nf, hf, hv, ?_, by omega⟩
        rw [show prs (d :: t.cs.drop (i + 1)) st = prs (t.cs.drop (i + 1)) st by simp [prs, c1, c2]] at e1
        exact e1
  · rintro σ H' ⟨f, st, vs, a3, rfl, s0, nf, hf, hv, e1, e2⟩
    simp only [cxOf_K, tAsg2, tYes, wipe, tSeq, tIfS, tNot, tB, tCB, tCons, tNil, tVar, tC, tTest, tOp, tAnd, tOr, tAsg, gName, tRet, tRetN, tDrop, tNext, tIf, tCall, tTup, tLst, tNotV, tAndV, tOrV, tUn, rI0, rI, rU, rEq, rNe, tM1, tM0, tBM, tBM0, tSl, tPart, tNoPart, iStr, iEnumS, iRng1, iRng2, iList, gSub, tBits, tAug, tPar, L2.start, List.map_cons, List.map_nil, List.length_cons, List.length_nil, List.getElem?_cons_zero, List.getElem?_cons_succ, List.cons_append, List.nil_append, List.append_nil, List.set_cons_zero, List.set_cons_succ, List.replicate_succ, List.replicate_zero, Option.some.injEq, exists_eq_left', V.int.injEq, V.str.injEq, V.ref.injEq, V.bl.injEq, exists_and_left, exists_eq_left, List.cons.injEq, and_true, true_and, tCallX, tRs]
    have e0 : t.cs.drop (S t.cs).length = [] := by rw [S_len]; simp
    have e0' : t.cs.drop (S t.cs).cps.size = [] := e0
    rw [e0'] at e1
    have e3 : st = [t] := Option.some.inj e1
    subst e3
    cases hv with
    | @cons v1 _ vs1 _ pv hv =>
      cases hv
      exact ⟨f, _, 0, v1, rfl, rfl, SqL.of hf, rfl, q _ _ s0 pv⟩

theorem ok_law_filled (T : Txt K mg) : ∀ k : Nat, FnOk P w K mg base CX0 (k + 2) T.a_law_filled T.fd_law_filled ["_law_parsed_here", "_law_pieces"] (sp_law_filled K k)
  | 0 => by
    have no : ∀ vs H Q E, ¬ sp_law_filled K 0 vs H Q E := fun vs H Q E h => by
      obtain ⟨_, _, _, _, _, _, _, h, _⟩ := h
      omega
    exact ⟨fun vs H Q E h => absurd h (no vs H Q E), fun A outer s H args us vs Q E _ _ _ _ h => absurd h (no vs H Q E)⟩
  | k + 1 => by
    have rec_law_filled := ok_law_filled T k
    refine T.F_law_filled.ok sc_law_filled (fun vs H Q E h => ?_) (fun cdv A outer s H vs Q E hr h => ?_)
    · obtain ⟨v, a, t, ws, xs, rfl, _⟩ := h; rfl
    obtain ⟨v, a, t, ws, xs, rfl, hv, hk, ht, ha, hw, hl, hx', q⟩ := h
    have hru := hr.units
    refine ⟨_, (pss_cons (ps_if (pt_cmpR (op_eqD hru) (pv 0) (pe_tup pa_nil) (nomark _)) (pss_one (ps_ret (pe_bm PySem.F.plainAttrs_list PySem.F.slot_list_pop PySem.F.type_list_pop mt_popAt (pv 1) (pa_cons pe_int pa_nil)))) pss_nil)
    (pss_cons (ps_set (i := 2) sc_law_filled.nd rfl (by first | exact Or.inl rfl | exact Or.inr rfl) (pe_call rec_law_filled (hr.mono (by first | decide | omega)) (by rfl) T.m_law_filled T.F_law_filled.kp T.b_law_filled .nil pass0 (pa_cons (pe_ix ix_tup (pv 0) pe_int (fun _ _ => rfl)) (pa_cons (pv 1) pa_nil))))
    (pss_one (ps_ret (pe_tup (pa_cons (pv 2) (pa_cons (pe_call rec_law_filled (hr.mono (by first | decide | omega)) (by rfl) T.m_law_filled T.F_law_filled.kp T.b_law_filled .nil pass0 (pa_cons (pe_ix ix_tup (pv 0) pe_int (fun _ _ => rfl)) (pa_cons (pv 1) pa_nil))) pa_nil))))))), ?_⟩
    simp only [cxOf_K, tAsg2, tYes, wipe, tSeq, tIfS, tNot, tB, tCB, tCons, tNil, tVar, tC, tTest, tOp, tAnd, tOr, tAsg, gName, tRet, tRetN, tDrop, tNext, tIf, tCall, tTup, tLst, tNotV, tAndV, tOrV, tUn, rI0, rI, rU, rEq, rNe, tM1, tM0, tBM, tBM0, tSl, tPart, tNoPart, iStr, iEnumS, iRng1, iRng2, iList, gSub, tBits, tAug, tPar, L2.start, List.map_cons, List.map_nil, List.length_cons, List.length_nil, List.getElem?_cons_zero, List.getElem?_cons_succ, List.cons_append, List.nil_append, List.append_nil, List.set_cons_zero, List.set_cons_succ, List.replicate_succ, List.replicate_zero, Option.some.injEq, exists_eq_left', V.int.injEq, V.str.injEq, V.ref.injEq, V.bl.injEq, exists_and_left, exists_eq_left, List.cons.injEq, and_true, true_and, tCallX, tRs]
    refine ⟨by decide, fun p hp => ?_⟩
    have s0 := (L2.Same.refl H).new hp (.tup [])
    refine eqLeaf (hv.same s0) ht upd_same ⟨_, rfl, ?_⟩
    have a0 := s0 _ _ ha
    cases hv with
    | leaf h =>
      rw [if_pos (by decide)]
      refine ⟨tyV_lst a0, ?_⟩
      cases hw with
      | nil => exact absurd hl (by simp [Tr.lvs])
      | @cons z x ws1 xs1 hz hw =>
        have k1 : Keep a (upd H p (.tup [])) (upd (upd H p (.tup [])) a (.lst ws1)) := fun b o nb hb => by rw [upd_ne nb]; exact hb
        refine ⟨a, _, 0, 0, z, rfl, rfl, a0, by decide, by decide, by unfold seqIndex?; simp, rfl, q z ws1 _ (fun b o nb hb => k1 b o nb (s0 _ _ hb)) upd_same ((hw.same s0).keep k1 a0) ((hz.same s0).keep k1 a0)⟩
    | @node pn x y l r h hx hy =>
      rw [if_neg (by simp)]
      generalize upd H p (HO.tup []) = H0 at s0 a0 ⊢
      have e1 : Tr.hgt (Tr.node l r) = max (Tr.hgt l) (Tr.hgt r) + 1 := rfl
      have e2 : (Tr.node l r).lvs = l.lvs + r.lvs := rfl
      have g1 := Tr.growR_len l xs (by omega)
      refine ⟨pn, _, 0, x, rfl, rfl, SqT.of (s0 _ _ h), rfl, ?_⟩
      refine ⟨x, a, l, ws, xs, rfl, hx.same s0, by omega, by omega, a0, hw.same s0, by omega, hx', fun z ws1 H1 k1 h1 p1 t1 => ?_⟩
      have h01 := k1 _ _ (ne_of (s0 _ _ h) a0 fun z => by cases z) (s0 _ _ h)
      refine ⟨pn, _, 1, y, rfl, rfl, SqT.of h01, rfl, ?_⟩
      have hy1 : PT H1 y r := (hy.same s0).keep k1 a0
      refine ⟨y, a, r, ws1, _, rfl, hy1, by omega, by omega, h1, p1, by omega, by omega, fun z' ws2 H2 k2 h2 p2 t2 => ⟨by decide, fun p3 hp3 => ?_⟩⟩
      have s3 := (L2.Same.refl H2).new hp3 (.tup [z, z'])
      refine q _ ws2 _ (fun b o nb hb => s3 _ _ (k2 b o nb (k1 b o nb (s0 _ _ hb)))) (s3 _ _ h2) (p2.same s3) (.node upd_same ((t1.keep k2 h1).same s3) (t2.same s3))

theorem ok_law_hanging (T : Txt K mg) : ∀ k : Nat, FnOk P w K mg base CX0 (k + 2) T.a_law_hanging T.fd_law_hanging ["_law_parsed_here", "_law_top"] (sp_law_hanging K k)
  | 0 => by
    have no : ∀ vs H Q E, ¬ sp_law_hanging K 0 vs H Q E := fun vs H Q E h => by
      obtain ⟨_, _, _, _, _, _, _, h, _⟩ := h
      omega
    exact ⟨fun vs H Q E h => absurd h (no vs H Q E), fun A outer s H args us vs Q E _ _ _ _ h => absurd h (no vs H Q E)⟩
  | k + 1 => by
    have rec_law_hanging := ok_law_hanging T k
    refine T.F_law_hanging.ok sc_law_hanging (fun vs H Q E h => ?_) (fun cdv A outer s H vs Q E hr h => ?_)
    · obtain ⟨u, v, s, c, rfl, _⟩ := h; rfl
    obtain ⟨u, v, t, c, rfl, hu, hv, hk, hc, hs, hz, qn, qs⟩ := h
    have hru := hr.units
    refine ⟨_, (pss_cons (ps_if (pt_cmpR (op_eqD hru) (pv 1) (pe_tup pa_nil) (nomark _)) (pss_one (ps_ret (pe_lst (pa_cons (pv 0) pa_nil)))) pss_nil)
    (pss_cons (ps_if (pt_cmpR (op_eqD hru) (pv 0) (pe_tup pa_nil) (nomark _)) (pss_one (ps_ret pe_non)) pss_nil)
    (pss_cons (ps_par (i := 2) (j := 3) rfl sc_law_hanging.nd rfl rfl (by decide) rfl rfl (pa_cons (pe_call rec_law_hanging (hr.mono (by first | decide | omega)) (by rfl) T.m_law_hanging T.F_law_hanging.kp T.b_law_hanging .nil pass0 (pa_cons (pe_ix ix_tup (pv 0) pe_int (fun _ _ => rfl)) (pa_cons (pe_ix ix_tup (pv 1) pe_int (fun _ _ => rfl)) pa_nil))) (pa_cons (pe_call rec_law_hanging (hr.mono (by first | decide | omega)) (by rfl) T.m_law_hanging T.F_law_hanging.kp T.b_law_hanging .nil pass0 (pa_cons (pe_ix ix_tup (pv 0) pe_int (fun _ _ => rfl)) (pa_cons (pe_ix ix_tup (pv 1) pe_int (fun _ _ => rfl)) pa_nil))) pa_nil)) rfl)
    (pss_one (ps_ret (pe_ifExp (pw_or (pt_cmpR op_isN (pv 2) pe_non (nomark _)) (pw_or1 (pt_cmpR op_isN (pv 3) pe_non (nomark _)))).pt pe_non (pe_op op_cat (pv 2) (pv 3)))))))), ?_⟩
    simp only [cxOf_K, tAsg2, tYes, wipe, tSeq, tIfS, tNot, tB, tCB, tCons, tNil, tVar, tC, tTest, tOp, tAnd, tOr, tAsg, gName, tRet, tRetN, tDrop, tNext, tIf, tCall, tTup, tLst, tNotV, tAndV, tOrV, tUn, rI0, rI, rU, rEq, rNe, tM1, tM0, tBM, tBM0, tSl, tPart, tNoPart, iStr, iEnumS, iRng1, iRng2, iList, gSub, tBits, tAug, tPar, L2.start, List.map_cons, List.map_nil, List.length_cons, List.length_nil, List.getElem?_cons_zero, List.getElem?_cons_succ, List.cons_append, List.nil_append, List.append_nil, List.set_cons_zero, List.set_cons_succ, List.replicate_succ, List.replicate_zero, Option.some.injEq, exists_eq_left', V.int.injEq, V.str.injEq, V.ref.injEq, V.bl.injEq, exists_and_left, exists_eq_left, List.cons.injEq, and_true, true_and, tCallX, tRs]
    refine ⟨by decide, fun p hp => ?_⟩
    have s0 := (L2.Same.refl H).new hp (.tup [])
    refine eqLeaf (hv.same s0) hc upd_same ⟨_, rfl, ?_⟩
    cases hv with
    | leaf h =>
      rw [if_pos (by decide)]
      refine ⟨by decide, fun p2 hp2 => ?_⟩
      have s1 := s0.new (s0.free hp2) (.lst [u])
      refine qs [t] ?_ p2 [u] _ s1 (s0.free hp2) upd_same (.cons (hu.same s1) .nil)
      cases t <;> rfl
    | @node pm x' y' l' r' h' hx' hy' =>
      rw [if_neg (by simp)]
      refine ⟨by decide, fun p2 hp2 => ?_⟩
      have s1 := s0.new (s0.free hp2) (.tup [])
      refine eqLeaf (hu.same s1) hs upd_same ⟨_, rfl, ?_⟩
      cases hu with
      | leaf h =>
        rw [if_pos (by decide)]
        exact qn rfl _ s1
      | @node pn x y l r h hx hy =>
        rw [if_neg (by simp)]
        generalize upd (upd H p (HO.tup [])) p2 (HO.tup []) = H1 at s1 ⊢
        have e1 : Tr.hgt (Tr.node l r) = max (Tr.hgt l) (Tr.hgt r) + 1 := rfl
        have e2 : Tr.hgt (Tr.node l' r') = max (Tr.hgt l') (Tr.hgt r') + 1 := rfl
        have e3 : (Tr.node l' r').size = l'.size + r'.size + 1 := rfl
        have e4 : Tr.hang (.node l r) (.node l' r') = (Tr.hang l l').bind fun x => (Tr.hang r r').map fun y => x ++ y := rfl
        rw [e4] at qn qs
        refine ⟨pn, _, 0, x, rfl, rfl, SqT.of (s1 _ _ h), rfl, pm, _, 0, x', rfl, rfl, SqT.of (s1 _ _ h'), rfl, ?_⟩
        have rest : ∀ (z : V) (H2 : Hp), Same H1 H2 → ((z = .non ∧ Tr.hang l l' = none) ∨ ∃ p ws xs, z = .ref p ∧ Tr.hang l l' = some xs ∧ H2 p = some (.lst ws) ∧ PTs H2 ws xs) →
            rIxT K (V.ref pn) (V.int 1) H2 fun x_2 H1 => rIxT K (V.ref pm) (V.int 1) H1 fun x_3 H1 => sp_law_hanging K k [x_2, x_3] H1 (fun x_4 H1 => ∃ v w, (z = v ∧ x_4 = w) ∧
              if decide (v = V.non) = true then if True then Q V.non H1 else rCat v w H1 Q else if decide (w = V.non) = true then Q V.non H1 else rCat v w H1 Q) E0 := fun z H2 s2 hz1 => by
          have s12 := s1.trans s2
          refine ⟨pn, _, 1, y, rfl, rfl, SqT.of (s12 _ _ h), rfl, pm, _, 1, y', rfl, rfl, SqT.of (s12 _ _ h'), rfl, ?_⟩
          refine ⟨y, y', r, r', rfl, hy.same s12, hy'.same s12, by omega, by omega, by omega, by omega, fun en H3 s3 => ⟨_, _, ⟨rfl, rfl⟩, ?_⟩, fun ys ey p3 ws3 H3 s3 n3 h3 t3 => ⟨_, _, ⟨rfl, rfl⟩, ?_⟩⟩
          · rcases hz1 with ⟨rfl, e⟩ | ⟨p, ws, xs, rfl, e, hp, pt⟩
            · rw [if_pos (by decide), if_pos True.intro]
              exact qn (by rw [e]; rfl) _ (s12.trans s3)
            · rw [if_neg (by simp), if_pos (by decide)]
              exact qn (by rw [e, en]; rfl) _ (s12.trans s3)
          · rcases hz1 with ⟨rfl, e⟩ | ⟨p, ws, xs, rfl, e, hp, pt⟩
            · rw [if_pos (by decide), if_pos True.intro]
              exact qn (by rw [e]; rfl) _ (s12.trans s3)
            · rw [if_neg (by simp), if_neg (by simp)]
              have l1 := Tr.hang_len _ _ _ e
              have l2 := Tr.hang_len _ _ _ ey
              have v1 : l'.lvs = l'.size + 1 := Tr.lvs_size l'
              have v2 : r'.lvs = r'.size + 1 := Tr.lvs_size r'
              refine ⟨p, p3, _, _, rfl, rfl, s3 _ _ hp, h3, by rw [pt.length, t3.length]; exact small5 (by omega), fun p4 hp4 => ?_⟩
              have s4 := (L2.Same.refl H3).new hp4 (.lst (ws ++ ws3))
              refine qs (xs ++ ys) (by rw [e, ey]; rfl) p4 _ _ (s12.trans (s3.trans s4)) ((s12.trans s3).free hp4) upd_same ((pt.same (s3.trans s4)).append (t3.same s4))
        exact ⟨x, x', l, l', rfl, hx.same s1, hx'.same s1, by omega, by omega, by omega, by omega, fun en H2 s2 => rest .non H2 s2 (.inl ⟨rfl, en⟩), fun xs ex p ws H2 s2 n2 h2 t2 => rest (.ref p) H2 s2 (.inr ⟨p, ws, xs, rfl, ex, h2, t2⟩)⟩

theorem hgt_join : ∀ a b : Tr, Tr.hgt (Tr.join a b) ≤ max (Tr.hgt a) (Tr.hgt b)
  | .leaf, b => by
    rw [show Tr.join .leaf b = b by unfold Tr.join; rfl]
    exact Nat.le_max_right _ _
  | .node l r, .leaf => by
    rw [show Tr.join (.node l r) .leaf = .node l r by unfold Tr.join; rfl]
    exact Nat.le_max_left _ _
  | .node l r, .node l' r' => by
    have h1 := hgt_join l l'
    have h2 := hgt_join r r'
    show max (Tr.hgt (Tr.join l l')) (Tr.hgt (Tr.join r r')) + 1 ≤ max (max (Tr.hgt l) (Tr.hgt r) + 1) (max (Tr.hgt l') (Tr.hgt r') + 1)
    omega
theorem hgt_meet : ∀ a b : Tr, Tr.hgt (Tr.meet a b) ≤ Tr.hgt a
  | .leaf, b => by
    rw [show Tr.meet .leaf b = .leaf by unfold Tr.meet; rfl]
    exact Nat.le_refl _
  | .node l r, .leaf => by
    rw [show Tr.meet (.node l r) .leaf = .leaf by unfold Tr.meet; rfl]
    exact Nat.zero_le _
  | .node l r, .node l' r' => by
    have h1 := hgt_meet l l'
    have h2 := hgt_meet r r'
    show max (Tr.hgt (Tr.meet l l')) (Tr.hgt (Tr.meet r r')) + 1 ≤ max (Tr.hgt l) (Tr.hgt r) + 1
    omega
theorem size_joinP : ∀ a b : Tr, (Tr.join a b).size ≤ a.size + b.size
  | .leaf, b => by
    rw [show Tr.join .leaf b = b by unfold Tr.join; rfl]
    omega
  | .node l r, .leaf => by
    rw [show Tr.join (.node l r) .leaf = .node l r by unfold Tr.join; rfl]
    omega
  | .node l r, .node l' r' => by
    have h1 := size_joinP l l'
    have h2 := size_joinP r r'
    show (Tr.join l l').size + (Tr.join r r').size + 1 ≤ (l.size + r.size + 1) + (l'.size + r'.size + 1)
    omega
theorem hgt_hang : ∀ (s c : Tr) (xs : List Tr), Tr.hang s c = some xs → ∀ x ∈ xs, Tr.hgt x ≤ Tr.hgt s ∧ x.size ≤ s.size
  | s, .leaf, xs, h, x, hx => by
    have h' : some [s] = some xs := by
      rw [← h]
      cases s <;> rfl
    cases h'
    rw [List.mem_singleton.mp hx]
    exact ⟨Nat.le_refl _, Nat.le_refl _⟩
  | .leaf, .node _ _, xs, h, _, _ => by cases h
  | .node a b, .node c d, xs, h, x, hx => by
    have h' : ((Tr.hang a c).bind fun x => (Tr.hang b d).map fun y => x ++ y) = some xs := h
    obtain ⟨x1, e1, h2⟩ := Option.bind_eq_some_iff.mp h'
    obtain ⟨x2, e2, rfl⟩ := Option.map_eq_some_iff.mp h2
    have k1 : Tr.hgt (Tr.node a b) = max (Tr.hgt a) (Tr.hgt b) + 1 := rfl
    have k2 : (Tr.node a b).size = a.size + b.size + 1 := rfl
    rcases List.mem_append.mp hx with hx | hx
    · have := hgt_hang a c x1 e1 x hx
      omega
    · have := hgt_hang b d x2 e2 x hx
      omega
theorem csLt : ∀ (t : Tr) (c : Nat), c ∈ t.cs → c < 0x110000
  | .leaf, c, h => by rw [List.mem_singleton.mp h]; decide
  | .node l r, c, h => by
    have h' : c = 40 ∨ c ∈ l.cs ∨ c ∈ r.cs ∨ c = 41 := by simpa [Tr.cs] using h
    rcases h' with rfl | h' | h' | rfl
    · decide
    · exact csLt l c h'
    · exact csLt r c h'
    · decide
theorem okS (t : Tr) : PyData.strOk (S t.cs) = true := by
  unfold PyData.strOk
  rw [Array.all_eq_true_iff_forall_mem]
  intro c hc
  exact decide_eq_true (csLt t c (by simpa using hc))
theorem PTs.get {H : Hp} : ∀ {vs : List V} {ts : List Tr} {i : Nat} {v : V}, PTs H vs ts → vs[i]? = some v → ∃ t, ts[i]? = some t ∧ PT H v t
  | _, _, 0, _, .cons a _, h => by
    cases h
    exact ⟨_, rfl, a⟩
  | _, _, i + 1, _, .cons _ b, h => PTs.get (i := i) b h
theorem dpS {H : Hp} : ∀ xs : List Tr, DpAll K H (xs.map trV) (xs.map fun t => PyData.str (S t.cs))
  | [] => .nil
  | x :: xs => .cons (.str _) (dpS xs)
theorem layS : ∀ xs : List Tr, PyData.canLayAll0 (xs.map fun t => PyData.str (S t.cs)) = true
  | [] => by simp [PyData.canLayAll0]
  | x :: xs => by simp only [List.map_cons, PyData.canLayAll0, PyData.canLay0, layS xs, okS x]; rfl
theorem depS : ∀ xs : List Tr, PyData.depthAll (xs.map fun t => PyData.str (S t.cs)) = 0
  | [] => by simp [PyData.depthAll]
  | x :: xs => by simp only [List.map_cons, PyData.depthAll, PyData.depth, depS xs]; rfl
theorem shS (xs : List Tr) : SeqAt.shaped (.list (xs.map fun t => PyData.str (S t.cs))) = true := by
  unfold SeqAt.shaped
  simp only [PyData.canLay0, PyData.depth, layS, depS]
  rfl
theorem eqS0 : ∀ xs : List Tr, PyData.eqvAll (xs.map fun t => PyData.str (S t.cs)) (xs.map fun t => PyData.str (S t.cs)) = true
  | [] => by simp [PyData.eqvAll]
  | x :: xs => by simp only [List.map_cons, PyData.eqvAll, PyData.eqv, eqS0 xs, beq_self_eq_true]; rfl
theorem eqS (xs : List Tr) : PyData.eqv (.list (xs.map fun t => PyData.str (S t.cs))) (.list (xs.map fun t => PyData.str (S t.cs))) = true := by
  simp only [PyData.eqv]
  exact eqS0 xs
theorem ok_law_pair_right (T : Txt K mg) : FnOk P w K mg base CX0 75 T.a_law_pair_right T.fd_law_pair_right ["_law_one", "_law_other"] (sp_law_pair_right T) := by
  refine T.F_law_pair_right.ok sc_law_pair_right (fun vs H Q E h => ?_) (fun cdv A outer s H vs Q E hr h => ?_)
  · obtain ⟨a, b, rfl, _⟩ := h; rfl
  obtain ⟨a, b, rfl, ha, hb, ta, tb, q⟩ := h
  have hru := hr.units
  refine ⟨_, (pss_cons (ps_par (i := 2) (j := 3) rfl sc_law_pair_right.nd rfl rfl (by decide) rfl rfl (pa_cons (pe_call (ok_law_parsed T) (hr.mono (by first | decide | omega)) (by rfl) T.m_law_parsed T.F_law_parsed.kp T.b_law_parsed .nil pass0 (pa_cons (pv 0) pa_nil)) (pa_cons (pe_call (ok_law_parsed T) (hr.mono (by first | decide | omega)) (by rfl) T.m_law_parsed T.F_law_parsed.kp T.b_law_parsed .nil pass0 (pa_cons (pv 1) pa_nil)) pa_nil)) rfl)
    (pss_cons (ps_if (pt_cmpR op_ne (pe_call (ok_joined T) (hr.mono (by first | decide | omega)) (by rfl) T.m_joined T.F_joined.kp T.b_joined .nil passL (pa_cons (pv 0) (pa_cons (pv 1) pa_nil))) (pe_call (ok_law_text T 70) (hr.mono (by first | decide | omega)) (by rfl) T.m_law_text T.F_law_text.kp T.b_law_text .nil pass0 (pa_cons (pe_call (ok_law_both T 70) (hr.mono (by first | decide | omega)) (by rfl) T.m_law_both T.F_law_both.kp T.b_law_both .nil pass0 (pa_cons (pv 2) (pa_cons (pv 3) pa_nil))) pa_nil)) (nomark _)) (pss_one (ps_ret pe_bl)) pss_nil)
    (pss_cons (ps_if (pt_cmpR op_ne (pe_call (ok_shared T) (hr.mono (by first | decide | omega)) (by rfl) T.m_shared T.F_shared.kp T.b_shared .nil passL (pa_cons (pv 0) (pa_cons (pv 1) pa_nil))) (pe_call (ok_law_text T 70) (hr.mono (by first | decide | omega)) (by rfl) T.m_law_text T.F_law_text.kp T.b_law_text .nil pass0 (pa_cons (pe_call (ok_law_core T 70) (hr.mono (by first | decide | omega)) (by rfl) T.m_law_core T.F_law_core.kp T.b_law_core .nil pass0 (pa_cons (pv 2) (pa_cons (pv 3) pa_nil))) pa_nil)) (nomark _)) (pss_one (ps_ret pe_bl)) pss_nil)
    (pss_cons (ps_set (i := 4) sc_law_pair_right.nd rfl (by first | exact Or.inl rfl | exact Or.inr rfl) (pe_call (ok_law_hanging T 70) (hr.mono (by first | decide | omega)) (by rfl) T.m_law_hanging T.F_law_hanging.kp T.b_law_hanging .nil pass0 (pa_cons (pv 2) (pa_cons (pv 3) pa_nil))))
    (pss_cons (ps_set (i := 5) sc_law_pair_right.nd rfl (by first | exact Or.inl rfl | exact Or.inr rfl) (pe_ifExp (pt_cmpR op_isN (pv 4) pe_non (nomark _)) pe_non (pe_lc (own := [("_law_piece", 6)]) rfl sc_law_pair_right.nd (pi_list (pv 4)) (blkOk_by (own := [("_law_piece", 6)]) (N := nm_law_pair_right) (sc := defScope s_law_pair_right) (by decide +kernel)) (fun _ _ _ _ _ => by exact (pg_name (i := 6) sc_law_pair_right.nd rfl (by first | exact Or.inl rfl | exact Or.inr rfl))) (fun _ _ _ _ _ => by exact pts_nil) (fun _ _ _ _ _ => by exact (pe_call (ok_law_text T 70) (hr.mono (by first | decide | omega)) (by rfl) T.m_law_text T.F_law_text.kp T.b_law_text .nil pass0 (pa_cons (pv 6) pa_nil))))))
    (pss_cons (ps_for PassesOwn.never rfl (pi_range1 rfl T.z_range (pa_cons pe_int pa_nil)) (pg_name (i := 7) sc_law_pair_right.nd rfl (by first | exact Or.inl rfl | exact Or.inr rfl)) (pss_cons (ps_set (i := 8) sc_law_pair_right.nd rfl (by first | exact Or.inl rfl | exact Or.inr rfl) (pe_call (ok_hung T) (hr.mono (by first | decide | omega)) (by rfl) T.m_hung T.F_hung.kp T.b_hung .nil passL (pa_cons (pv 0) (pa_cons (pv 1) pa_nil))))
    (pss_cons (ps_if (pt_cmpR (op_neD hru) (pv 8) (pv 5) (nomark _)) (pss_one (ps_ret pe_bl)) pss_nil)
    (pss_one (ps_if (pt_cmpR op_notN (pv 8) pe_non (nomark _)) (pss_one (ps_expr (pe_bm PySem.F.plainAttrs_list PySem.F.slot_list_append PySem.F.type_list_append mt_append (pv 8) (pa_cons pe_str pa_nil)))) pss_nil)))))
    (pss_one (ps_ret pe_bl)))))))), ?_⟩
  simp only [cxOf_K, tAsg2, tYes, wipe, tSeq, tIfS, tNot, tB, tCB, tCons, tNil, tVar, tC, tTest, tOp, tAnd, tOr, tAsg, gName, tRet, tRetN, tDrop, tNext, tIf, tCall, tTup, tLst, tNotV, tAndV, tOrV, tUn, rI0, rI, rU, rEq, rNe, tM1, tM0, tBM, tBM0, tSl, tPart, tNoPart, iStr, iEnumS, iRng1, iRng2, iList, gSub, tBits, tAug, tPar, L2.start, List.map_cons, List.map_nil, List.length_cons, List.length_nil, List.getElem?_cons_zero, List.getElem?_cons_succ, List.cons_append, List.nil_append, List.append_nil, List.set_cons_zero, List.set_cons_succ, List.replicate_succ, List.replicate_zero, Option.some.injEq, exists_eq_left', V.int.injEq, V.str.injEq, V.ref.injEq, V.bl.injEq, exists_and_left, exists_eq_left, List.cons.injEq, and_true, true_and, tCallX, tRs]
  refine ⟨a, rfl, by omega, fun v H1 s1 pa => ⟨b, rfl, by omega, fun w H2 s2 pb => ⟨_, _, ⟨rfl, rfl⟩, ?_⟩⟩⟩
  have s12 := s1.trans s2
  have pa := pa.same s2
  have j1 := hgt_join a b
  have j2 := size_joinP a b
  have m1 := hgt_meet a b
  have m2 := Tr.size_meet_le a b
  refine ⟨_, _, rfl, .inl ⟨a, rfl, by omega, .inl ⟨b, rfl, by omega, fun H3 s3 => ?_⟩⟩⟩
  refine ⟨v, w, a, b, rfl, pa.same s3, pb.same s3, by omega, ta, tb, fun z H4 s4 pz => ⟨z, _, rfl, pz, by omega, by omega, by omega, fun H5 s5 => ⟨rfl, ?_⟩⟩⟩
  rw [if_neg (by simp)]
  have s35 := s3.trans (s4.trans s5)
  refine ⟨_, _, rfl, .inl ⟨a, rfl, by omega, .inl ⟨b, rfl, by omega, fun H6 s6 => ?_⟩⟩⟩
  have s36 := s35.trans s6
  refine ⟨v, w, a, b, rfl, pa.same s36, pb.same s36, by omega, ta, tb, fun z' H7 s7 pz' => ⟨z', _, rfl, pz', by omega, by omega, by omega, fun H8 s8 => ⟨rfl, ?_⟩⟩⟩
  rw [if_neg (by simp)]
  have s38 := s36.trans (s7.trans s8)
  refine ⟨v, w, a, b, rfl, pa.same s38, pb.same s38, by omega, tb, ta, by omega, fun en H9 s9 => ?_, fun xs ex p ws H9 s9 np hp pt => ?_⟩
  · show (if decide (V.non = V.non) = true then _ else _)
    rw [if_pos (by decide)]
    have s00 : Same H H9 := s12.trans (s38.trans s9)
    refine ⟨_, rfl, by decide, by decide, for_range (fun i σ H' => ∃ a7 a8, σ = [some (trV a), some (trV b), some v, some w, some V.non, some V.non, none, a7, a8] ∧ Same H9 H') ⟨_, _, rfl, L2.Same.refl H9⟩ ?_ ?_⟩
    · rintro i σ H' hi ⟨a7, a8, rfl, s0⟩
      simp only [cxOf_K, tAsg2, tYes, wipe, tSeq, tIfS, tNot, tB, tCB, tCons, tNil, tVar, tC, tTest, tOp, tAnd, tOr, tAsg, gName, tRet, tRetN, tDrop, tNext, tIf, tCall, tTup, tLst, tNotV, tAndV, tOrV, tUn, rI0, rI, rU, rEq, rNe, tM1, tM0, tBM, tBM0, tSl, tPart, tNoPart, iStr, iEnumS, iRng1, iRng2, iList, gSub, tBits, tAug, tPar, L2.start, List.map_cons, List.map_nil, List.length_cons, List.length_nil, List.getElem?_cons_zero, List.getElem?_cons_succ, List.cons_append, List.nil_append, List.append_nil, List.set_cons_zero, List.set_cons_succ, List.replicate_succ, List.replicate_zero, Option.some.injEq, exists_eq_left', V.int.injEq, V.str.injEq, V.ref.injEq, V.bl.injEq, exists_and_left, exists_eq_left, List.cons.injEq, and_true, true_and, tCallX, tRs]
      refine ⟨_, _, rfl, .inl ⟨a, rfl, by omega, .inl ⟨b, rfl, by omega, fun _ H1 s1 => ?_, fun ys ey p H1 np s1 hp => ?_⟩⟩⟩
      · refine ⟨.none, .none, .non, .non, by decide +kernel, by decide +kernel, ?_⟩
        rw [show PyData.eqv .none .none = true by decide +kernel]
        refine ⟨false, rfl, ?_⟩
        rw [if_neg (by decide), if_neg (by decide)]
        exact ⟨_, _, ⟨rfl, rfl⟩, s0.trans s1⟩
      · rw [en] at ey
        cases ey
    · rintro σ H' ⟨a7, a8, rfl, s0⟩
      simp only [cxOf_K, tAsg2, tYes, wipe, tSeq, tIfS, tNot, tB, tCB, tCons, tNil, tVar, tC, tTest, tOp, tAnd, tOr, tAsg, gName, tRet, tRetN, tDrop, tNext, tIf, tCall, tTup, tLst, tNotV, tAndV, tOrV, tUn, rI0, rI, rU, rEq, rNe, tM1, tM0, tBM, tBM0, tSl, tPart, tNoPart, iStr, iEnumS, iRng1, iRng2, iList, gSub, tBits, tAug, tPar, L2.start, List.map_cons, List.map_nil, List.length_cons, List.length_nil, List.getElem?_cons_zero, List.getElem?_cons_succ, List.cons_append, List.nil_append, List.append_nil, List.set_cons_zero, List.set_cons_succ, List.replicate_succ, List.replicate_zero, Option.some.injEq, exists_eq_left', V.int.injEq, V.str.injEq, V.ref.injEq, V.bl.injEq, exists_and_left, exists_eq_left, List.cons.injEq, and_true, true_and, tCallX, tRs]
      exact q _ (s00.trans s0)
  · show (if decide (V.ref p = V.non) = true then _ else _)
    rw [if_neg (by simp)]
    have sA := s38.trans s9
    have all := hgt_hang _ _ _ ex
    have l1 := Tr.hang_len _ _ _ ex
    have l2 := Tr.lvs_size b
    have lw := pt.length
    refine ⟨_, rfl, p, rfl, ⟨_, SqL.of hp⟩, fun D hD => ?_⟩
    have npD : p ≠ D := ne_of_none hp hD
    refine lc_list (K := K) (a := p) (xs := ws) (fun i H' => Same H9 H' ∧ H' D = some (.lst ((xs.take i).map trV))) ⟨(L2.Same.refl H9).new hD _, upd_same⟩ (fun i H' _ hp' => SqL.of (hp'.1 _ _ hp)) ?_ ?_
    · rintro i x H' hi ⟨s10, hd⟩
      obtain ⟨u, hu, pu⟩ := pt.get hi
      have hm := List.mem_of_getElem? hu
      have hil : i < xs.length := (List.getElem?_eq_some_iff.mp hu).1
      have ba := all u hm
      simp only [cxOf_K, tAsg2, tYes, wipe, tSeq, tIfS, tNot, tB, tCB, tCons, tNil, tVar, tC, tTest, tOp, tAnd, tOr, tAsg, gName, tRet, tRetN, tDrop, tNext, tIf, tCall, tTup, tLst, tNotV, tAndV, tOrV, tUn, rI0, rI, rU, rEq, rNe, tM1, tM0, tBM, tBM0, tSl, tPart, tNoPart, iStr, iEnumS, iRng1, iRng2, iList, gSub, tBits, tAug, tPar, L2.start, List.map_cons, List.map_nil, List.length_cons, List.length_nil, List.getElem?_cons_zero, List.getElem?_cons_succ, List.cons_append, List.nil_append, List.append_nil, List.set_cons_zero, List.set_cons_succ, List.replicate_succ, List.replicate_zero, Option.some.injEq, exists_eq_left', V.int.injEq, V.str.injEq, V.ref.injEq, V.bl.injEq, exists_and_left, exists_eq_left, List.cons.injEq, and_true, true_and, tCallX, tRs]
      rw [if_pos True.intro]
      refine ⟨x, u, rfl, pu.same s10, by omega, by omega, by omega, fun H2 s11 => ⟨_, s11 _ _ hd, ?_, (s10.trans s11).new hD _, ?_⟩⟩
      · rw [List.length_map, List.length_take]
        exact small5' (by omega)
      · rw [upd_same, List.take_add_one, hu]
        simp
    · rintro H10 ⟨s10, hd⟩
      rw [lw, List.take_length] at hd
      have s00 : Same H H10 := s12.trans (sA.trans s10)
      refine ⟨_, rfl, by decide, by decide, for_range (fun i σ H' => ∃ a6 a7 a8, σ = [some (trV a), some (trV b), some v, some w, some (V.ref p), some (V.ref D), a6, a7, a8] ∧ Same H10 H') ⟨_, _, _, rfl, L2.Same.refl H10⟩ ?_ ?_⟩
      · rintro i σ H' hi ⟨a6, a7, a8, rfl, s0⟩
        simp only [cxOf_K, tAsg2, tYes, wipe, tSeq, tIfS, tNot, tB, tCB, tCons, tNil, tVar, tC, tTest, tOp, tAnd, tOr, tAsg, gName, tRet, tRetN, tDrop, tNext, tIf, tCall, tTup, tLst, tNotV, tAndV, tOrV, tUn, rI0, rI, rU, rEq, rNe, tM1, tM0, tBM, tBM0, tSl, tPart, tNoPart, iStr, iEnumS, iRng1, iRng2, iList, gSub, tBits, tAug, tPar, L2.start, List.map_cons, List.map_nil, List.length_cons, List.length_nil, List.getElem?_cons_zero, List.getElem?_cons_succ, List.cons_append, List.nil_append, List.append_nil, List.set_cons_zero, List.set_cons_succ, List.replicate_succ, List.replicate_zero, Option.some.injEq, exists_eq_left', V.int.injEq, V.str.injEq, V.ref.injEq, V.bl.injEq, exists_and_left, exists_eq_left, List.cons.injEq, and_true, true_and, tCallX, tRs]
        refine ⟨_, _, rfl, .inl ⟨a, rfl, by omega, .inl ⟨b, rfl, by omega, fun en H1 s1 => ?_, fun ys ey p H1 np s1 hp => ?_⟩⟩⟩
        · rw [ex] at en
          cases en
        · rw [ex] at ey
          cases ey
          refine ⟨.list (xs.map fun t => .str (S t.cs)), .list (xs.map fun t => .str (S t.cs)), .lst (SqL.of hp) (dpS xs), .lst (SqL.of (s1 _ _ (s0 _ _ hd))) (dpS xs), shS xs, shS xs, ?_⟩
          rw [eqS xs]
          refine ⟨false, rfl, ?_⟩
          rw [if_neg (by decide), if_pos (by simp)]
          refine ⟨tyV_lst hp, p, _, _, rfl, rfl, hp, by rw [List.length_map]; exact small5' (by omega), ?_⟩
          exact ⟨_, _, _, ⟨rfl, rfl, rfl⟩, (s0.trans s1).new (s0.free np) _⟩
      · rintro σ H' ⟨a6, a7, a8, rfl, s0⟩
        simp only [cxOf_K, tAsg2, tYes, wipe, tSeq, tIfS, tNot, tB, tCB, tCons, tNil, tVar, tC, tTest, tOp, tAnd, tOr, tAsg, gName, tRet, tRetN, tDrop, tNext, tIf, tCall, tTup, tLst, tNotV, tAndV, tOrV, tUn, rI0, rI, rU, rEq, rNe, tM1, tM0, tBM, tBM0, tSl, tPart, tNoPart, iStr, iEnumS, iRng1, iRng2, iList, gSub, tBits, tAug, tPar, L2.start, List.map_cons, List.map_nil, List.length_cons, List.length_nil, List.getElem?_cons_zero, List.getElem?_cons_succ, List.cons_append, List.nil_append, List.append_nil, List.set_cons_zero, List.set_cons_succ, List.replicate_succ, List.replicate_zero, Option.some.injEq, exists_eq_left', V.int.injEq, V.str.injEq, V.ref.injEq, V.bl.injEq, exists_and_left, exists_eq_left, List.cons.injEq, and_true, true_and, tCallX, tRs]
        exact q _ (s00.trans s0)

theorem exmT (T : Txt K mg) {C : Addr} {l : List Value} (e : ErrC K C (.ref C :: .ref T.c_TurnError :: l)) : PySem.W.exmOne K (.ref C) (.ref T.c_TurnError) = some true := by
  refine PySem.W.exm_ref T.e_TurnError.ec.hs T.e_TurnError.ec.hd T.e_TurnError.ty ?_
  rw [e.sub rfl, List.contains_cons, List.contains_cons, show ((Value.ref T.c_TurnError) == (Value.ref T.c_TurnError)) = true from beq_self_eq_true _, Bool.true_or, Bool.or_true]
theorem kitSelf {C : Addr} : PySem.W.kitOne K (.ref C) (.ref C) = some true := by
  unfold PySem.W.kitOne
  rw [if_pos (beq_self_eq_true _)]
theorem Good.same {H H' : Hp} {y : V} {d : PyData} (g : Good H y d) (s : Same H H') : Good H' y d := ⟨g.dv.same s, g.sh, g.dp, g.ln⟩
theorem Good.repr {H : Hp} {y : V} {d : PyData} {Q : VK} (g : Good H y d) (q : Q (.str d.shown) H) : rReprV [y] H Q := by
  have h1 := g.dp
  have h2 := g.ln
  exact ⟨y, d, d.hasDict, rfl, g.dv, id, g.sh, by omega, by rw [sizeLine_eq]; omega, q⟩
theorem Kept.keep {H H' : Hp} {g a C : Addr} {fs : List (Str × V)} {ws : List V} (x : Kept H a C fs) (k : Keep g H H') (hg : H g = some (.lst ws)) : Kept H' a C fs := by
  obtain ⟨d, h1, h2⟩ := x
  exact ⟨d, k _ _ (ne_of h1 hg fun z => by have z' : HO.ext _ = HO.lst _ := z; cases z') h1, k _ _ (ne_of h2 hg fun z => by cases z) h2⟩
theorem ok_law_caught (T : Txt K mg) : FnG P w K mg base CX0 8 T.a_law_caught T.fd_law_caught ["_law_tree_here", "_law_trees_here"] (sp_law_caught T) := by
  refine okG T.F_law_caught sc_law_caught (fun vs H Q E h => ?_) (fun cdv A outer s H vs Q E hG hr h => ?_)
  · obtain ⟨t, v, d, rfl, _⟩ := h; rfl
  obtain ⟨t, v, d, rfl, ht, bad, gd, h⟩ := h
  have hru := hr.units
  refine ⟨_, (pss_cons (ps_set (i := 2) sc_law_caught.nd rfl (by first | exact Or.inl rfl | exact Or.inr rfl) pe_non)
    (pss_cons (ps_try_keep (i := 3) (j := 2) rfl rfl rfl sc_law_caught.nd rfl rfl rfl rfl (by decide) ⟨by rfl, by decide, .inl T.g_TurnError⟩ takes0 (fun W pn xe tk po => (pss_one (ps_expr (pe_callX (ok_grown T) tk (hr.mono (by first | decide | omega)) (by rfl) T.m_grown T.F_grown.kp T.b_grown .nil (pa_cons (pv 0) (pa_cons (pv 1) pa_nil)))))) (fun a pn => pss_one (ps_set (i := 2) sc_law_caught.nd rfl (by first | exact Or.inl rfl | exact Or.inr rfl) (pv 3))))
    (pss_cons (ps_if (pt_not (pt_val (pe_callB call_isQ (by rfl) T.z_isinstance (by decide +kernel) (pa_cons (pv 2) (pa_cons (pe_glob (v := .ref T.c_InvalidList) (by rfl) T.g_InvalidList rfl) pa_nil))))) (pss_one (ps_ret pe_bl)) pss_nil)
    (pss_cons (ps_set (i := 4) sc_law_caught.nd rfl (by first | exact Or.inl rfl | exact Or.inr rfl) (pe_callB (cr_reprV hG hru) (by rfl) T.z_repr (by decide +kernel) (pa_cons (pv 1) pa_nil)))
    (pss_cons (ps_if (pt_val (pe_callB call_isi (by rfl) T.z_isinstance (by decide +kernel) (pa_cons (pv 1) (pa_cons (pe_bltn (v := .ty "list") (by rfl) T.z_list (by decide +kernel) rfl) pa_nil)))) (pss_cons (ps_expr (pe_bm PySem.F.plainAttrs_list PySem.F.slot_list_append PySem.F.type_list_append mt_append (pv 1) (pa_cons pe_str pa_nil)))
    (pss_one (ps_ret (pe_cmpR op_eq (pe_callB call_len_seq (by rfl) T.z_len PySem.boot_len (pa_cons (pe_qx (pv 2)) pa_nil)) (pe_callB call_len_seq (by rfl) T.z_len PySem.boot_len (pa_cons (pv 1) pa_nil)) (nomark _))))) pss_nil)
    (pss_one (ps_ret (pe_cmpR op_eq (pe_callB (cr_reprV hG hru) (by rfl) T.z_repr (by decide +kernel) (pa_cons (pe_qx (pv 2)) pa_nil)) (pv 4) (nomark _))))))))), ?_⟩
  simp only [cxOf_K, tAsg2, tYes, wipe, tSeq, tIfS, tNot, tB, tCB, tCons, tNil, tVar, tC, tTest, tOp, tAnd, tOr, tAsg, gName, tRet, tRetN, tDrop, tNext, tIf, tCall, tTup, tLst, tNotV, tAndV, tOrV, tUn, rI0, rI, rU, rEq, rNe, tM1, tM0, tBM, tBM0, tSl, tPart, tNoPart, iStr, iEnumS, iRng1, iRng2, iList, gSub, tBits, tAug, tPar, L2.start, List.map_cons, List.map_nil, List.length_cons, List.length_nil, List.getElem?_cons_zero, List.getElem?_cons_succ, List.cons_append, List.nil_append, List.append_nil, List.set_cons_zero, List.set_cons_succ, List.replicate_succ, List.replicate_zero, Option.some.injEq, exists_eq_left', V.int.injEq, V.str.injEq, V.ref.injEq, V.bl.injEq, exists_and_left, exists_eq_left, List.cons.injEq, and_true, true_and, tCallX, tRs]
  refine ⟨trV t, v, rfl, .inl ⟨t, rfl, by omega, .inr ⟨bad, fun d' H2 s2 nd hd => ?_⟩⟩⟩
  refine ⟨T.c_InvalidList, true, rfl, exmT T T.e_InvalidList, fun _ a na => ?_, fun z => by cases z⟩
  have da : d' ≠ a := fun z => by rw [z, na] at hd; cases hd
  have s3 := s2.new (s2.free na) (kxo a T.c_InvalidList (some d'))
  have kp : Kept (upd H2 a (kxo a T.c_InvalidList (some d'))) a T.c_InvalidList [("value", v)] := ⟨d', upd_same, by rw [upd_ne da]; exact hd⟩
  generalize upd H2 a (kxo a T.c_InvalidList (some d')) = H3 at s3 kp ⊢
  simp only [tQx, cxOf_K, tAsg2, tYes, wipe, tSeq, tIfS, tNot, tB, tCB, tCons, tNil, tVar, tC, tTest, tOp, tAnd, tOr, tAsg, gName, tRet, tRetN, tDrop, tNext, tIf, tCall, tTup, tLst, tNotV, tAndV, tOrV, tUn, rI0, rI, rU, rEq, rNe, tM1, tM0, tBM, tBM0, tSl, tPart, tNoPart, iStr, iEnumS, iRng1, iRng2, iList, gSub, tBits, tAug, tPar, L2.start, List.map_cons, List.map_nil, List.length_cons, List.length_nil, List.getElem?_cons_zero, List.getElem?_cons_succ, List.cons_append, List.nil_append, List.append_nil, List.set_cons_zero, List.set_cons_succ, List.replicate_succ, List.replicate_zero, Option.some.injEq, exists_eq_left', V.int.injEq, V.str.injEq, V.ref.injEq, V.bl.injEq, exists_and_left, exists_eq_left, List.cons.injEq, and_true, true_and, tCallX, tRs]
  refine ⟨a, _, _, _, _, true, rfl, T.e_InvalidList.ec, kp, .own _, kitSelf, true, rfl, ?_⟩
  rw [if_neg (by decide)]
  refine (gd.same s3).repr ?_
  rcases h with ⟨⟨ty, h1, h2⟩, q⟩ | ⟨l, ws, rfl, hl, hw, q⟩
  · refine ⟨v, _, ty, _, false, rfl, .ty _, tyX_same h1 s3, h2, false, rfl, ?_⟩
    rw [if_neg (by decide)]
    refine ⟨_, T.x_InvalidList, T.n_InvalidList, _, kp, v, rfl, (gd.same s3).repr ⟨rfl, ?_⟩⟩
    rw [decide_eq_true rfl]
    exact q _ s3
  · have hl3 := s3 _ _ hl
    refine ⟨_, _, _, _, true, rfl, .ty _, .base (.lst hl3), kit_ty (by decide +kernel), true, rfl, ?_⟩
    rw [if_pos rfl]
    refine ⟨tyV_lst hl3, l, _, _, rfl, rfl, hl3, small5' (by omega), ?_⟩
    have k1 : Keep l H3 (upd H3 l (.lst (ws ++ [V.str "more"]))) := fun b o nb hb => by rw [upd_ne nb]; exact hb
    refine ⟨_, T.x_InvalidList, T.n_InvalidList, _, Kept.keep kp k1 hl3, .ref l, rfl, ?_⟩
    refine ⟨l, rfl, _, .inl (SqL.of upd_same), l, rfl, _, .inl (SqL.of upd_same), rfl, ?_⟩
    rw [decide_eq_true rfl]
    exact q _ fun b o nb hb => k1 b o nb (s3 _ _ hb)

theorem ok_law_no_tree (T : Txt K mg) : FnG P w K mg base CX0 8 T.a_law_no_tree T.fd_law_no_tree ["_law_door", "_law_one", "_law_other", "_law_bad"] (sp_law_no_tree T) := by
  refine okG T.F_law_no_tree sc_law_no_tree (fun vs H Q E h => ?_) (fun cdv A outer s H vs Q E hG hr h => ?_)
  · obtain ⟨n, u, v, b, d, rfl, _⟩ := h; rfl
  obtain ⟨n, u, v, b, d, rfl, hn, nt, gd, h, q⟩ := h
  have hru := hr.units
  refine ⟨_, (pss_cons (ps_set (i := 4) sc_law_no_tree.nd rfl (by first | exact Or.inl rfl | exact Or.inr rfl) pe_non)
    (pss_cons (ps_try_keep (i := 5) (j := 4) rfl rfl rfl sc_law_no_tree.nd rfl rfl rfl rfl (by decide) ⟨by rfl, by decide, .inl T.g_TurnError⟩ takes0 (fun W pn xe tk po => (pss_one (ps_expr (show PE _ _ (tCallSX P w K mg base (A.deeper (PyProof.Rows.envOfC "_law_no_tree" (defScope s_law_no_tree) s.heap.objs.size T.a_law_no_tree cdv)) W _ _) from pe_callSX tk (show PE _ _ (tOp (rIxL K) _ _) from (pe_ix ix_list (pe_lst (pa_cons (pe_glob (v := .ref T.a_grown) (by rfl) T.m_grown rfl) (pa_cons (pe_glob (v := .ref T.a_hung) (by rfl) T.m_hung rfl) (pa_cons (pe_glob (v := .ref T.a_joined) (by rfl) T.m_joined rfl) (pa_cons (pe_glob (v := .ref T.a_shared) (by rfl) T.m_shared rfl) pa_nil))))) (pv 0) (fun _ _ => rfl))) (pa_cons (pv 1) (pa_cons (pv 2) pa_nil)))))) (fun a pn => pss_one (ps_set (i := 4) sc_law_no_tree.nd rfl (by first | exact Or.inl rfl | exact Or.inr rfl) (pv 5))))
    (pss_one (ps_ret (pe_and (pe_callB call_isQ (by rfl) T.z_isinstance (by decide +kernel) (pa_cons (pv 4) (pa_cons (pe_glob (v := .ref T.c_InvalidTree) (by rfl) T.g_InvalidTree rfl) pa_nil))) (pe_one (pe_cmpR op_eq (pe_callB (cr_reprV hG hru) (by rfl) T.z_repr (by decide +kernel) (pa_cons (pe_qx (pv 4)) pa_nil)) (pe_callB (cr_reprV hG hru) (by rfl) T.z_repr (by decide +kernel) (pa_cons (pv 3) pa_nil)) (nomark _)))))))), ?_⟩
  simp only [tCallSX, cxOf_K, tAsg2, tYes, wipe, tSeq, tIfS, tNot, tB, tCB, tCons, tNil, tVar, tC, tTest, tOp, tAnd, tOr, tAsg, gName, tRet, tRetN, tDrop, tNext, tIf, tCall, tTup, tLst, tNotV, tAndV, tOrV, tUn, rI0, rI, rU, rEq, rNe, tM1, tM0, tBM, tBM0, tSl, tPart, tNoPart, iStr, iEnumS, iRng1, iRng2, iList, gSub, tBits, tAug, tPar, L2.start, List.map_cons, List.map_nil, List.length_cons, List.length_nil, List.getElem?_cons_zero, List.getElem?_cons_succ, List.cons_append, List.nil_append, List.append_nil, List.set_cons_zero, List.set_cons_succ, List.replicate_succ, List.replicate_zero, Option.some.injEq, exists_eq_left', V.int.injEq, V.str.injEq, V.ref.injEq, V.bl.injEq, exists_and_left, exists_eq_left, List.cons.injEq, and_true, true_and, tCallX, tRs]
  refine ⟨by decide, fun p hp => ?_⟩
  have s0 := (L2.Same.refl H).new hp (.lst [V.ref T.a_grown, V.ref T.a_hung, V.ref T.a_joined, V.ref T.a_shared])
  have out : ∀ (D : Ends) (σ : L2.St) {H1 : Hp}, Same H H1 → (∀ H4, Same H H4 → ∀ a, Kept H4 a T.c_InvalidTree [("value", b)] → D.nx (((σ.set 5 (some (.ref a))).set 4 (some (.ref a))).set 5 none) H4) →
      Out T.c_InvalidTree b H1 fun cls d H3 => wKeep K (.ref T.c_TurnError) 5 4 (fun _ _ _ _ => False) D cls d σ H3 := fun D σ H1 s1 go d' H2 s2 nd hd => by
    refine ⟨T.c_InvalidTree, true, rfl, exmT T T.e_InvalidTree, fun _ a na => ?_, fun z => by cases z⟩
    have da : d' ≠ a := fun z => by rw [z, na] at hd; cases hd
    exact go _ (s1.trans (s2.new (s2.free na) (kxo a T.c_InvalidTree (some d')))) a ⟨d', upd_same, by rw [upd_ne da]; exact hd⟩
  have fin : ∀ (u v : V) (H4 : Hp), Same H H4 → ∀ a, Kept H4 a T.c_InvalidTree [("value", b)] → tRet (tAndV (tCB (rIsQ K) (tCons (tVar 4) (tCons (tC (V.ref T.c_InvalidTree)) tNil))) (tOp rEq (tCB rReprV (tCons (tQx K "value" (tVar 4)) tNil)) (tCB rReprV (tCons (tVar 3) tNil))))
      { nx := fun x H' => Q V.non H', rt := Q } [some (V.int (n : Nat)), some u, some v, some b, some (.ref a), none] H4 := fun u v H4 s4 a kp => by
    simp only [tQx, cxOf_K, tAsg2, tYes, wipe, tSeq, tIfS, tNot, tB, tCB, tCons, tNil, tVar, tC, tTest, tOp, tAnd, tOr, tAsg, gName, tRet, tRetN, tDrop, tNext, tIf, tCall, tTup, tLst, tNotV, tAndV, tOrV, tUn, rI0, rI, rU, rEq, rNe, tM1, tM0, tBM, tBM0, tSl, tPart, tNoPart, iStr, iEnumS, iRng1, iRng2, iList, gSub, tBits, tAug, tPar, L2.start, List.map_cons, List.map_nil, List.length_cons, List.length_nil, List.getElem?_cons_zero, List.getElem?_cons_succ, List.cons_append, List.nil_append, List.append_nil, List.set_cons_zero, List.set_cons_succ, List.replicate_succ, List.replicate_zero, Option.some.injEq, exists_eq_left', V.int.injEq, V.str.injEq, V.ref.injEq, V.bl.injEq, exists_and_left, exists_eq_left, List.cons.injEq, and_true, true_and, tCallX, tRs]
    refine ⟨a, _, _, _, _, true, rfl, T.e_InvalidTree.ec, kp, .own _, kitSelf, true, rfl, ?_⟩
    rw [if_pos rfl]
    refine ⟨_, T.x_InvalidTree, T.n_InvalidTree, _, kp, b, rfl, (Good.same gd s4).repr ((Good.same gd s4).repr ⟨rfl, ?_⟩)⟩
    rw [decide_eq_true rfl]
    exact q _ s4
  have hn4 : n = 0 ∨ n = 1 ∨ n = 2 ∨ n = 3 := by omega
  rcases hn4 with rfl | rfl | rfl | rfl
  · refine ⟨p, _, _, .ref T.a_grown, rfl, rfl, SqL.of upd_same, rfl, _, rfl, T.fd_grown, ["tree", "hung"], sp_grown T, 4, ok_grown T, hr.mono (by omega), T.F_grown.kp, T.b_grown, ?_⟩
    rcases h with rfl | ⟨h1, rfl, t, rfl, ht⟩
    · exact ⟨_, _, rfl, .inr ⟨nt.same s0, out _ _ s0 fun H4 s4 a kp => fin _ _ H4 s4 a kp⟩⟩
    · omega
  · refine ⟨p, _, _, .ref T.a_hung, rfl, rfl, SqL.of upd_same, rfl, _, rfl, T.fd_hung, ["tree", "top"], sp_hung T, 4, ok_hung T, hr.mono (by omega), T.F_hung.kp, T.b_hung, ?_⟩
    rcases h with rfl | ⟨h1, rfl, t, rfl, ht⟩
    · exact ⟨_, _, rfl, .inr ⟨nt.same s0, out _ _ s0 fun H4 s4 a kp => fin _ _ H4 s4 a kp⟩⟩
    · exact ⟨_, _, rfl, .inl ⟨t, rfl, by omega, .inr ⟨nt.same s0, out _ _ s0 fun H4 s4 a kp => fin _ _ H4 s4 a kp⟩⟩⟩
  · refine ⟨p, _, _, .ref T.a_joined, rfl, rfl, SqL.of upd_same, rfl, _, rfl, T.fd_joined, ["one", "other"], sp_joined T, 5, ok_joined T, hr.mono (by omega), T.F_joined.kp, T.b_joined, ?_⟩
    rcases h with rfl | ⟨h1, rfl, t, rfl, ht⟩
    · exact ⟨_, _, rfl, .inr ⟨nt.same s0, out _ _ s0 fun H4 s4 a kp => fin _ _ H4 s4 a kp⟩⟩
    · exact ⟨_, _, rfl, .inl ⟨t, rfl, by omega, .inr ⟨nt.same s0, out _ _ s0 fun H4 s4 a kp => fin _ _ H4 s4 a kp⟩⟩⟩
  · refine ⟨p, _, _, .ref T.a_shared, rfl, rfl, SqL.of upd_same, rfl, _, rfl, T.fd_shared, ["one", "other"], sp_shared T, 4, ok_shared T, hr.mono (by omega), T.F_shared.kp, T.b_shared, ?_⟩
    rcases h with rfl | ⟨h1, rfl, t, rfl, ht⟩
    · exact ⟨_, _, rfl, .inr ⟨nt.same s0, out _ _ s0 fun H4 s4 a kp => fin _ _ H4 s4 a kp⟩⟩
    · exact ⟨_, _, rfl, .inl ⟨t, rfl, by omega, .inr ⟨nt.same s0, out _ _ s0 fun H4 s4 a kp => fin _ _ H4 s4 a kp⟩⟩⟩

theorem ok_law_refused (T : Txt K mg) : FnG P w K mg base CX0 9 T.a_law_refused T.fd_law_refused ["_law_tree_here"] (sp_law_refused T) := by
  refine okG T.F_law_refused sc_law_refused (fun vs H Q E h => ?_) (fun cdv A outer s H vs Q E hG hr h => ?_)
  · obtain ⟨t, rfl, _⟩ := h; rfl
  obtain ⟨t, rfl, ht, q⟩ := h
  have hru := hr.units
  refine ⟨_, (pss_cons (ps_for PassesOwn.never rfl (pi_list (pe_lst (pa_cons pe_str (pa_cons pe_str (pa_cons pe_str (pa_cons pe_str (pa_cons pe_non (pa_cons pe_int (pa_cons pe_bl (pa_cons (pe_lst (pa_cons (pv 0) pa_nil)) (pa_cons (pe_tup (pa_cons pe_str (pa_cons pe_str pa_nil))) (pa_cons pe_dnewK pa_nil)))))))))))) (pg_name (i := 1) sc_law_refused.nd rfl (by first | exact Or.inl rfl | exact Or.inr rfl)) (pss_cons (ps_if (pw_or (pt_not (pt_val (pe_callG (ok_law_no_tree T) hG (hr.mono (by first | decide | omega)) (by rfl) T.m_law_no_tree T.F_law_no_tree.kp T.b_law_no_tree .nil pass0 (pa_cons pe_int (pa_cons (pv 1) (pa_cons pe_non (pa_cons (pv 1) pa_nil))))))) (pw_or1 (pt_not (pt_val (pe_callG (ok_law_no_tree T) hG (hr.mono (by first | decide | omega)) (by rfl) T.m_law_no_tree T.F_law_no_tree.kp T.b_law_no_tree .nil pass0 (pa_cons pe_int (pa_cons (pv 1) (pa_cons (pe_lst (pa_cons pe_str pa_nil)) (pa_cons (pv 1) pa_nil))))))))).pt (pss_one (ps_ret pe_bl)) pss_nil)
    (pss_one (ps_for PassesOwn.never rfl (pi_range2 rfl T.z_range (pa_cons pe_int (pa_cons pe_int pa_nil))) (pg_name (i := 2) sc_law_refused.nd rfl (by first | exact Or.inl rfl | exact Or.inr rfl)) (pss_one (ps_for PassesOwn.never rfl (pi_list (pe_lst (pa_cons (pe_tup (pa_cons (pv 1) (pa_cons pe_int pa_nil))) (pa_cons (pe_tup (pa_cons (pv 0) (pa_cons (pv 1) pa_nil))) (pa_cons (pe_tup (pa_cons (pv 1) (pa_cons pe_str pa_nil))) (pa_cons (pe_tup (pa_cons pe_str (pa_cons (pv 1) pa_nil))) (pa_cons (pe_tup (pa_cons (pv 1) (pa_cons (pv 0) pa_nil))) (pa_cons (pe_tup (pa_cons (pv 1) (pa_cons (pv 1) pa_nil))) pa_nil)))))))) (pg_tup rfl (pgs_cons (pg_name (i := 3) sc_law_refused.nd rfl (by first | exact Or.inl rfl | exact Or.inr rfl)) (pgs_cons (pg_name (i := 4) sc_law_refused.nd rfl (by first | exact Or.inl rfl | exact Or.inr rfl)) pgs_nil))) (pss_one (ps_if (pt_not (pt_val (pe_callG (ok_law_no_tree T) hG (hr.mono (by first | decide | omega)) (by rfl) T.m_law_no_tree T.F_law_no_tree.kp T.b_law_no_tree .nil pass0 (pa_cons (pv 2) (pa_cons (pv 3) (pa_cons (pv 4) (pa_cons (pv 1) pa_nil))))))) (pss_one (ps_ret pe_bl)) pss_nil))))))))
    (pss_one (ps_ret pe_bl))), ?_⟩
  simp only [tDNewK, cxOf_K, tAsg2, tYes, wipe, tSeq, tIfS, tNot, tB, tCB, tCons, tNil, tVar, tC, tTest, tOp, tAnd, tOr, tAsg, gName, tRet, tRetN, tDrop, tNext, tIf, tCall, tTup, tLst, tNotV, tAndV, tOrV, tUn, rI0, rI, rU, rEq, rNe, tM1, tM0, tBM, tBM0, tSl, tPart, tNoPart, iStr, iEnumS, iRng1, iRng2, iList, gSub, tBits, tAug, tPar, L2.start, List.map_cons, List.map_nil, List.length_cons, List.length_nil, List.getElem?_cons_zero, List.getElem?_cons_succ, List.cons_append, List.nil_append, List.append_nil, List.set_cons_zero, List.set_cons_succ, List.replicate_succ, List.replicate_zero, Option.some.injEq, exists_eq_left', V.int.injEq, V.str.injEq, V.ref.injEq, V.bl.injEq, exists_and_left, exists_eq_left, List.cons.injEq, and_true, true_and, tCallX, tRs]
  refine ⟨_, rfl, small5 (by simp), fun p1 n1 => ⟨by decide, fun p2 n2 => ?_⟩⟩
  have s1 := (L2.Same.refl H).new n1 (.lst [trV t])
  have h1 : upd H p1 (.lst [trV t]) p1 = some _ := upd_same
  generalize upd H p1 (.lst [trV t]) = H1 at s1 h1 n2 ⊢
  have s2 := (L2.Same.refl H1).new n2 (.tup [V.str ".", V.str "."])
  have h2 : upd H1 p2 (.tup [V.str ".", V.str "."]) p2 = some _ := upd_same
  generalize upd H1 p2 (.tup [V.str ".", V.str "."]) = H2 at s2 h2 ⊢
  refine fun p3 n3 => ?_
  have s3 := (L2.Same.refl H2).new n3 (.dK [])
  have h3 : upd H2 p3 (.dK []) p3 = some _ := upd_same
  generalize upd H2 p3 (.dK []) = H3 at s3 h3 ⊢
  refine ⟨small5 (by simp), fun p4 n4 => ?_⟩
  have s4 := (L2.Same.refl H3).new n4 (.lst [V.str "", .str "(..", .str "..", .str "(.)", .non, .int 5, .bl true, .ref p1, .ref p2, .ref p3])
  have h4 : upd H3 p4 (.lst [V.str "", .str "(..", .str "..", .str "(.)", .non, .int 5, .bl true, .ref p1, .ref p2, .ref p3]) p4 = some _ := upd_same
  generalize upd H3 p4 _ = HL at s4 h4 ⊢
  have w1 := s4 _ _ (s3 _ _ (s2 _ _ h1))
  have w2 := s4 _ _ (s3 _ _ h2)
  have w3 := s4 _ _ h3
  have all := s1.trans (s2.trans (s3.trans s4))
  clear s1 s2 s3 s4 h1 h2 h3 n1 n2 n3 n4
  refine ⟨p4, rfl, ⟨_, SqL.of h4⟩, for_list (K := K) (a := p4) (xs := [V.str "", .str "(..", .str "..", .str "(.)", .non, .int 5, .bl true, .ref p1, .ref p2, .ref p3])
    (fun i σ H' => ∃ a1 a2 a3 a4, σ = [some (trV t), a1, a2, a3, a4] ∧ Same HL H') ⟨_, _, _, _, rfl, L2.Same.refl HL⟩ ?_ ?_ ?_⟩
  · rintro i σ H' hi ⟨a1, a2, a3, a4, rfl, s0⟩
    exact SqL.of (s0 _ _ h4)
  · rintro i x σ H' hi ⟨a1, a2, a3, a4, rfl, s0⟩
    have txt : ∀ z : Str, isT z.cps.toList ["tree"] = false → z.length ≤ 1000 → (reprText z).length ≤ 1000000 → NotTree K H' (.str z) ∧ ∃ d, Good H' (.str z) d := fun z h1 h2 h3 =>
      ⟨.inl ⟨z, rfl, by omega, h1⟩, .str z, .str z, rfl, by simp [PyData.depth], by simpa only [PyData.shown] using h3⟩
    have gv : NotTree K H' x ∧ ∃ d, Good H' x d :=
      match i, hi with
      | 0, hi => by cases hi; exact txt _ (by decide +kernel) (by decide +kernel) (by decide +kernel)
      | 1, hi => by cases hi; exact txt _ (by decide +kernel) (by decide +kernel) (by decide +kernel)
      | 2, hi => by cases hi; exact txt _ (by decide +kernel) (by decide +kernel) (by decide +kernel)
      | 3, hi => by cases hi; exact txt _ (by decide +kernel) (by decide +kernel) (by decide +kernel)
      | 4, hi => by cases hi; exact ⟨.inr ⟨_, .base .non, kit_ty (by decide +kernel)⟩, .none, .non, by decide +kernel, by decide +kernel, by decide +kernel⟩
      | 5, hi => by cases hi; exact ⟨.inr ⟨_, .base (.int _), kit_ty (by decide +kernel)⟩, .int 5, .int 5, by decide +kernel, by decide +kernel, by decide +kernel⟩
      | 6, hi => by cases hi; exact ⟨.inr ⟨_, .base (.bl _), kit_ty (by decide +kernel)⟩, .bool true, .bl _, by decide +kernel, by decide +kernel, by decide +kernel⟩
      | 7, hi => by
        cases hi
        have cl := tr_len (t := t) (by omega)
        have rl := PySem.StrLaws.reprText_len (S t.cs) (fun c hc => Nat.lt_of_lt_of_le (csLt t c (by simpa using hc)) (by decide))
        rw [S_len t.cs] at rl
        refine ⟨.inr ⟨_, .base (.lst (s0 _ _ w1)), kit_ty (by decide +kernel)⟩, .list [.str (S t.cs)], .lst (fun z => by simp [PyData.hasDict, PyData.hasDictAll] at z) (s0 _ _ w1) (.cons (.str _) .nil), by simp [PyData.showable, PyData.showableAll], by simp [PyData.depth, PyData.depthAll], ?_⟩
        simp only [PyData.shown, PyData.shownAll]
        show (("[" : Str) ++ ("" : String) ++ reprText (S t.cs) ++ "]").length ≤ _
        rw [strLen_append, strLen_append, strLen_append]
        have e1 : ("[" : Str).length = 1 := rfl
        have e2 : (("" : String) : Str).length = 0 := rfl
        have e3 : (("]" : String) : Str).length = 1 := rfl
        omega
      | 8, hi => by cases hi; exact ⟨.inr ⟨_, .base (.tup (s0 _ _ w2)), kit_ty (by decide +kernel)⟩, .tuple [.str ".", .str "."], .tup (s0 _ _ w2) (.cons (.str _) (.cons (.str _) .nil)), by decide +kernel, by decide +kernel, by decide +kernel⟩
      | 9, hi => by cases hi; exact ⟨.inr ⟨_, .base (.dK (s0 _ _ w3)), kit_ty (by decide +kernel)⟩, .dict [], .dic (s0 _ _ w3) .nil, by decide +kernel, by decide +kernel, by decide +kernel⟩
      | n + 10, hi => by cases hi
    obtain ⟨nt, d, gd⟩ := gv
    simp only [cxOf_K, tAsg2, tYes, wipe, tSeq, tIfS, tNot, tB, tCB, tCons, tNil, tVar, tC, tTest, tOp, tAnd, tOr, tAsg, gName, tRet, tRetN, tDrop, tNext, tIf, tCall, tTup, tLst, tNotV, tAndV, tOrV, tUn, rI0, rI, rU, rEq, rNe, tM1, tM0, tBM, tBM0, tSl, tPart, tNoPart, iStr, iEnumS, iRng1, iRng2, iList, gSub, tBits, tAug, tPar, L2.start, List.map_cons, List.map_nil, List.length_cons, List.length_nil, List.getElem?_cons_zero, List.getElem?_cons_succ, List.cons_append, List.nil_append, List.append_nil, List.set_cons_zero, List.set_cons_succ, List.replicate_succ, List.replicate_zero, Option.some.injEq, exists_eq_left', V.int.injEq, V.str.injEq, V.ref.injEq, V.bl.injEq, exists_and_left, exists_eq_left, List.cons.injEq, and_true, true_and, tCallX, tRs]
    refine ⟨0, x, .non, x, d, rfl, by decide, nt, gd, .inl rfl, fun H1 s1 => ⟨true, rfl, ?_⟩⟩
    rw [if_neg (by decide)]
    refine ⟨by decide, fun p5 n5 => ?_⟩
    have s5 := s1.new (s1.free n5) (.lst [V.str "."])
    generalize upd H1 p5 (.lst [V.str "."]) = H2 at s5 ⊢
    refine ⟨0, x, .ref p5, x, d, rfl, by decide, nt.same s5, Good.same gd s5, .inl rfl, fun H3 s6 => ⟨true, rfl, ?_⟩⟩
    rw [if_neg (by decide)]
    have nt3 := nt.same (s5.trans s6)
    have gd3 := Good.same gd (s5.trans s6)
    have sL := s0.trans (s5.trans s6)
    clear nt gd s1 s5 s6 n5
    refine ⟨1, 4, rfl, ⟨by decide, by decide, by decide, by decide⟩, for_range (fun j σ H' => ∃ a2 a3 a4, σ = [some (trV t), some x, a2, a3, a4] ∧ Same H3 H') ⟨_, _, _, rfl, L2.Same.refl H3⟩ ?_ ?_⟩
    · rintro j σ H4 hj ⟨a2, a3, a4, rfl, s7⟩
      have hj3 : j < 3 := hj
      simp only [cxOf_K, tAsg2, tYes, wipe, tSeq, tIfS, tNot, tB, tCB, tCons, tNil, tVar, tC, tTest, tOp, tAnd, tOr, tAsg, gName, tRet, tRetN, tDrop, tNext, tIf, tCall, tTup, tLst, tNotV, tAndV, tOrV, tUn, rI0, rI, rU, rEq, rNe, tM1, tM0, tBM, tBM0, tSl, tPart, tNoPart, iStr, iEnumS, iRng1, iRng2, iList, gSub, tBits, tAug, tPar, L2.start, List.map_cons, List.map_nil, List.length_cons, List.length_nil, List.getElem?_cons_zero, List.getElem?_cons_succ, List.cons_append, List.nil_append, List.append_nil, List.set_cons_zero, List.set_cons_succ, List.replicate_succ, List.replicate_zero, Option.some.injEq, exists_eq_left', V.int.injEq, V.str.injEq, V.ref.injEq, V.bl.injEq, exists_and_left, exists_eq_left, List.cons.injEq, and_true, true_and, tCallX, tRs]
      refine ⟨_, rfl, small5 (by simp), fun q1 m1 => ⟨_, rfl, _, rfl, small5 (by simp), fun q2 m2 => ⟨_, rfl, small5 (by simp), fun q3 m3 => ⟨_, rfl, small5 (by simp), fun q4 m4 => ⟨_, rfl, _, rfl, small5 (by simp), fun q5 m5 => ⟨_, rfl, _, rfl, small5 (by simp), fun q6 m6 => ?_⟩⟩⟩⟩⟩⟩
      have r1 := (L2.Same.refl H4).new m1 (.tup [x, .int 7])
      have k1 : upd H4 q1 (.tup [x, .int 7]) q1 = some _ := upd_same
      generalize upd H4 q1 (.tup [x, .int 7]) = G1 at r1 k1 m2 m3 m4 m5 m6 ⊢
      have r2 := (L2.Same.refl G1).new m2 (.tup [trV t, x])
      have k2 : upd G1 q2 (.tup [trV t, x]) q2 = some _ := upd_same
      generalize upd G1 q2 (.tup [trV t, x]) = G2 at r2 k2 m3 m4 m5 m6 ⊢
      have r3 := (L2.Same.refl G2).new m3 (.tup [x, .str "."])
      have k3 : upd G2 q3 (.tup [x, .str "."]) q3 = some _ := upd_same
      generalize upd G2 q3 (.tup [x, .str "."]) = G3 at r3 k3 m4 m5 m6 ⊢
      have r4 := (L2.Same.refl G3).new m4 (.tup [.str ".", x])
      have k4 : upd G3 q4 (.tup [.str ".", x]) q4 = some _ := upd_same
      generalize upd G3 q4 (.tup [.str ".", x]) = G4 at r4 k4 m5 m6 ⊢
      have r5 := (L2.Same.refl G4).new m5 (.tup [x, trV t])
      have k5 : upd G4 q5 (.tup [x, trV t]) q5 = some _ := upd_same
      generalize upd G4 q5 (.tup [x, trV t]) = G5 at r5 k5 m6 ⊢
      have r6 := (L2.Same.refl G5).new m6 (.tup [x, x])
      have k6 : upd G5 q6 (.tup [x, x]) q6 = some _ := upd_same
      generalize upd G5 q6 (.tup [x, x]) = G6 at r6 k6 ⊢
      refine ⟨small5 (by simp), fun q7 m7 => ?_⟩
      have r7 := (L2.Same.refl G6).new m7 (.lst [V.ref q1, .ref q2, .ref q3, .ref q4, .ref q5, .ref q6])
      have k7 : upd G6 q7 (.lst [V.ref q1, .ref q2, .ref q3, .ref q4, .ref q5, .ref q6]) q7 = some _ := upd_same
      generalize upd G6 q7 _ = G7 at r7 k7 ⊢
      have u1 := (r2.trans (r3.trans (r4.trans (r5.trans (r6.trans r7))))) _ _ k1
      have u2 := (r3.trans (r4.trans (r5.trans (r6.trans r7)))) _ _ k2
      have u3 := (r4.trans (r5.trans (r6.trans r7))) _ _ k3
      have u4 := (r5.trans (r6.trans r7)) _ _ k4
      have u5 := (r6.trans r7) _ _ k5
      have u6 := r7 _ _ k6
      have sG := s7.trans (r1.trans (r2.trans (r3.trans (r4.trans (r5.trans (r6.trans r7))))))
      clear r1 r2 r3 r4 r5 r6 r7 k1 k2 k3 k4 k5 k6
      refine ⟨q7, rfl, ⟨_, SqL.of k7⟩, for_list (K := K) (a := q7) (xs := [V.ref q1, .ref q2, .ref q3, .ref q4, .ref q5, .ref q6]) (fun l σ H' => ∃ a3 a4, σ = [some (trV t), some x, some (.int (1 + (j : Nat))), a3, a4] ∧ Same G7 H') ⟨_, _, rfl, L2.Same.refl G7⟩ ?_ ?_ ?_⟩
      · rintro l σ H' hl ⟨a3, a4, rfl, s8⟩
        exact SqL.of (s8 _ _ k7)
      · rintro l y σ H' hl ⟨a3, a4, rfl, s8⟩
        have pr : ∃ (qq : Addr) (u v : V), y = .ref qq ∧ H' qq = some (.tup [u, v]) ∧ (u = x ∨ (v = x ∧ ∃ t : Tr, u = trV t ∧ t.size ≤ 500)) :=
          match l, hl with
          | 0, hl => by cases hl; exact ⟨q1, _, _, rfl, s8 _ _ u1, .inl rfl⟩
          | 1, hl => by cases hl; exact ⟨q2, _, _, rfl, s8 _ _ u2, .inr ⟨rfl, t, rfl, by omega⟩⟩
          | 2, hl => by cases hl; exact ⟨q3, _, _, rfl, s8 _ _ u3, .inl rfl⟩
          | 3, hl => by cases hl; exact ⟨q4, _, _, rfl, s8 _ _ u4, .inr ⟨rfl, .leaf, congrArg V.str lit_dot, by decide⟩⟩
          | 4, hl => by cases hl; exact ⟨q5, _, _, rfl, s8 _ _ u5, .inl rfl⟩
          | 5, hl => by cases hl; exact ⟨q6, _, _, rfl, s8 _ _ u6, .inl rfl⟩
          | n + 6, hl => by cases hl
        obtain ⟨qq, u, v, rfl, hqq, hu⟩ := pr
        have nt9 := nt3.same (sG.trans s8)
        have gd9 := Good.same gd3 (sG.trans s8)
        refine ⟨qq, _, rfl, SqT.of hqq, rfl, ?_⟩
        simp only [gCons, gNil, cxOf_K, tAsg2, tYes, wipe, tSeq, tIfS, tNot, tB, tCB, tCons, tNil, tVar, tC, tTest, tOp, tAnd, tOr, tAsg, gName, tRet, tRetN, tDrop, tNext, tIf, tCall, tTup, tLst, tNotV, tAndV, tOrV, tUn, rI0, rI, rU, rEq, rNe, tM1, tM0, tBM, tBM0, tSl, tPart, tNoPart, iStr, iEnumS, iRng1, iRng2, iList, gSub, tBits, tAug, tPar, L2.start, List.map_cons, List.map_nil, List.length_cons, List.length_nil, List.getElem?_cons_zero, List.getElem?_cons_succ, List.cons_append, List.nil_append, List.append_nil, List.set_cons_zero, List.set_cons_succ, List.replicate_succ, List.replicate_zero, Option.some.injEq, exists_eq_left', V.int.injEq, V.str.injEq, V.ref.injEq, V.bl.injEq, exists_and_left, exists_eq_left, List.cons.injEq, and_true, true_and, tCallX, tRs]
        refine ⟨u, _, ⟨rfl, rfl⟩, v, _, rfl, rfl, ?_⟩
        refine ⟨j + 1, u, v, x, d, by rw [show ((j + 1 : Nat) : Int) = 1 + (j : Int) by omega], by omega, nt9, gd9, hu.imp id fun ⟨a, b⟩ => ⟨by omega, a, b⟩, fun H9 s9 => ⟨true, rfl, ?_⟩⟩
        rw [if_neg (by decide)]
        exact ⟨_, _, ⟨rfl, rfl⟩, s8.trans s9⟩
      · rintro σ H' ⟨a3, a4, rfl, s8⟩
        exact ⟨_, _, _, rfl, sG.trans s8⟩
    · rintro σ H' ⟨a2, a3, a4, rfl, s7⟩
      exact ⟨_, _, _, _, rfl, sL.trans s7⟩
  · rintro σ H' ⟨a1, a2, a3, a4, rfl, s0⟩
    simp only [cxOf_K, tAsg2, tYes, wipe, tSeq, tIfS, tNot, tB, tCB, tCons, tNil, tVar, tC, tTest, tOp, tAnd, tOr, tAsg, gName, tRet, tRetN, tDrop, tNext, tIf, tCall, tTup, tLst, tNotV, tAndV, tOrV, tUn, rI0, rI, rU, rEq, rNe, tM1, tM0, tBM, tBM0, tSl, tPart, tNoPart, iStr, iEnumS, iRng1, iRng2, iList, gSub, tBits, tAug, tPar, L2.start, List.map_cons, List.map_nil, List.length_cons, List.length_nil, List.getElem?_cons_zero, List.getElem?_cons_succ, List.cons_append, List.nil_append, List.append_nil, List.set_cons_zero, List.set_cons_succ, List.replicate_succ, List.replicate_zero, Option.some.injEq, exists_eq_left', V.int.injEq, V.str.injEq, V.ref.injEq, V.bl.injEq, exists_and_left, exists_eq_left, List.cons.injEq, and_true, true_and, tCallX, tRs]
    exact q _ (all.trans s0)

def combL : Nat → Tr
  | 0 => .leaf
  | n + 1 => .node (combL n) .leaf
def combR : Nat → Tr
  | 0 => .leaf
  | n + 1 => .node .leaf (combR n)
theorem combL_size : ∀ n, (combL n).size = n
  | 0 => rfl
  | n + 1 => by simp [combL, Tr.size, combL_size n]
theorem combR_size : ∀ n, (combR n).size = n
  | 0 => rfl
  | n + 1 => by simp [combR, Tr.size, combR_size n]
theorem combs_meet (n : Nat) : (Tr.meet (combL (n + 1)) (combR (n + 1))).size = 1 := by
  simp only [combL, combR]
  show (Tr.meet (combL n) .leaf).size + (Tr.meet .leaf (combR n)).size + 1 = 1
  rw [Tr.meet_leaf, Tr.leaf_meet]
  rfl
theorem growR_dots : ∀ (t : Tr) (k : Nat), t.growR (List.replicate (t.lvs + k) .leaf) = (t, List.replicate k .leaf)
  | .leaf, k => by
    show Tr.growR .leaf (List.replicate (1 + k) Tr.leaf) = _
    rw [Nat.add_comm 1 k, List.replicate_succ]
    rfl
  | .node l r, k => by
    show (Tr.node (l.growR (List.replicate (l.lvs + r.lvs + k) .leaf)).1 (r.growR (l.growR (List.replicate (l.lvs + r.lvs + k) .leaf)).2).1, (r.growR (l.growR (List.replicate (l.lvs + r.lvs + k) .leaf)).2).2) = _
    rw [Nat.add_assoc, growR_dots l, growR_dots r]
theorem grow_dots (t : Tr) : t.grow (List.replicate t.lvs .leaf) = t := by
  have := growR_dots t 0
  rw [Nat.add_zero] at this
  unfold Tr.grow
  rw [this]
theorem flat_one {x : V} : ∀ n : Nat, (List.replicate n [x]).flatten = List.replicate n x
  | 0 => rfl
  | n + 1 => by rw [List.replicate_succ, List.flatten_cons, flat_one n, List.replicate_succ]; rfl
theorem eqTr1 {t : Tr} {K : PySem.W.Frag} {H : Hp} {a b : Addr} {Q : VK} (ha : H a = some (.lst [trV t])) (hb : H b = some (.lst [trV t])) (q : Q (.bl false) H) : rNeD K (.ref a) (.ref b) H Q := by
  refine ⟨.list ([t].map fun t => .str (S t.cs)), .list ([t].map fun t => .str (S t.cs)), .lst (SqL.of ha) (dpS [t]), .lst (SqL.of hb) (dpS [t]), shS [t], shS [t], ?_⟩
  rw [eqS [t]]
  exact q
theorem ok_law_great_right (T : Txt K mg) : FnOk P w K mg base CX0 45 T.a_law_great_right T.fd_law_great_right ["_law_generator_here"] (sp_law_great_right K) := by
  refine T.F_law_great_right.ok sc_law_great_right (fun vs H Q E h => ?_) (fun cdv A outer s H vs Q E hr h => ?_)
  · obtain ⟨g, n, rfl, _⟩ := h; rfl
  obtain ⟨g, n, rfl, hg, hn, q⟩ := h
  have hru := hr.units
  refine ⟨_, (pss_cons (ps_asg (pe_tup (pa_cons pe_str (pa_cons pe_str pa_nil))) (pg_tup rfl (pgs_cons (pg_name (i := 1) sc_law_great_right.nd rfl (by first | exact Or.inl rfl | exact Or.inr rfl)) (pgs_cons (pg_name (i := 2) sc_law_great_right.nd rfl (by first | exact Or.inl rfl | exact Or.inr rfl)) pgs_nil))))
    (pss_cons (ps_for PassesOwn.never rfl (pi_range1 rfl T.z_range (pa_cons (pe_op op_add pe_int (pe_call (ok_law_random T) (hr.mono (by first | decide | omega)) (by rfl) T.m_law_random T.F_law_random.kp T.b_law_random .nil pass0 (pa_cons (pv 0) (pa_cons pe_int pa_nil)))) pa_nil)) (pg_name (i := 3) sc_law_great_right.nd rfl (by first | exact Or.inl rfl | exact Or.inr rfl)) (pss_one (ps_par (i := 1) (j := 2) rfl sc_law_great_right.nd rfl rfl (by decide) rfl rfl (pa_cons (pe_op op_add_str (pe_op op_add_str pe_str (pv 1)) pe_str) (pa_cons (pe_op op_add_str (pe_op op_add_str pe_str (pv 2)) pe_str) pa_nil)) rfl)))
    (pss_cons (ps_set (i := 4) sc_law_great_right.nd rfl (by first | exact Or.inl rfl | exact Or.inr rfl) (pe_call (ok_joined T) (hr.mono (by first | decide | omega)) (by rfl) T.m_joined T.F_joined.kp T.b_joined .nil passL (pa_cons (pv 1) (pa_cons (pv 2) pa_nil))))
    (pss_cons (ps_if (pw_or (pt_cmpR op_ne (pe_m1 PySem.F.slot_str_count PySem.F.type_str_count mt_count (pv 4) pe_str) (pe_op op_sub (pe_op op_mul pe_int (pe_m1 PySem.F.slot_str_count PySem.F.type_str_count mt_count (pv 1) pe_str)) pe_int) (nomark _)) (pw_or (pt_cmpR op_ne (pe_call (ok_shared T) (hr.mono (by first | decide | omega)) (by rfl) T.m_shared T.F_shared.kp T.b_shared .nil passL (pa_cons (pv 4) (pa_cons (pv 1) pa_nil))) (pv 1) (nomark _)) (pw_or1 (pt_cmpR op_ne (pe_call (ok_joined T) (hr.mono (by first | decide | omega)) (by rfl) T.m_joined T.F_joined.kp T.b_joined .nil passL (pa_cons (pv 4) (pa_cons (pv 2) pa_nil))) (pv 4) (nomark _))))).pt (pss_one (ps_ret pe_bl)) pss_nil)
    (pss_cons (ps_if (pw_or (pt_cmpR op_ne (pe_call (ok_grown T) (hr.mono (by first | decide | omega)) (by rfl) T.m_grown T.F_grown.kp T.b_grown .nil passL (pa_cons (pv 1) (pa_cons (pe_call (ok_hung T) (hr.mono (by first | decide | omega)) (by rfl) T.m_hung T.F_hung.kp T.b_hung .nil passL (pa_cons (pv 4) (pa_cons (pv 1) pa_nil))) pa_nil))) (pv 4) (nomark _)) (pw_or1 (pt_cmpR (op_neD hru) (pe_call (ok_hung T) (hr.mono (by first | decide | omega)) (by rfl) T.m_hung T.F_hung.kp T.b_hung .nil passL (pa_cons (pv 4) (pa_cons pe_str pa_nil))) (pe_lst (pa_cons (pv 4) pa_nil)) (nomark _)))).pt (pss_one (ps_ret pe_bl)) pss_nil)
    (pss_one (ps_ret (pe_cmpR op_eq (pe_call (ok_grown T) (hr.mono (by first | decide | omega)) (by rfl) T.m_grown T.F_grown.kp T.b_grown .nil passL (pa_cons (pv 4) (pa_cons (pe_op op_rep (pe_lst (pa_cons pe_str pa_nil)) (pe_m1 PySem.F.slot_str_count PySem.F.type_str_count mt_count (pv 4) pe_str)) pa_nil))) (pv 4) (nomark _))))))))), ?_⟩
  simp only [gCons, gNil, cxOf_K, tAsg2, tYes, wipe, tSeq, tIfS, tNot, tB, tCB, tCons, tNil, tVar, tC, tTest, tOp, tAnd, tOr, tAsg, gName, tRet, tRetN, tDrop, tNext, tIf, tCall, tTup, tLst, tNotV, tAndV, tOrV, tUn, rI0, rI, rU, rEq, rNe, tM1, tM0, tBM, tBM0, tSl, tPart, tNoPart, iStr, iEnumS, iRng1, iRng2, iList, gSub, tBits, tAug, tPar, L2.start, List.map_cons, List.map_nil, List.length_cons, List.length_nil, List.getElem?_cons_zero, List.getElem?_cons_succ, List.cons_append, List.nil_append, List.append_nil, List.set_cons_zero, List.set_cons_succ, List.replicate_succ, List.replicate_zero, Option.some.injEq, exists_eq_left', V.int.injEq, V.str.injEq, V.ref.injEq, V.bl.injEq, exists_and_left, exists_eq_left, List.cons.injEq, and_true, true_and, tCallX, tRs]
  refine ⟨by decide, fun p hp => ⟨p, _, rfl, SqT.of upd_same, rfl, _, _, rfl, _, _, rfl, rfl, ?_⟩⟩
  simp only [cxOf_K, tAsg2, tYes, wipe, tSeq, tIfS, tNot, tB, tCB, tCons, tNil, tVar, tC, tTest, tOp, tAnd, tOr, tAsg, gName, tRet, tRetN, tDrop, tNext, tIf, tCall, tTup, tLst, tNotV, tAndV, tOrV, tUn, rI0, rI, rU, rEq, rNe, tM1, tM0, tBM, tBM0, tSl, tPart, tNoPart, iStr, iEnumS, iRng1, iRng2, iList, gSub, tBits, tAug, tPar, L2.start, List.map_cons, List.map_nil, List.length_cons, List.length_nil, List.getElem?_cons_zero, List.getElem?_cons_succ, List.cons_append, List.nil_append, List.append_nil, List.set_cons_zero, List.set_cons_succ, List.replicate_succ, List.replicate_zero, Option.some.injEq, exists_eq_left', V.int.injEq, V.str.injEq, V.ref.injEq, V.bl.injEq, exists_and_left, exists_eq_left, List.cons.injEq, and_true, true_and, tCallX, tRs]
  refine ⟨_, rfl, g, 50, n, rfl, hg.new hp, by omega, by decide, by decide, fun r H1 r0 r1 k1 g1 => ?_⟩
  refine ⟨151, r, rfl, rfl, 151 + r, rfl, by omega, by omega, for_range (fun i σ H' => ∃ a3, σ = [some (.ref g), some (trV (combL i)), some (trV (combR i)), a3, none]) ⟨_, rfl⟩ ?_ ?_⟩
  · rintro i σ H2 hi ⟨a3, rfl⟩
    have hi2 : i < 201 := by omega
    simp only [cxOf_K, tAsg2, tYes, wipe, tSeq, tIfS, tNot, tB, tCB, tCons, tNil, tVar, tC, tTest, tOp, tAnd, tOr, tAsg, gName, tRet, tRetN, tDrop, tNext, tIf, tCall, tTup, tLst, tNotV, tAndV, tOrV, tUn, rI0, rI, rU, rEq, rNe, tM1, tM0, tBM, tBM0, tSl, tPart, tNoPart, iStr, iEnumS, iRng1, iRng2, iList, gSub, tBits, tAug, tPar, L2.start, List.map_cons, List.map_nil, List.length_cons, List.length_nil, List.getElem?_cons_zero, List.getElem?_cons_succ, List.cons_append, List.nil_append, List.append_nil, List.set_cons_zero, List.set_cons_succ, List.replicate_succ, List.replicate_zero, Option.some.injEq, exists_eq_left', V.int.injEq, V.str.injEq, V.ref.injEq, V.bl.injEq, exists_and_left, exists_eq_left, List.cons.injEq, and_true, true_and, tCallX, tRs]
    have lL : (combL i).cs.length = 3 * i + 1 := by rw [Tr.cs_length, Tr.len_size, combL_size]
    have lR : (combR i).cs.length = 3 * i + 1 := by rw [Tr.cs_length, Tr.len_size, combR_size]
    have t1 : Str.ofString "(" ++ S (combL i).cs ++ Str.ofString ".)" = S (combL (i + 1)).cs := by
      rw [show Str.ofString "(" = S [40] by decide +kernel, show Str.ofString ".)" = S [46, 41] by decide +kernel, S_app, S_app]
      refine congrArg S ?_
      simp [combL, Tr.cs]
    have t2 : Str.ofString "(." ++ S (combR i).cs ++ Str.ofString ")" = S (combR (i + 1)).cs := by
      rw [show Str.ofString "(." = S [40, 46] by decide +kernel, show Str.ofString ")" = S [41] by decide +kernel, S_app, S_app]
      refine congrArg S ?_
      simp [combR, Tr.cs]
    have e1 : (Str.ofString "(").length = 1 := rfl
    have e2 : (Str.ofString ".)").length = 2 := rfl
    have e3 : (Str.ofString "(.").length = 2 := rfl
    have e4 : (Str.ofString ")").length = 1 := rfl
    have e5 : (Str.ofString "(" ++ S (combL i).cs).length = 1 + (3 * i + 1) := by
      rw [show Str.ofString "(" = S [40] by decide +kernel, S_app, S_len, List.length_append, lL]; rfl
    have e6 : (Str.ofString "(." ++ S (combR i).cs).length = 2 + (3 * i + 1) := by
      rw [show Str.ofString "(." = S [40, 46] by decide +kernel, S_app, S_len, List.length_append, lR]; rfl
    have e7 : (S (combL i).cs).length = 3 * i + 1 := by rw [S_len, lL]
    have e8 : (S (combR i).cs).length = 3 * i + 1 := by rw [S_len, lR]
    rw [t1, t2, e1, e2, e3, e4, e5, e6, e7, e8]
    exact ⟨small5 (by omega), small5 (by omega), small5 (by omega), small5 (by omega), _, _, ⟨rfl, rfl⟩, rfl, rfl, _, rfl⟩
  · rintro σ H2 ⟨a3, rfl⟩
    obtain ⟨m, hm⟩ : ∃ m : Nat, (151 + r).toNat = m + 1 := ⟨(151 + r).toNat - 1, by omega⟩
    have hm2 : m < 201 := by omega
    rw [hm]
    have cl := combL_size (m + 1)
    have cr := combR_size (m + 1)
    have cm := combs_meet m
    have sj := Tr.size_join_meet (combL (m + 1)) (combR (m + 1))
    generalize combL (m + 1) = l at *
    generalize combR (m + 1) = r' at *
    simp only [cxOf_K, tAsg2, tYes, wipe, tSeq, tIfS, tNot, tB, tCB, tCons, tNil, tVar, tC, tTest, tOp, tAnd, tOr, tAsg, gName, tRet, tRetN, tDrop, tNext, tIf, tCall, tTup, tLst, tNotV, tAndV, tOrV, tUn, rI0, rI, rU, rEq, rNe, tM1, tM0, tBM, tBM0, tSl, tPart, tNoPart, iStr, iEnumS, iRng1, iRng2, iList, gSub, tBits, tAug, tPar, L2.start, List.map_cons, List.map_nil, List.length_cons, List.length_nil, List.getElem?_cons_zero, List.getElem?_cons_succ, List.cons_append, List.nil_append, List.append_nil, List.set_cons_zero, List.set_cons_succ, List.replicate_succ, List.replicate_zero, Option.some.injEq, exists_eq_left', V.int.injEq, V.str.injEq, V.ref.injEq, V.bl.injEq, exists_and_left, exists_eq_left, List.cons.injEq, and_true, true_and, tCallX, tRs]
    refine ⟨_, _, rfl, .inl ⟨l, rfl, by omega, .inl ⟨r', rfl, by omega, fun H3 s3 => ?_⟩⟩⟩
    have jl : Tr.meet (Tr.join l r') l = l := by rw [Tr.meet_comm, Tr.meet_join_self]
    have jr : Tr.join (Tr.join l r') r' = Tr.join l r' := by rw [Tr.join_assoc, Tr.join_self]
    obtain ⟨xs, hx⟩ := Tr.hang_join l r'
    generalize hj : Tr.join l r' = j at *
    have cj : Txt.count (S j.cs) (Str.ofString "(") = (j.size : Int) := by
      rw [show Str.ofString "(" = S [40] by decide +kernel, count_S, count_open]
    have cl' : Txt.count (S l.cs) (Str.ofString "(") = (l.size : Int) := by
      rw [show Str.ofString "(" = S [40] by decide +kernel, count_S, count_open]
    refine ⟨⟨_, rfl⟩, _, rfl, ⟨_, rfl⟩, cmulL ⟨by decide, by decide⟩, rfl, ?_⟩
    rw [cj, cl', if_neg (by simp; omega)]
    have all := hgt_hang _ _ _ hx
    have xl := Tr.hang_len _ _ _ hx
    refine ⟨_, _, rfl, .inl ⟨j, rfl, by omega, .inl ⟨l, rfl, by omega, fun H4 s4 => ⟨rfl, ?_⟩⟩⟩⟩
    rw [jl, if_neg (by simp)]
    refine ⟨_, _, rfl, .inl ⟨j, rfl, by omega, .inl ⟨r', rfl, by omega, fun H5 s5 => ⟨rfl, ?_⟩⟩⟩⟩
    rw [jr, if_neg (by simp)]
    refine ⟨_, _, rfl, .inl ⟨j, rfl, by omega, .inl ⟨l, rfl, by omega, fun e => (by rw [hx] at e; cases e), fun ys hy y H6 ny s6 hy6 => ?_⟩⟩⟩
    rw [hx] at hy; obtain rfl := Option.some.inj hy
    refine ⟨_, _, rfl, .inl ⟨l, rfl, by omega, .inl ⟨xs, ⟨y, rfl, hy6, xl, fun x hx => Nat.le_trans (all x hx).2 (by omega)⟩, fun H7 s7 => ⟨rfl, ?_⟩⟩⟩⟩
    rw [Tr.grow_hang hx, if_neg (by simp)]
    refine ⟨_, _, rfl, .inl ⟨j, rfl, by omega, .inl ⟨.leaf, congrArg V.str lit_dot, by decide, fun e => (by cases j <;> simp [Tr.hang] at e), fun zs hz z H8 nz s8 hz8 => ?_⟩⟩⟩
    obtain rfl : [j] = zs := by
      cases j <;> simp [Tr.hang] at hz <;> exact hz
    refine ⟨by decide, fun p8 n8 => eqTr1 (by rw [upd_ne (ne_of_none hz8 n8)]; exact hz8) upd_same ⟨false, rfl, ?_⟩⟩
    rw [if_neg (by decide)]
    generalize upd H8 p8 _ = H9
    refine ⟨by decide, fun p9 n9 => ⟨⟨_, rfl⟩, _, rfl, ?_⟩⟩
    have cd : Txt.count (S j.cs) (Str.ofString ".") = (j.lvs : Int) := by rw [lit_dot, count_S, count_tree]
    have lv := Tr.lvs_size j
    rw [cd]
    refine ⟨p9, (j.lvs : Int), _, rfl, rfl, upd_same, by omega, by omega, by simp; exact small5 (by omega), fun p10 n10 => ?_⟩
    rw [flat_one, lit_dot, show (j.lvs : Int).toNat = j.lvs by omega]
    refine ⟨_, _, rfl, .inl ⟨j, rfl, by omega, .inl ⟨List.replicate j.lvs .leaf, ⟨p10, rfl, by rw [upd_same, List.map_replicate]; rfl, List.length_replicate, fun x hx => by rw [(List.mem_replicate.mp hx).2]; decide⟩, fun H11 s11 => ⟨rfl, ?_⟩⟩⟩⟩
    rw [grow_dots]
    simpa using q H11

theorem hgt_size : ∀ t : Tr, Tr.hgt t ≤ t.size
  | .leaf => Nat.le_refl _
  | .node l r => by
    have h1 := hgt_size l
    have h2 := hgt_size r
    show max (Tr.hgt l) (Tr.hgt r) + 1 ≤ l.size + r.size + 1
    omega
/-! ### what the program is handed in the place of a list -/
def Agree (S : List Addr) (H H' : Hp) : Prop := ∀ b ∈ S, ∀ o, H b = some o → H' b = some o
theorem Agree.of {S : List Addr} {H H' : Hp} (s : Same H H') : Agree S H H' := fun b _ o h => s b o h
structure Row where
  v : V
  m : Option Addr
  S : List Addr
def Pre (K : PySem.W.Frag) (H : Hp) (t : Tr) (r : Row) : Prop := BadL K H t r.v ∧ (∃ d, Good H r.v d) ∧
  ((∃ ty, TyX K H r.v ty ∧ PySem.W.kitOne K ty (.type "list") = some false) ∨ ∃ a ws, r.v = .ref a ∧ r.m = some a ∧ H a = some (.lst ws) ∧ ws.length ≤ 100000)
def RowOk (K : PySem.W.Frag) (t : Tr) (H : Hp) (r : Row) : Prop := ∀ H', Agree r.S H H' → Pre K H' t r
structure Rows (K : PySem.W.Frag) (t : Tr) (B H : Hp) (L : List Row) : Prop where
  base : Same B H
  free : ∀ r ∈ L, ∀ b, r.m = some b → B b = none
  ok : ∀ r ∈ L, RowOk K t H r
  apart : L.Pairwise fun e f => ∀ m, e.m = some m → m ∉ f.S
  live : ∀ r ∈ L, ∀ b, r.m = some b ∨ b ∈ r.S → H b ≠ none
theorem Same.live {H H' : Hp} (s : Same H H') {b : Addr} (h : H b ≠ none) : H' b ≠ none := by
  cases e : H b with
  | none => exact absurd e h
  | some o => rw [s _ _ e]; exact Option.some_ne_none _
theorem RowOk.same {K : PySem.W.Frag} {t : Tr} {H H' : Hp} {r : Row} (h : RowOk K t H r) (s : Same H H') : RowOk K t H' r := fun H2 a => h H2 fun b hb o e => a b hb o (s _ _ e)
theorem Rows.same {K : PySem.W.Frag} {t : Tr} {B H H' : Hp} {L : List Row} (h : Rows K t B H L) (s : Same H H') : Rows K t B H' L :=
  ⟨h.base.trans s, h.free, fun r hr => (h.ok r hr).same s, h.apart, fun r hr b hb => Same.live s (h.live r hr b hb)⟩
theorem Rows.nil {K : PySem.W.Frag} {t : Tr} {B H : Hp} (s : Same B H) : Rows K t B H [] := ⟨s, fun _ h => (by cases h), fun _ h => (by cases h), .nil, fun _ h => (by cases h)⟩
theorem Rows.add {K : PySem.W.Frag} {t : Tr} {B H H' : Hp} {L : List Row} {r : Row} (h : Rows K t B H L) (s : Same H H') (mS : ∀ b, r.m = some b → b ∈ r.S) (fresh : ∀ b ∈ r.S, H b = none) (ok : RowOk K t H' r) (live : ∀ b, r.m = some b ∨ b ∈ r.S → H' b ≠ none) : Rows K t B H' (L ++ [r]) := by
  refine ⟨h.base.trans s, fun e he => ?_, fun e he => ?_, List.pairwise_append.mpr ⟨h.apart, List.pairwise_singleton _ _, fun e he f hf m hm hS => ?_⟩, fun e he => ?_⟩
  · rcases List.mem_append.mp he with he | he
    · exact h.free e he
    · rw [List.mem_singleton.mp he]
      exact fun b hb => h.base.free (fresh b (mS b hb))
  · rcases List.mem_append.mp he with he | he
    · exact (h.ok e he).same s
    · rw [List.mem_singleton.mp he]; exact ok
  · rw [List.mem_singleton.mp hf] at hS
    exact h.live e he m (.inl hm) (fresh m hS)
  · rcases List.mem_append.mp he with he | he
    · exact fun b hb => Same.live s (h.live e he b hb)
    · rw [List.mem_singleton.mp he]; exact live
/-- after the first i were asked -/
def After (L : List Row) (i : Nat) (H H' : Hp) : Prop := ∀ b o, (∀ e ∈ L.take i, e.m ≠ some b) → H b = some o → H' b = some o
theorem After.zero {L : List Row} {H : Hp} : After L 0 H H := fun _ _ _ h => h
theorem Rows.at {K : PySem.W.Frag} {t : Tr} {B H H' : Hp} {L : List Row} {i : Nat} {r : Row} (h : Rows K t B H L) (hi : L[i]? = some r) (a : After L i H H') : Pre K H' t r := by
  refine h.ok r (List.mem_of_getElem? hi) H' fun b hb o e => a b o (fun e' he' z => ?_) e
  obtain ⟨j, hj, ej⟩ := List.mem_take_iff_getElem.mp he'
  have hil := (List.getElem?_eq_some_iff.mp hi)
  obtain ⟨il, ie⟩ := hil
  have hji : j < i := by omega
  have := List.pairwise_iff_getElem.mp h.apart j i (by omega) il hji
  rw [ej, ie] at this
  exact this b z hb
theorem After.same {L : List Row} {i : Nat} {H H' H2 : Hp} (a : After L i H H') (s : Same H' H2) : After L (i + 1) H H2 := fun b o n e => s _ _ (a b o (fun e he => n e (by rw [List.take_add_one]; exact List.mem_append_left _ he)) e)
theorem After.keep {L : List Row} {i : Nat} {H H' H2 : Hp} {r : Row} {g : Addr} (a : After L i H H') (hi : L[i]? = some r) (hm : r.m = some g) (k : Keep g H' H2) : After L (i + 1) H H2 := fun b o n e => by
  refine k b o (fun z => ?_) (a b o (fun e he => n e (by rw [List.take_add_one]; exact List.mem_append_left _ he)) e)
  refine n r (by rw [List.take_add_one, hi]; simp) ?_
  rw [hm, z]
/-! ### rows by kinds -/
structure It (H : Hp) (c : Bool) (u : V) (d : PyData) : Prop where
  dv : DV H c u d
  sh : d.showable = true
  dp : d.depth ≤ 3
  ln : d.shown.length ≤ 10000
  di : d.hasDict = true → c = true
inductive Its (H : Hp) (c : Bool) : List V → List PyData → Prop
  | nil : Its H c [] []
  | cons {u : V} {d : PyData} {us : List V} {ds : List PyData} : It H c u d → Its H c us ds → Its H c (u :: us) (d :: ds)
theorem Its.append {H : Hp} {c : Bool} : ∀ {us : List V} {ds : List PyData} {ws : List V} {es : List PyData}, Its H c us ds → Its H c ws es → Its H c (us ++ ws) (ds ++ es)
  | _, _, _, _, .nil, b => b
  | _, _, _, _, .cons a r, b => .cons a (Its.append r b)
theorem Its.length {H : Hp} {c : Bool} : ∀ {us : List V} {ds : List PyData}, Its H c us ds → us.length = ds.length
  | _, _, .nil => rfl
  | _, _, .cons _ r => congrArg Nat.succ (Its.length r)
theorem Its.dvs {H : Hp} {c : Bool} : ∀ {us : List V} {ds : List PyData}, Its H c us ds → DVs H c us ds ∧ PyData.showableAll ds = true ∧ PyData.depthAll ds ≤ 3 ∧ (PyData.hasDictAll ds = true → c = true) ∧ ∀ x ∈ PyData.shownAll ds, x.length ≤ 10000
  | _, _, .nil => ⟨.nil, by simp [PyData.showableAll], by simp [PyData.depthAll], by simp [PyData.hasDictAll], by simp [PyData.shownAll]⟩
  | _, _, .cons a r => by
    obtain ⟨h1, h2, h3, h4, h5⟩ := Its.dvs r
    have hd := a.dp
    refine ⟨.cons a.dv h1, ?_, ?_, fun z => ?_, fun x hx => ?_⟩
    · simp only [PyData.showableAll, a.sh, h2]; rfl
    · simp only [PyData.depthAll]; omega
    · simp only [PyData.hasDictAll, Bool.or_eq_true] at z
      exact z.elim a.di h4
    · simp only [PyData.shownAll, List.mem_cons] at hx
      rcases hx with rfl | hx
      · exact a.ln
      · exact h5 x hx
theorem textFrom_le : ∀ (ts : List Str) (k : Nat) (acc : Str) (B : Nat), (∀ t ∈ ts, t.length ≤ B) → (PySem.textFrom k acc ts).length ≤ acc.length + ts.length * (B + 2)
  | [], k, acc, B, _ => by show acc.length ≤ _; omega
  | t :: r, k, acc, B, h => by
    have h1 := textFrom_le r (k + 1) (acc ++ (if k > 0 then ", " else "" : String) ++ t) B fun x hx => h x (List.mem_cons_of_mem _ hx)
    have h2 := h t (List.mem_cons_self ..)
    have e : (acc ++ (if k > 0 then ", " else "" : String) ++ t).length = acc.length + (if k > 0 then 2 else 0) + t.length := by
      rw [strLen_append, strLen_append]
      split <;> rfl
    show (PySem.textFrom (k + 1) (acc ++ (if k > 0 then ", " else "" : String) ++ t) r).length ≤ _
    rw [e] at h1
    have hh : (if k > 0 then 2 else 0) ≤ 2 := by split <;> omega
    rw [List.length_cons, Nat.succ_mul]
    refine Nat.le_trans h1 ?_
    omega
theorem shownAll_length : ∀ ds : List PyData, (PyData.shownAll ds).length = ds.length
  | [] => by simp [PyData.shownAll]
  | d :: ds => by simp only [PyData.shownAll, List.length_cons, shownAll_length ds]
theorem Its.good {H : Hp} {c : Bool} {a : Addr} {us : List V} {ds : List PyData} (i : Its H c us ds) (h : H a = some (.lst us)) (n : us.length ≤ 50) (hc : c = true → PyData.hasDictAll ds = true ∧ a ≠ sysModules) : Good H (.ref a) (.list ds) := by
  obtain ⟨h1, h2, h3, h4, h5⟩ := i.dvs
  have e : (PyData.list ds).hasDict = c := by
    simp only [PyData.hasDict]
    cases c with
    | true => exact (hc rfl).1
    | false =>
      cases hz : PyData.hasDictAll ds with
      | false => rfl
      | true => exact (h4 hz).symm
  refine ⟨?_, by simpa only [PyData.showable] using h2, by simp only [PyData.depth]; omega, ?_⟩
  · rw [e]
    exact .lst (fun z => (hc z).2) h h1
  · simp only [PyData.shown]
    show (PySem.textFrom 0 "[" (PyData.shownAll ds) ++ "]").length ≤ _
    have := textFrom_le (PyData.shownAll ds) 0 "[" 10000 h5
    have l := i.length
    rw [shownAll_length] at this
    rw [strLen_append]
    have e1 : (("[" : String) : Str).length = 1 := rfl
    have e2 : (("]" : String) : Str).length = 1 := rfl
    have : ds.length * (10000 + 2) ≤ 50 * (10000 + 2) := Nat.mul_le_mul_right _ (by omega)
    omega
theorem itS {H : Hp} {c : Bool} (cs : List Nat) (hc : ∀ x ∈ cs, x < 0x110000) (l : cs.length ≤ 300) : It H c (.str (S cs)) (.str (S cs)) := by
  refine ⟨.str _, by simp [PyData.showable], by simp [PyData.depth], ?_, by simp [PyData.hasDict]⟩
  have rl := PySem.StrLaws.reprText_len (S cs) (fun c h => Nat.lt_of_lt_of_le (hc c (by simpa using h)) (by decide))
  rw [S_len cs] at rl
  simp only [PyData.shown]
  exact Nat.le_trans rl (by omega)
theorem itT {H : Hp} {c : Bool} (t : Tr) (l : t.size ≤ 60) : It H c (trV t) (.str (S t.cs)) := itS t.cs (csLt t) (by rw [Tr.cs_length, Tr.len_size]; omega)
theorem itsT {H : Hp} {c : Bool} : ∀ (xs : List Tr), (∀ x ∈ xs, x.size ≤ 60) → Its H c (xs.map trV) (xs.map fun t => PyData.str (S t.cs))
  | [], _ => .nil
  | x :: xs, h => .cons (itT x (h x (List.mem_cons_self ..))) (itsT xs fun y hy => h y (List.mem_cons_of_mem _ hy))
/-- a list of its own -/
theorem rowL {K : PySem.W.Frag} {t : Tr} {H : Hp} {p : Addr} {ws : List V} {S : List Addr} (hp : p ∈ S) (h : H p = some (.lst ws)) (n : ws.length ≤ 50)
    (its : ∀ H', Agree S H H' → ∃ c ds, Its H' c ws ds ∧ (c = true → PyData.hasDictAll ds = true ∧ p ≠ sysModules))
    (bad : ws.length ≠ t.lvs ∨ ∀ H', Agree S H H' → (∀ u ∈ ws, (∃ x : Tr, u = trV x ∧ x.size ≤ 2000) ∨ NotTree K H' u) ∧ ∃ u ∈ ws, NotTree K H' u) : RowOk K t H ⟨.ref p, some p, S⟩ := fun H' a => by
  have h' := a p hp _ h
  obtain ⟨c, ds, i, hc⟩ := its H' a
  exact ⟨.inr ⟨p, ws, rfl, h', by omega, bad.imp id fun b => b H' a⟩, ⟨_, i.good h' n hc⟩, .inr ⟨p, ws, rfl, rfl, h', by omega⟩⟩
/-- no list -/
theorem rowV {K : PySem.W.Frag} {t : Tr} {H : Hp} {v : V} {S : List Addr} (ty : ∀ H', Agree S H H' → ∃ ty, TyX K H' v ty ∧ PySem.W.kitOne K ty (.type "list") = some false) (gd : ∀ H', Agree S H H' → ∃ d, Good H' v d) : RowOk K t H ⟨v, none, S⟩ := fun H' a => ⟨.inl (ty H' a), gd H' a, .inl (ty H' a)⟩

theorem cut_from (xs : List Tr) (k : Nat) : cutV (xs.map trV) (some (k : Int)) none = (xs.drop k).map trV := by
  unfold cutV
  rw [HT.sIx_nat, HT.sIx_none, List.length_map, List.map_drop]
  by_cases h : k ≤ xs.length
  · rw [Nat.min_eq_left h]
    exact List.take_of_length_le (by simp)
  · rw [Nat.min_eq_right (by omega), Nat.sub_self, List.take_zero]
    exact (List.drop_eq_nil_of_le (by simp; omega)).symm
theorem cut_to (xs : List Tr) (k : Nat) (h1 : 1 ≤ k) (h : k ≤ xs.length) : cutV (xs.map trV) none (some (-(k : Int))) = (xs.take (xs.length - k)).map trV := by
  unfold cutV
  rw [HT.sIx_none, List.length_map, List.drop_zero, List.map_take]
  refine congrArg (fun n => List.take n _) ?_
  show (if -(k : Int) < 0 then (-(k : Int) + (xs.length : Int)).toNat else _) - 0 = _
  rw [if_pos (by omega)]
  omega
/-- trees, and values that are none -/
inductive TN (K : PySem.W.Frag) (H : Hp) : List V → Bool → Prop
  | nil : TN K H [] false
  | tree {t : Tr} {ws : List V} {b : Bool} : t.size ≤ 2000 → TN K H ws b → TN K H (trV t :: ws) b
  | bad {u : V} {ws : List V} {b : Bool} : NotTree K H u → TN K H ws b → TN K H (u :: ws) true
theorem TN.append {K : PySem.W.Frag} {H : Hp} : ∀ {a b : List V} {x y : Bool}, TN K H a x → TN K H b y → TN K H (a ++ b) (x || y)
  | _, _, _, _, .nil, h => h
  | _, _, _, _, .tree s a, h => .tree s (TN.append a h)
  | _, _, _, _, .bad n a, h => by
    rw [Bool.true_or]
    exact .bad n (TN.append a h)
theorem TN.trees {K : PySem.W.Frag} {H : Hp} : ∀ xs : List Tr, (∀ x ∈ xs, x.size ≤ 60) → TN K H (xs.map trV) false
  | [], _ => .nil
  | x :: xs, h => .tree (Nat.le_trans (h x (List.mem_cons_self ..)) (by decide)) (TN.trees xs fun y hy => h y (List.mem_cons_of_mem _ hy))
theorem TN.all {K : PySem.W.Frag} {H : Hp} : ∀ {ws : List V} {b : Bool}, TN K H ws b → (∀ u ∈ ws, (∃ x : Tr, u = trV x ∧ x.size ≤ 2000) ∨ NotTree K H u) ∧ (b = true → ∃ u ∈ ws, NotTree K H u)
  | _, _, .nil => ⟨fun _ h => (by cases h), fun h => (by cases h)⟩
  | _, _, .tree (t := t) s r => by
    obtain ⟨h1, h2⟩ := TN.all r
    refine ⟨fun u hu => ?_, fun hb => ?_⟩
    · rcases List.mem_cons.mp hu with rfl | hu
      · exact .inl ⟨t, rfl, s⟩
      · exact h1 u hu
    · obtain ⟨u, hu, n⟩ := h2 hb
      exact ⟨u, List.mem_cons_of_mem _ hu, n⟩
  | _, _, .bad n r => by
    obtain ⟨h1, h2⟩ := TN.all r
    refine ⟨fun u hu => ?_, fun _ => ⟨_, List.mem_cons_self .., n⟩⟩
    rcases List.mem_cons.mp hu with rfl | hu
    · exact .inr n
    · exact h1 u hu
/-- what is told of a list of its own -/
def What (K : PySem.W.Frag) (t : Tr) (H : Hp) (S : List Addr) (ws : List V) : Prop := ∀ H', Agree S H H' → (∃ c ds, Its H' c ws ds ∧ (c = true → PyData.hasDictAll ds = true)) ∧ (ws.length ≠ t.lvs ∨ TN K H' ws true)
theorem rowW {K : PySem.W.Frag} {t : Tr} {H0 H1 : Hp} {p : Addr} {ws : List V} {S : List Addr} (w : What K t H0 S ws) (s : Same H0 H1) (h : H1 p = some (.lst ws)) (n : ws.length ≤ 50) (np : p ≠ sysModules ∨ ∀ H', Agree S H0 H' → ∃ ds, Its H' false ws ds) : RowOk K t H1 ⟨.ref p, some p, p :: S⟩ := by
  have bad : ws.length ≠ t.lvs ∨ ∀ H', Agree (p :: S) H1 H' → (∀ u ∈ ws, (∃ x : Tr, u = trV x ∧ x.size ≤ 2000) ∨ NotTree K H' u) ∧ ∃ u ∈ ws, NotTree K H' u := by
    by_cases nl : ws.length ≠ t.lvs
    · exact .inl nl
    · refine .inr fun H' a => ?_
      have a' : Agree S H0 H' := fun b hb o e => a b (List.mem_cons_of_mem _ hb) o (s _ _ e)
      have tn := ((w H' a').2.resolve_left nl).all
      exact ⟨tn.1, tn.2 rfl⟩
  refine rowL (List.mem_cons_self ..) h n (fun H' a => ?_) bad
  · have a' : Agree S H0 H' := fun b hb o e => a b (List.mem_cons_of_mem _ hb) o (s _ _ e)
    rcases np with np | np
    · obtain ⟨c, ds, i, hc⟩ := (w H' a').1
      exact ⟨c, ds, i, fun z => ⟨hc z, np⟩⟩
    · obtain ⟨ds, i⟩ := np H' a'
      exact ⟨false, ds, i, fun z => by cases z⟩
/-- a + b -/
theorem catStep {K : PySem.W.Frag} {t : Tr} {B0 H0 H1 : Hp} {L : List Row} {A B : Addr} {ws zs : List V} {S : List Addr} {Q : VK} (R : Rows K t B0 H0 L) (s : Same H0 H1) (fresh : ∀ b ∈ S, H0 b = none) (live : ∀ b ∈ S, H1 b ≠ none) (ha : H1 A = some (.lst ws)) (hb : H1 B = some (.lst zs)) (n : (ws ++ zs).length ≤ 50) (w : What K t H1 S (ws ++ zs))
    (q : ∀ p H2, H1 p = none → Same H1 H2 → Rows K t B0 H2 (L ++ [⟨.ref p, some p, p :: S⟩]) → Q (.ref p) H2) : rCatN (.ref A) (.ref B) H1 Q := by
  refine ⟨A, B, ws, zs, rfl, rfl, ha, hb, small5 (by rw [List.length_append] at n; omega), fun p hp np => ?_⟩
  have s2 := (L2.Same.refl H1).new hp (.lst (ws ++ zs))
  have h2 : upd H1 p (.lst (ws ++ zs)) p = some _ := upd_same
  generalize upd H1 p (.lst (ws ++ zs)) = H2 at s2 h2 ⊢
  refine q p H2 hp s2 (R.add (s.trans s2) (fun b hb => List.mem_cons.mpr (.inl (Option.some.inj hb).symm)) (fun b hb => ?_) (rowW w s2 h2 n (.inl np)) fun b hb => ?_)
  · rcases List.mem_cons.mp hb with rfl | hb
    · exact s.free hp
    · exact fresh b hb
  · have hb' : b = p ∨ b ∈ S := by
      rcases hb with hb | hb
      · exact .inl (Option.some.inj hb).symm
      · exact List.mem_cons.mp hb
    rcases hb' with rfl | hb'
    · rw [h2]; exact Option.some_ne_none _
    · exact Same.live s2 (live b hb')
/-- a[lo:hi] as a row -/
theorem slStep {K : PySem.W.Frag} {t : Tr} {B0 H1 : Hp} {L : List Row} {A : Addr} {xs zs : List Tr} {lo hi : Option Int} {Q : VK} (R : Rows K t B0 H1 L) (ha : H1 A = some (.lst (xs.map trV))) (e : cutV (xs.map trV) lo hi = zs.map trV) (n : zs.length ≤ 50) (hz : ∀ z ∈ zs, z.size ≤ 60) (bad : zs.length ≠ t.lvs)
    (q : ∀ p H2, H1 p = none → Same H1 H2 → Rows K t B0 H2 (L ++ [⟨.ref p, some p, [p]⟩]) → Q (.ref p) H2) : rSlL K (.ref A) lo hi H1 Q := by
  refine ⟨A, _, rfl, SqL.of ha, fun p hp => ?_⟩
  rw [e]
  have s2 := (L2.Same.refl H1).new hp (.lst (zs.map trV))
  have h2 : upd H1 p (.lst (zs.map trV)) p = some _ := upd_same
  generalize upd H1 p (.lst (zs.map trV)) = H2 at s2 h2 ⊢
  refine q p H2 hp s2 (R.add s2 (fun b hb => List.mem_cons.mpr (.inl (Option.some.inj hb).symm)) (fun b hb => ?_) (rowW (H0 := H1) (S := []) (fun H' _ => ⟨⟨false, _, itsT zs hz, fun z => by cases z⟩, .inl (by rw [List.length_map]; exact bad)⟩) s2 h2 (by rw [List.length_map]; exact n) (.inr fun H' _ => ⟨_, itsT zs hz⟩)) fun b hb => ?_)
  · rw [List.mem_singleton.mp hb]; exact hp
  · have hb' : b = p := by
      rcases hb with hb | hb
      · exact (Option.some.inj hb).symm
      · exact List.mem_singleton.mp hb
    rw [hb', h2]; exact Option.some_ne_none _
/-- a[lo:hi], a list on the way -/
theorem slWay {K : PySem.W.Frag} {H1 : Hp} {A : Addr} {xs zs : List Tr} {lo hi : Option Int} {Q : VK} (ha : H1 A = some (.lst (xs.map trV))) (e : cutV (xs.map trV) lo hi = zs.map trV) (q : ∀ p H2, H1 p = none → Same H1 H2 → H2 p = some (.lst (zs.map trV)) → Q (.ref p) H2) : rSlL K (.ref A) lo hi H1 Q := by
  refine ⟨A, _, rfl, SqL.of ha, fun p hp => ?_⟩
  rw [e]
  exact q p _ hp ((L2.Same.refl H1).new hp _) upd_same
theorem piled_le : ∀ (ts : List Str) (B : Nat), (∀ t ∈ ts, t.length ≤ B) → PySem.piled ts ≤ ts.length * (B + 2)
  | [], B, _ => by simp [PySem.piled]
  | t :: r, B, h => by
    have h1 := piled_le r B fun x hx => h x (List.mem_cons_of_mem _ hx)
    have h2 := h t (List.mem_cons_self ..)
    rw [PySem.piled_cons, List.length_cons, Nat.succ_mul]
    omega
theorem tupleText_le (ts : List Str) (B : Nat) (h : ∀ t ∈ ts, t.length ≤ B) : (PySem.tupleText ts).length ≤ ts.length * (B + 2) + 4 := by
  unfold PySem.tupleText
  rw [strLen_append, strLen_append]
  have e1 : (("(" : String) : Str).length = 1 := rfl
  have e2 : ((if ts.length == 1 then ",)" else ")" : String) : Str).length ≤ 2 := by split <;> decide
  have e3 : (Str.join ", " ts).length ≤ ts.length * (B + 2) := by
    by_cases hn : ts = []
    · subst hn
      exact Nat.zero_le _
    · have a := PySem.join_length_add ts hn
      have b := piled_le ts B h
      omega
  omega
theorem Its.goodT {H : Hp} {c : Bool} {a : Addr} {us : List V} {ds : List PyData} (i : Its H c us ds) (h : H a = some (.tup us)) (n : us.length ≤ 50) (hc : c = true → PyData.hasDictAll ds = true) : Good H (.ref a) (.tuple ds) := by
  obtain ⟨h1, h2, h3, h4, h5⟩ := i.dvs
  have e : (PyData.tuple ds).hasDict = c := by
    simp only [PyData.hasDict]
    cases c with
    | true => exact hc rfl
    | false =>
      cases hz : PyData.hasDictAll ds with
      | false => rfl
      | true => exact (h4 hz).symm
  refine ⟨?_, by simpa only [PyData.showable] using h2, by simp only [PyData.depth]; omega, ?_⟩
  · rw [e]
    exact .tup h h1
  · simp only [PyData.shown]
    have := tupleText_le (PyData.shownAll ds) 10000 h5
    have l := i.length
    rw [shownAll_length] at this
    have : ds.length * (10000 + 2) ≤ 50 * (10000 + 2) := Nat.mul_le_mul_right _ (by omega)
    omega
theorem itNon {H : Hp} {c : Bool} : It H c .non .none := ⟨.non, by decide +kernel, by decide +kernel, by decide +kernel, fun z => by simp [PyData.hasDict] at z⟩
theorem itBl {H : Hp} {c : Bool} (b : Bool) : It H c (.bl b) (.bool b) := ⟨.bl b, by simp [PyData.showable], by simp [PyData.depth], by cases b <;> decide +kernel, fun z => by simp [PyData.hasDict] at z⟩
theorem itDic {H : Hp} {q : Addr} (h : H q = some (.dK [])) : It H true (.ref q) (.dict []) := ⟨.dic h .nil, by decide +kernel, by decide +kernel, by decide +kernel, fun _ => rfl⟩
theorem itLd {H : Hp} {q : Addr} (h : H q = some (.lst [V.str (S [46])])) : It H false (.ref q) (.list [.str (S [46])]) := ⟨.lst (fun z => by cases z) h (.cons (.str _) .nil), by decide +kernel, by decide +kernel, by decide +kernel, fun z => by simp [PyData.hasDict, PyData.hasDictAll] at z⟩
theorem itTd {H : Hp} {c : Bool} {q : Addr} (h : H q = some (.tup [V.str (S [46])])) : It H c (.ref q) (.tuple [.str (S [46])]) := ⟨.tup h (.cons (.str _) .nil), by decide +kernel, by decide +kernel, by decide +kernel, fun z => by simp [PyData.hasDict, PyData.hasDictAll] at z⟩
theorem hasDict_last : ∀ ds : List PyData, PyData.hasDictAll (ds ++ [.dict []]) = true
  | [] => by simp [PyData.hasDictAll, PyData.hasDict]
  | d :: ds => by
    show PyData.hasDictAll (d :: (ds ++ [.dict []])) = true
    simp only [PyData.hasDictAll, hasDict_last ds, Bool.or_true]
/-- a text that is no tree -/
theorem ntS {K : PySem.W.Frag} {H : Hp} (cs : List Nat) (l : cs.length ≤ 300) (h : isT cs ["tree"] = false) : NotTree K H (.str (S cs)) := .inl ⟨S cs, rfl, by rw [S_len]; omega, by simpa using h⟩
theorem Rows.keep {K : PySem.W.Frag} {t : Tr} {B H H' : Hp} {L : List Row} {W : Addr} (h : Rows K t B H L) (k : Keep W H H') (hB : B W = none) (hne : ∀ r ∈ L, ∀ b, r.m = some b ∨ b ∈ r.S → b ≠ W) : Rows K t B H' L := by
  refine ⟨fun b o e => k b o (ne_of_none e hB) (h.base b o e), h.free, fun r hr H2 a => h.ok r hr H2 fun b hb o e => a b hb o (k b o (hne r hr b (.inr hb)) e), h.apart, fun r hr b hb => ?_⟩
  cases e : H b with
  | none => exact absurd e (h.live r hr b hb)
  | some o => rw [k b o (hne r hr b hb) e]; exact Option.some_ne_none _
theorem isT_end : ∀ t : Tr, isT t.cs [] = false
  | .leaf => by decide +kernel
  | .node l r => isT_bad (wd := Str.ofString "end") rfl (fun z => absurd z.1 (by decide)) ⟨by decide +kernel, fun z => absurd z.1 (by decide)⟩
theorem isT_two (x y : Tr) : isT (x.cs ++ y.cs) ["tree"] = false := by
  rw [isT_tree x y.cs []]
  exact isT_end y
theorem isT_less : ∀ t : Tr, isT t.cs.dropLast ["tree"] = false
  | .leaf => by decide +kernel
  | .node l r => by
    have e : (Tr.node l r).cs.dropLast = 40 :: (l.cs ++ (r.cs ++ [])) := by
      show (40 :: (l.cs ++ (r.cs ++ [41]))).dropLast = _
      rw [← List.append_assoc, ← List.cons_append, List.dropLast_concat, List.append_nil]
    rw [e, isT_open (wd := Str.ofString "tree") (st' := []) rfl rfl ⟨rfl, by decide +kernel⟩, isT_tree l _ _, isT_tree r _ _]
    decide +kernel
theorem cs_last : ∀ t : Tr, ∃ c, t.cs.drop (t.cs.length - 1) = [c] ∧ (c = 46 ∨ c = 41)
  | .leaf => ⟨46, by decide, .inl rfl⟩
  | .node l r => by
    refine ⟨41, ?_, .inr rfl⟩
    show (40 :: (l.cs ++ (r.cs ++ [41]))).drop ((40 :: (l.cs ++ (r.cs ++ [41]))).length - 1) = _
    rw [← List.append_assoc, ← List.cons_append, List.length_append, List.length_singleton, Nat.add_sub_cancel, List.drop_left]
theorem isT_more (c : Nat) (hc : c = 46 ∨ c = 41) (y : Tr) : isT (c :: y.cs) ["tree"] = false := by
  rcases hc with rfl | rfl
  · exact (isT_tree .leaf y.cs []).trans (isT_end y)
  · exact isT_bad (wd := Str.ofString "tree") rfl (fun z => absurd z.2 (by decide +kernel)) ⟨by decide +kernel, fun z => absurd z.2 (by decide +kernel)⟩
theorem atN {xs : List V} {k : Nat} {v : V} (h : xs[k]? = some v) : atI xs (k : Int) = some v := by
  unfold atI ixN
  have := (List.getElem?_eq_some_iff.mp h).1
  rw [if_pos (by omega), if_pos (by omega)]
  simpa using h
theorem atM {xs : List V} {k : Nat} {v : V} (h1 : 1 ≤ k) (h2 : k ≤ xs.length) (h : xs[xs.length - k]? = some v) : atI xs (-(k : Int)) = some v := by
  unfold atI ixN
  rw [if_neg (by omega), if_pos (by omega)]
  show xs[(-(k : Int) + xs.length).toNat]? = _
  rw [show (-(k : Int) + xs.length).toNat = xs.length - k by omega]
  exact h
theorem cutS_less (cs : List Nat) (h : 1 ≤ cs.length) : cutS (S cs) none (some (-1)) = S cs.dropLast := by
  have e : (S cs).length = cs.length := S_len cs
  have e2 : (S cs).cps.toList = cs := by simp
  unfold cutS
  rw [HT.sIx_none, e, e2, List.drop_zero]
  have e3 : HT.sIx cs.length cs.length (some (-1)) - 0 = cs.length - 1 := by
    show (if (-1 : Int) < 0 then ((-1 : Int) + (cs.length : Int)).toNat else min (-1 : Int).toNat cs.length) - 0 = _
    rw [if_pos (by decide)]
    omega
  rw [e3, List.dropLast_eq_take]
theorem cutS_last (cs : List Nat) (h : 1 ≤ cs.length) : cutS (S cs) (some (-1)) none = S (cs.drop (cs.length - 1)) := by
  have e : (S cs).length = cs.length := S_len cs
  have e2 : (S cs).cps.toList = cs := by simp
  unfold cutS
  have e3 : HT.sIx cs.length 0 (some (-1)) = cs.length - 1 := by
    show (if (-1 : Int) < 0 then ((-1 : Int) + (cs.length : Int)).toNat else min (-1 : Int).toNat cs.length) = _
    rw [if_pos (by decide)]
    omega
  rw [e, e2, HT.sIx_none, e3, List.take_of_length_le (by simp)]

theorem Keep.same {g : Addr} {H H' : Hp} (k : Keep g H H') (h : H g = none) : Same H H' := fun b o hb => k b o (ne_of_none hb h) hb
theorem no_items {K : PySem.W.Frag} {H : Hp} {a b : Addr} {Q : VK} (ha : H a = some (.lst [])) (hb : H b = some (.lst [])) (q : Q (.bl false) H) : rNeD K (.ref a) (.ref b) H Q :=
  ⟨_, _, .lst (SqL.of ha) .nil, .lst (SqL.of hb) .nil, by decide, by decide, q⟩
theorem neS {K : PySem.W.Frag} {H : Hp} {a b : Addr} {xs : List Tr} {Q : VK} (ha : H a = some (.lst (xs.map trV))) (hb : H b = some (.lst (xs.map trV))) (q : Q (.bl false) H) : rNeD K (.ref a) (.ref b) H Q := by
  refine ⟨.list (xs.map fun t => .str (S t.cs)), .list (xs.map fun t => .str (S t.cs)), .lst (SqL.of ha) (dpS xs), .lst (SqL.of hb) (dpS xs), shS xs, shS xs, ?_⟩
  rw [eqS xs]
  exact q
theorem ok_law (T : Txt K mg) : FnG P w K mg base CX0 90 T.a_law T.fd_law ["_law_script"] (sp_law K) := by
  refine okG T.F_law sc_law (fun vs H Q E h => ?_) (fun cdv A outer s H vs Q E hG hr h => ?_)
  · obtain ⟨a, ns, rfl, _⟩ := h; rfl
  obtain ⟨a, ns, rfl, ha, hlen, q⟩ := h
  have hru := hr.units
  refine ⟨_, (pss_cons (ps_for PassesOwn.never rfl (pi_range1 rfl T.z_range (pa_cons pe_int pa_nil)) (pg_name (i := 1) sc_law.nd rfl (by first | exact Or.inl rfl | exact Or.inr rfl)) (pss_cons (ps_set (i := 2) sc_law.nd rfl (by first | exact Or.inl rfl | exact Or.inr rfl) (pe_call (ok_law_generator T) (hr.mono (by first | decide | omega)) (by rfl) T.m_law_generator T.F_law_generator.kp T.b_law_generator .nil pass0 (pa_cons (pv 0) (pa_cons (pv 1) pa_nil))))
    (pss_cons (ps_set (i := 3) sc_law.nd rfl (by first | exact Or.inl rfl | exact Or.inr rfl) (pe_call (ok_law_tree T 40) (hr.mono (by first | decide | omega)) (by rfl) T.m_law_tree T.F_law_tree.kp T.b_law_tree .nil pass0 (pa_cons (pv 2) (pa_cons (pe_call (ok_law_random T) (hr.mono (by first | decide | omega)) (by rfl) T.m_law_random T.F_law_random.kp T.b_law_random .nil pass0 (pa_cons (pv 2) (pa_cons pe_int pa_nil))) pa_nil))))
    (pss_cons (ps_set (i := 4) sc_law.nd rfl (by first | exact Or.inl rfl | exact Or.inr rfl) (pe_call (ok_law_trees T) (hr.mono (by first | decide | omega)) (by rfl) T.m_law_trees T.F_law_trees.kp T.b_law_trees .nil pass0 (pa_cons (pv 2) (pa_cons (pe_m1 PySem.F.slot_str_count PySem.F.type_str_count mt_count (pv 3) pe_str) pa_nil))))
    (pss_cons (ps_set (i := 5) sc_law.nd rfl (by first | exact Or.inl rfl | exact Or.inr rfl) (pe_callTy call_list_of (by rfl) T.z_list (by decide +kernel) (pa_cons (pv 4) pa_nil)))
    (pss_cons (ps_set (i := 6) sc_law.nd rfl (by first | exact Or.inl rfl | exact Or.inr rfl) (pe_call (ok_grown T) (hr.mono (by first | decide | omega)) (by rfl) T.m_grown T.F_grown.kp T.b_grown .nil passL (pa_cons (pv 3) (pa_cons (pv 4) pa_nil))))
    (pss_cons (ps_setLc (i := 7) (own := [("_law_one", 8)]) rfl sc_law.nd rfl rfl (sw_true rfl rfl rfl (by decide +kernel)) (pi_list (pv 5)) (blkOk_by (own := [("_law_one", 8)]) (N := nm_law) (sc := defScope s_law) (by decide +kernel)) (fun _ _ _ _ _ => by exact (pg_name (i := 8) sc_law.nd rfl (by first | exact Or.inl rfl | exact Or.inr rfl))) (fun _ _ _ _ _ => by exact pts_nil) (fun _ _ _ _ _ => by exact (pe_call (ok_law_parsed T) (hr.mono (by first | decide | omega)) (by rfl) T.m_law_parsed T.F_law_parsed.kp T.b_law_parsed .nil pass0 (pa_cons (pv 8) pa_nil))))
    (pss_cons (ps_if (pw_or (pt_cmpR (op_neD hru) (pv 4) (pv 5) (nomark _)) (pw_or1 (pt_cmpR op_ne (pv 6) (pe_call (ok_law_text T 70) (hr.mono (by first | decide | omega)) (by rfl) T.m_law_text T.F_law_text.kp T.b_law_text .nil pass0 (pa_cons (pe_call (ok_law_filled T 70) (hr.mono (by first | decide | omega)) (by rfl) T.m_law_filled T.F_law_filled.kp T.b_law_filled .nil pass0 (pa_cons (pe_call (ok_law_parsed T) (hr.mono (by first | decide | omega)) (by rfl) T.m_law_parsed T.F_law_parsed.kp T.b_law_parsed .nil pass0 (pa_cons (pv 3) pa_nil)) (pa_cons (pv 7) pa_nil))) pa_nil)) (nomark _)))).pt (pss_one (ps_ret pe_bl)) pss_nil)
    (pss_cons (ps_if (pt_cmpR (op_neD hru) (pe_call (ok_hung T) (hr.mono (by first | decide | omega)) (by rfl) T.m_hung T.F_hung.kp T.b_hung .nil passL (pa_cons (pv 6) (pa_cons (pv 3) pa_nil))) (pv 5) (nomark _)) (pss_one (ps_ret pe_bl)) pss_nil)
    (pss_cons (ps_set (i := 9) sc_law.nd rfl (by first | exact Or.inl rfl | exact Or.inr rfl) (pe_op op_catN (pe_lc (own := [("_law_turn", 10)]) rfl sc_law.nd (pi_range1 rfl T.z_range (pa_cons pe_int pa_nil)) (blkOk_by (own := [("_law_turn", 10)]) (N := nm_law) (sc := defScope s_law) (by decide +kernel)) (fun _ _ _ _ _ => by exact (pg_name (i := 10) sc_law.nd rfl (by first | exact Or.inl rfl | exact Or.inr rfl))) (fun _ _ _ _ _ => by exact pts_nil) (fun _ _ _ _ _ => by exact (pe_call (ok_law_tree T 40) (hr.mono (by first | decide | omega)) (by rfl) T.m_law_tree T.F_law_tree.kp T.b_law_tree .nil pass0 (pa_cons (pv 2) (pa_cons (pe_call (ok_law_random T) (hr.mono (by first | decide | omega)) (by rfl) T.m_law_random T.F_law_random.kp T.b_law_random .nil pass0 (pa_cons (pv 2) (pa_cons pe_int pa_nil))) pa_nil))))) (pe_lst (pa_cons (pv 6) (pa_cons (pv 3) (pa_cons pe_str pa_nil))))))
    (pss_cons (ps_for PassesOwn.never rfl (pi_list (pv 9)) (pg_name (i := 8) sc_law.nd rfl (by first | exact Or.inl rfl | exact Or.inr rfl)) (pss_one (ps_if (pt_cmpR (op_neD hru) (pe_lc (own := [("_law_other", 11)]) rfl sc_law.nd (pi_list (pv 9)) (blkOk_by (own := [("_law_other", 11)]) (N := nm_law) (sc := defScope s_law) (by decide +kernel)) (fun _ _ _ _ _ => by exact (pg_name (i := 11) sc_law.nd rfl (by first | exact Or.inl rfl | exact Or.inr rfl))) (fun _ _ _ _ _ => by exact (pts_one (pt_not (pt_val (pe_call (ok_law_pair_right T) (hr.mono (by first | decide | omega)) (by rfl) T.m_law_pair_right T.F_law_pair_right.kp T.b_law_pair_right .nil pass0 (pa_cons (pv 8) (pa_cons (pv 11) pa_nil))))))) (fun _ _ _ _ _ => by exact (pv 11))) (pe_lst pa_nil) (nomark _)) (pss_one (ps_ret pe_bl)) pss_nil)))
    (pss_cons (ps_set (i := 12) sc_law.nd rfl (by first | exact Or.inl rfl | exact Or.inr rfl) (pe_lst (pa_cons pe_non (pa_cons (pe_callTy call_tuple_of (by rfl) T.z_tuple (by decide +kernel) (pa_cons (pv 5) pa_nil)) (pa_cons (pe_op op_catN (pv 5) (pe_lst (pa_cons pe_str pa_nil))) (pa_cons (pe_slice sl_list (pv 5) (po_some pe_int) po_none) (pa_cons (pe_op op_catN (pe_lst (pa_cons pe_non pa_nil)) (pe_slice sl_list (pv 5) (po_some pe_int) po_none)) (pa_cons (pe_op op_catN (pe_slice sl_list (pv 5) po_none (po_some (pe_un un_neg pe_int))) (pe_lst (pa_cons pe_str pa_nil))) (pa_cons pe_str (pa_cons pe_dnewK pa_nil))))))))))
    (pss_cons (ps_set (i := 12) sc_law.nd rfl (by first | exact Or.inl rfl | exact Or.inr rfl) (pe_op op_catN (pv 12) (pe_lst (pa_cons (pe_op op_catN (pe_lst (pa_cons (pe_lst (pa_cons pe_str pa_nil)) pa_nil)) (pe_slice sl_list (pv 5) (po_some pe_int) po_none)) (pa_cons (pe_op op_catN (pe_slice sl_list (pv 5) po_none (po_some (pe_un un_neg pe_int))) (pe_lst (pa_cons pe_dnewK pa_nil))) (pa_cons (pe_op op_catN (pe_slice sl_list (pv 5) po_none (po_some (pe_un un_neg pe_int))) (pe_lst (pa_cons (pe_tup (pa_cons pe_str pa_nil)) pa_nil))) (pa_cons (pe_op op_catN (pe_slice sl_list (pv 5) po_none (po_some (pe_un un_neg pe_int))) (pe_lst (pa_cons pe_bl pa_nil))) pa_nil)))))))
    (pss_cons (ps_if (pt_cmpR op_gt (pe_callB call_len_seq (by rfl) T.z_len PySem.boot_len (pa_cons (pv 5) pa_nil)) pe_int (nomark _)) (pss_cons (ps_set (i := 13) sc_law.nd rfl (by first | exact Or.inl rfl | exact Or.inr rfl) (pe_op op_add_str (pe_ix ix_list (pv 5) pe_int (fun _ _ => rfl)) (pe_ix ix_list (pv 5) pe_int (fun _ _ => rfl))))
    (pss_cons (ps_set (i := 12) sc_law.nd rfl (by first | exact Or.inl rfl | exact Or.inr rfl) (pe_op op_catN (pv 12) (pe_lst (pa_cons (pe_op op_catN (pe_lst (pa_cons pe_str (pa_cons pe_str pa_nil))) (pe_slice sl_list (pv 5) (po_some pe_int) po_none)) (pa_cons (pe_op op_catN (pe_lst (pa_cons pe_str (pa_cons (pv 13) pa_nil))) (pe_slice sl_list (pv 5) (po_some pe_int) po_none)) (pa_cons (pe_op op_catN (pe_lst (pa_cons (pv 13) (pa_cons pe_str pa_nil))) (pe_slice sl_list (pv 5) (po_some pe_int) po_none)) pa_nil))))))
    (pss_one (ps_expr (pe_bm PySem.F.plainAttrs_list PySem.F.slot_list_append PySem.F.type_list_append mt_append (pv 12) (pa_cons (pe_op op_catN (pe_slice sl_list (pv 5) po_none (po_some (pe_un un_neg pe_int))) (pe_lst (pa_cons (pe_slice sl_str (pe_ix ix_list (pv 5) (pe_un un_neg pe_int) (fun _ _ => rfl)) po_none (po_some (pe_un un_neg pe_int))) (pa_cons (pe_op op_add_str (pe_slice sl_str (pe_ix ix_list (pv 5) (pe_un un_neg pe_int) (fun _ _ => rfl)) (po_some (pe_un un_neg pe_int)) po_none) (pe_ix ix_list (pv 5) (pe_un un_neg pe_int) (fun _ _ => rfl))) pa_nil)))) pa_nil)))))) pss_nil)
    (pss_cons (ps_if (pt_cmpR (op_neD hru) (pe_lc (own := [("_law_bad", 14)]) rfl sc_law.nd (pi_list (pv 12)) (blkOk_by (own := [("_law_bad", 14)]) (N := nm_law) (sc := defScope s_law) (by decide +kernel)) (fun _ _ _ _ _ => by exact (pg_name (i := 14) sc_law.nd rfl (by first | exact Or.inl rfl | exact Or.inr rfl))) (fun _ _ _ _ _ => by exact (pts_one (pt_not (pt_val (pe_callG (ok_law_caught T) hG (hr.mono (by first | decide | omega)) (by rfl) T.m_law_caught T.F_law_caught.kp T.b_law_caught .nil pass0 (pa_cons (pv 3) (pa_cons (pv 14) pa_nil))))))) (fun _ _ _ _ _ => by exact (pv 14))) (pe_lst pa_nil) (nomark _)) (pss_one (ps_ret pe_bl)) pss_nil)
    (pss_one (ps_if (pt_not (pt_val (pe_callG (ok_law_refused T) hG (hr.mono (by first | decide | omega)) (by rfl) T.m_law_refused T.F_law_refused.kp T.b_law_refused .nil pass0 (pa_cons (pv 3) pa_nil)))) (pss_one (ps_ret pe_bl)) pss_nil)))))))))))))))))
    (pss_one (ps_ret (pe_call (ok_law_great_right T) (hr.mono (by first | decide | omega)) (by rfl) T.m_law_great_right T.F_law_great_right.kp T.b_law_great_right .nil pass0 (pa_cons (pe_call (ok_law_generator T) (hr.mono (by first | decide | omega)) (by rfl) T.m_law_generator T.F_law_generator.kp T.b_law_generator .nil pass0 (pa_cons (pv 0) (pa_cons pe_int pa_nil))) pa_nil))))), ?_⟩
  simp only [cxOf_K, tAsg2, tYes, wipe, tSeq, tIfS, tNot, tB, tCB, tCons, tNil, tVar, tC, tTest, tOp, tAnd, tOr, tAsg, gName, tRet, tRetN, tDrop, tNext, tIf, tCall, tTup, tLst, tNotV, tAndV, tOrV, tUn, rI0, rI, rU, rEq, rNe, tM1, tM0, tBM, tBM0, tSl, tPart, tNoPart, iStr, iEnumS, iRng1, iRng2, iList, gSub, tBits, tAug, tPar, L2.start, List.map_cons, List.map_nil, List.length_cons, List.length_nil, List.getElem?_cons_zero, List.getElem?_cons_succ, List.cons_append, List.nil_append, List.append_nil, List.set_cons_zero, List.set_cons_succ, List.replicate_succ, List.replicate_zero, Option.some.injEq, exists_eq_left', V.int.injEq, V.str.injEq, V.ref.injEq, V.bl.injEq, exists_and_left, exists_eq_left, List.cons.injEq, and_true, true_and, tCallX, tRs]
  refine ⟨_, rfl, by decide, by decide, for_range (fun i σ H' => ∃ a1 a2 a3 a4 a5 a6 a7 a8 a9 a10 a11 a12 a13 a14, σ = [some (.ref a), a1, a2, a3, a4, a5, a6, a7, a8, a9, a10, a11, a12, a13, a14] ∧ Same H H') ⟨none, none, none, none, none, none, none, none, none, none, none, none, none, none, rfl, L2.Same.refl H⟩ ?_ ?_⟩
  · rintro i σ H1 hi ⟨a1, a2, a3, a4, a5, a6, a7, a8, a9, a10, a11, a12, a13, a14, rfl, s1⟩
    have hi3 : i < 4 := hi
    simp only [cxOf_K, tAsg2, tYes, wipe, tSeq, tIfS, tNot, tB, tCB, tCons, tNil, tVar, tC, tTest, tOp, tAnd, tOr, tAsg, gName, tRet, tRetN, tDrop, tNext, tIf, tCall, tTup, tLst, tNotV, tAndV, tOrV, tUn, rI0, rI, rU, rEq, rNe, tM1, tM0, tBM, tBM0, tSl, tPart, tNoPart, iStr, iEnumS, iRng1, iRng2, iList, gSub, tBits, tAug, tPar, L2.start, List.map_cons, List.map_nil, List.length_cons, List.length_nil, List.getElem?_cons_zero, List.getElem?_cons_succ, List.cons_append, List.nil_append, List.append_nil, List.set_cons_zero, List.set_cons_succ, List.replicate_succ, List.replicate_zero, Option.some.injEq, exists_eq_left', V.int.injEq, V.str.injEq, V.ref.injEq, V.bl.injEq, exists_and_left, exists_eq_left, List.cons.injEq, and_true, true_and, tCallX, tRs]
    rw [show (0 : Int) + (i : Int) = ((i : Nat) : Int) by omega]
    refine ⟨a, ns, i, rfl, s1.seq ha, fun g H2 hg s2 g2 => ?_⟩
    have s2' := s1.trans s2
    have hg0 : H g = none := s1.free hg
    refine ⟨g, 13, _, rfl, g2, by omega, by decide, by decide, fun r H3 r0 r1 k3 g3 => ?_⟩
    refine ⟨g, r.toNat, _, by rw [show ((r.toNat : Nat) : Int) = r by omega], by omega, by omega, g3, by omega, fun t H4 ht k4 g4 => ?_⟩
    have ht12 : t.size ≤ 12 := by omega
    have hlv := Tr.lvs_size t
    simp only [cxOf_K, tAsg2, tYes, wipe, tSeq, tIfS, tNot, tB, tCB, tCons, tNil, tVar, tC, tTest, tOp, tAnd, tOr, tAsg, gName, tRet, tRetN, tDrop, tNext, tIf, tCall, tTup, tLst, tNotV, tAndV, tOrV, tUn, rI0, rI, rU, rEq, rNe, tM1, tM0, tBM, tBM0, tSl, tPart, tNoPart, iStr, iEnumS, iRng1, iRng2, iList, gSub, tBits, tAug, tPar, L2.start, List.map_cons, List.map_nil, List.length_cons, List.length_nil, List.getElem?_cons_zero, List.getElem?_cons_succ, List.cons_append, List.nil_append, List.append_nil, List.set_cons_zero, List.set_cons_succ, List.replicate_succ, List.replicate_zero, Option.some.injEq, exists_eq_left', V.int.injEq, V.str.injEq, V.ref.injEq, V.bl.injEq, exists_and_left, exists_eq_left, List.cons.injEq, and_true, true_and, tCallX, tRs]
    rw [lit_dot, count_S, count_tree]
    refine ⟨⟨_, rfl⟩, g, t.lvs, _, rfl, by omega, g4, by omega, fun p xs H5 hl hs np k5 g5 hp => ?_⟩
    have k25 : Keep g H2 H5 := k3.trans (k4.trans k5)
    have s5 : Same H H5 := Keep.same ((Keep.of (g := g) s2').trans k25) hg0
    have hgp : g ≠ p := by obtain ⟨o, ho⟩ := g4.some; exact ne_of_none ho np
    clear k3 k4 k5 g2 g3 g4 s2 s1 s2' k25
    have hgo := g5.some
    refine ⟨p, rfl, _, .inl (SqL.of hp), fun kp nk => ?_⟩
    have s6 := (L2.Same.refl H5).new nk (.lst (xs.map trV))
    have hk6 : upd H5 kp (.lst (xs.map trV)) kp = some _ := upd_same
    have g6 := g5.new (o := .lst (xs.map trV)) nk
    have hgk : g ≠ kp := by obtain ⟨o, ho⟩ := hgo; exact ne_of_none ho nk
    generalize upd H5 kp (.lst (xs.map trV)) = H6 at s6 hk6 g6 ⊢
    have hp6 := s6 _ _ hp
    have gs := grow_size t xs hs
    have gl := Tr.growR_len t xs (by omega)
    have gh := Tr.hang_grow hl
    have th := hgt_size t
    refine ⟨_, _, rfl, .inl ⟨t, rfl, by omega, .inl ⟨xs, ⟨p, rfl, hp6, hl, fun x hx => Nat.le_trans (hs x hx) (by decide)⟩, fun H7 s7 => ?_⟩⟩⟩
    have hp7 := s7 _ _ hp6
    have hk7 := s7 _ _ hk6
    have g7 := g6.same s7
    have s7 : Same H H7 := s5.trans (s6.trans s7)
    clear s5 s6 hp6 hk6 g6 g5 hgo nk hp np
    refine ⟨_, rfl, kp, rfl, ⟨_, SqL.of hk7⟩, fun D hD => ?_⟩
    have npD : kp ≠ D := ne_of_none hk7 hD
    have hD0 : H D = none := s7.free hD
    have hgD : g ≠ D := by obtain ⟨o, ho⟩ := g7.some; exact ne_of_none ho hD
    have hpD : p ≠ D := ne_of_none hp7 hD
    refine lc_list (K := K) (a := kp) (xs := xs.map trV) (fun i H' => Same H7 H' ∧ ∃ ws, H' D = some (.lst ws) ∧ PTs H' ws (xs.take i)) ⟨(L2.Same.refl H7).new hD _, [], upd_same, .nil⟩ (fun i H' _ hp' => SqL.of (hp'.1 _ _ hk7)) ?_ ?_
    · rintro j x H8 hj ⟨s8, ws, hd, pt⟩
      obtain ⟨u, hu, rfl, _⟩ := getV hj
      have hm := List.mem_of_getElem? hu
      have us := hs u hm
      have hil : j < xs.length := (List.getElem?_eq_some_iff.mp hu).1
      simp only [cxOf_K, tAsg2, tYes, wipe, tSeq, tIfS, tNot, tB, tCB, tCons, tNil, tVar, tC, tTest, tOp, tAnd, tOr, tAsg, gName, tRet, tRetN, tDrop, tNext, tIf, tCall, tTup, tLst, tNotV, tAndV, tOrV, tUn, rI0, rI, rU, rEq, rNe, tM1, tM0, tBM, tBM0, tSl, tPart, tNoPart, iStr, iEnumS, iRng1, iRng2, iList, gSub, tBits, tAug, tPar, L2.start, List.map_cons, List.map_nil, List.length_cons, List.length_nil, List.getElem?_cons_zero, List.getElem?_cons_succ, List.cons_append, List.nil_append, List.append_nil, List.set_cons_zero, List.set_cons_succ, List.replicate_succ, List.replicate_zero, Option.some.injEq, exists_eq_left', V.int.injEq, V.str.injEq, V.ref.injEq, V.bl.injEq, exists_and_left, exists_eq_left, List.cons.injEq, and_true, true_and, tCallX, tRs]
      rw [if_pos True.intro]
      refine ⟨u, rfl, by omega, fun v H9 s9 pv => ⟨ws, s9 _ _ hd, ?_, ?_⟩⟩
      · rw [pt.length, List.length_take]
        exact small5' (by omega)
      · have pk : Keep D H9 (upd H9 D (.lst (ws ++ [v]))) := fun b o nb hb => by rw [upd_ne nb]; exact hb
        refine ⟨(s8.trans s9).new hD _, _, upd_same, ?_⟩
        rw [List.take_add_one, hu]
        exact PTs.append ((pt.same s9).keep pk (s9 _ _ hd)) (.cons (pv.keep pk (s9 _ _ hd)) .nil)
    · rintro H8 ⟨s8, ws, hd, pt⟩
      rw [List.length_map, List.take_length] at pt
      have g8 := g7.same s8
      have hp8 := s8 _ _ hp7
      have hk8 := s8 _ _ hk7
      have s8 := s7.trans s8
      refine neS hp8 hk8 ⟨false, rfl, ?_⟩
      rw [if_neg (by decide)]
      refine ⟨t, rfl, by omega, fun v H9 s9 pv => ⟨v, D, t, ws, xs, rfl, pv, by omega, by omega, s9 _ _ hd, pt.same s9, by omega, by omega, fun z ws' H10 k10 hd' pts' pz => ?_⟩⟩
      have s10 : Same H H10 := Keep.same (k := ((Keep.of (g := D) (s8.trans s9)).trans k10)) hD0
      have g10 : GenAt H10 g (1000 * i + 400) := by
        obtain ⟨a, b, c, h, x, y⟩ := g8.same s9
        exact ⟨a, b, c, k10 _ _ hgD h, x, by omega⟩
      have hk10 := k10 _ _ npD (s9 _ _ hk8)
      have tg := hgt_size (t.grow xs)
      have egr : (t.growR xs).1 = t.grow xs := rfl
      rw [egr] at pz
      have xl : xs.length ≤ 13 := by omega
      have xm : t.lvs * 3 ≤ 13 * 3 := Nat.mul_le_mul_right _ (by omega)
      clear pts' hd' ws' k10 pv pt hp8 g8 s9 hk8 hd
      refine ⟨z, _, rfl, pz, by omega, by omega, by omega, fun H11 s11 => ⟨rfl, ?_⟩⟩
      rw [if_neg (by simp)]
      have g11 := g10.same s11
      have hk11 := s11 _ _ hk10
      have s11 := s10.trans s11
      clear g10 hk10 s10 pz
      generalize hfull : t.grow xs = full at *
      refine ⟨_, _, rfl, .inl ⟨full, rfl, by omega, .inl ⟨t, rfl, by omega, fun e => (by rw [gh] at e; cases e), fun ys ey hn H12 nn s12 hh => ?_⟩⟩⟩
      rw [gh] at ey
      obtain rfl : xs = ys := Option.some.inj ey
      have hk12 := s12 _ _ hk11
      have g12 := g11.same s12
      have s12 := s11.trans s12
      refine neS hh hk12 ⟨false, rfl, ?_⟩
      rw [if_neg (by decide)]
      clear hh nn hn ey g11 hk11 s11
      refine ⟨2, rfl, by decide, by decide, fun O hO => ?_⟩
      have hgO : g ≠ O := by obtain ⟨o, ho⟩ := g12.some; exact ne_of_none ho hO
      have hO0 : H O = none := s12.free hO
      have nkO : kp ≠ O := ne_of_none hk12 hO
      refine lc_range (fun j H' => ∃ ys : List Tr, H' O = some (.lst (ys.map trV)) ∧ ys.length = j ∧ (∀ x ∈ ys, x.size ≤ 60) ∧ Keep g H12 H' ∧ GenAt H' g (1000 * i + 400 + 93 * j)) ⟨[], upd_same, rfl, (fun _ h => nomatch h), (Keep.of (L2.Same.refl H12)).new hO _, g12.new hO⟩ ?_ ?_
      · rintro j H13 hj ⟨ys, h13, hyl, hyx, k13, g13⟩
        have hj2 : j < 2 := hj
        simp only [cxOf_K, tAsg2, tYes, wipe, tSeq, tIfS, tNot, tB, tCB, tCons, tNil, tVar, tC, tTest, tOp, tAnd, tOr, tAsg, gName, tRet, tRetN, tDrop, tNext, tIf, tCall, tTup, tLst, tNotV, tAndV, tOrV, tUn, rI0, rI, rU, rEq, rNe, tM1, tM0, tBM, tBM0, tSl, tPart, tNoPart, iStr, iEnumS, iRng1, iRng2, iList, gSub, tBits, tAug, tPar, L2.start, List.map_cons, List.map_nil, List.length_cons, List.length_nil, List.getElem?_cons_zero, List.getElem?_cons_succ, List.cons_append, List.nil_append, List.append_nil, List.set_cons_zero, List.set_cons_succ, List.replicate_succ, List.replicate_zero, Option.some.injEq, exists_eq_left', V.int.injEq, V.str.injEq, V.ref.injEq, V.bl.injEq, exists_and_left, exists_eq_left, List.cons.injEq, and_true, true_and, tCallX, tRs]
        rw [if_pos True.intro]
        refine ⟨g, 13, _, rfl, g13, by omega, by decide, by decide, fun r2 H14 r20 r21 k14 g14 => ?_⟩
        refine ⟨g, r2.toNat, _, by rw [show ((r2.toNat : Nat) : Int) = r2 by omega], by omega, by omega, g14, by omega, fun u H15 hu k15 g15 => ?_⟩
        have h15 := k15 _ _ hgO.symm (k14 _ _ hgO.symm h13)
        refine ⟨_, h15, by rw [List.length_map]; exact small5' (by omega), ?_⟩
        refine ⟨ys ++ [u], by rw [upd_same]; simp, by simp [hyl], fun x h => ?_, (k13.trans (k14.trans k15)).new hO _, ?_⟩
        · rcases List.mem_append.mp h with h | h
          · exact hyx x h
          · rw [List.mem_singleton.mp h, hu]; omega
        · obtain ⟨a, b, c, h, x, y⟩ := g15
          exact ⟨a, b, c, by rw [upd_ne hgO]; exact h, x, by omega⟩
      · rintro H13 ⟨ys, h13, hyl, hyx, k13, g13⟩
        have s13 : Same H H13 := Keep.same (k := (Keep.of (g := g) s12).trans k13) hg0
        have hk13 := k13 _ _ hgk.symm hk12
        clear k13 s12 g12 hk12 hO
        refine ⟨by decide, fun P nP => ?_⟩
        have s14 := (L2.Same.refl H13).new nP (.lst [trV full, trV t, V.str (S [46])])
        have hP : upd H13 P (.lst [trV full, trV t, V.str (S [46])]) P = some (.lst ([full, t, .leaf].map trV)) := upd_same
        generalize upd H13 P (.lst [trV full, trV t, V.str (S [46])]) = H14 at s14 hP ⊢
        refine ⟨O, P, _, _, rfl, rfl, s14 _ _ h13, hP, by simp; exact small5 (by omega), fun W nW _ => ?_⟩
        have s15 := s14.new (s14.free nW) (.lst (ys.map trV ++ [full, t, .leaf].map trV))
        have hW : upd H14 W (.lst (ys.map trV ++ [full, t, .leaf].map trV)) W = some (.lst ((ys ++ [full, t, .leaf]).map trV)) := by rw [upd_same, List.map_append]
        generalize upd H14 W (.lst (ys.map trV ++ [full, t, .leaf].map trV)) = H15 at s15 hW ⊢
        have hzs : ∀ x ∈ ys ++ [full, t, .leaf], x.size ≤ 60 := fun x hx => by
          rcases List.mem_append.mp hx with hx | hx
          · exact hyx x hx
          · simp only [List.mem_cons, List.not_mem_nil, or_false] at hx
            rcases hx with rfl | rfl | rfl
            · omega
            · omega
            · decide
        have hzl : (ys ++ [full, t, .leaf]).length = 5 := by simp [hyl]
        generalize ys ++ [full, t, .leaf] = zs at hW hzs hzl
        have hk15 := s15 _ _ hk13
        have g15 := g13.same s15
        have s15 := s13.trans s15
        clear s13 s14 hP nP nW h13 hyl hyx hk13 g13
        refine ⟨_, rfl, W, rfl, ⟨_, SqL.of hW⟩, for_list (K := K) (a := W) (xs := zs.map trV) (fun i6 σ H' => ∃ b8 b11, σ = [some (V.ref a), some (V.int ↑i), some (V.ref g), some (trV t), some (V.ref p), some (V.ref kp), some (trV full), some (V.ref D), b8, some (V.ref W), a10, b11, a12, a13, a14] ∧ Same H15 H') ⟨_, _, rfl, L2.Same.refl H15⟩ ?_ ?_ ?_⟩
        · rintro i6 σ H' hi6 ⟨b8, b11, rfl, s0⟩
          exact SqL.of (s0 _ _ hW)
        · rintro i6 u σ H' hu ⟨b8, b11, rfl, s0⟩
          obtain ⟨u, hu1, rfl, _⟩ := getV hu
          have us := hzs u (List.mem_of_getElem? hu1)
          simp only [cxOf_K, tAsg2, tYes, wipe, tSeq, tIfS, tNot, tB, tCB, tCons, tNil, tVar, tC, tTest, tOp, tAnd, tOr, tAsg, gName, tRet, tRetN, tDrop, tNext, tIf, tCall, tTup, tLst, tNotV, tAndV, tOrV, tUn, rI0, rI, rU, rEq, rNe, tM1, tM0, tBM, tBM0, tSl, tPart, tNoPart, iStr, iEnumS, iRng1, iRng2, iList, gSub, tBits, tAug, tPar, L2.start, List.map_cons, List.map_nil, List.length_cons, List.length_nil, List.getElem?_cons_zero, List.getElem?_cons_succ, List.cons_append, List.nil_append, List.append_nil, List.set_cons_zero, List.set_cons_succ, List.replicate_succ, List.replicate_zero, Option.some.injEq, exists_eq_left', V.int.injEq, V.str.injEq, V.ref.injEq, V.bl.injEq, exists_and_left, exists_eq_left, List.cons.injEq, and_true, true_and, tCallX, tRs]
          have ut := hgt_size u
          refine ⟨_, rfl, W, rfl, ⟨_, SqL.of (s0 _ _ hW)⟩, fun M hM => lc_list (K := K) (a := W) (xs := zs.map trV) (fun i H2 => Same H15 H2 ∧ H2 M = some (.lst [])) ⟨s0.new (s0.free hM) _, upd_same⟩ (fun i H2 _ hp => SqL.of (hp.1 _ _ hW)) ?_ ?_⟩
          · rintro i7 v H7 hv ⟨s7, m7⟩
            obtain ⟨v, hv1, rfl, _⟩ := getV hv
            have vs := hzs v (List.mem_of_getElem? hv1)
            have vt := hgt_size v
            simp only [cxOf_K, tAsg2, tYes, wipe, tSeq, tIfS, tNot, tB, tCB, tCons, tNil, tVar, tC, tTest, tOp, tAnd, tOr, tAsg, gName, tRet, tRetN, tDrop, tNext, tIf, tCall, tTup, tLst, tNotV, tAndV, tOrV, tUn, rI0, rI, rU, rEq, rNe, tM1, tM0, tBM, tBM0, tSl, tPart, tNoPart, iStr, iEnumS, iRng1, iRng2, iList, gSub, tBits, tAug, tPar, L2.start, List.map_cons, List.map_nil, List.length_cons, List.length_nil, List.getElem?_cons_zero, List.getElem?_cons_succ, List.cons_append, List.nil_append, List.append_nil, List.set_cons_zero, List.set_cons_succ, List.replicate_succ, List.replicate_zero, Option.some.injEq, exists_eq_left', V.int.injEq, V.str.injEq, V.ref.injEq, V.bl.injEq, exists_and_left, exists_eq_left, List.cons.injEq, and_true, true_and, tCallX, tRs]
            refine ⟨u, v, rfl, by omega, by omega, by omega, by omega, fun H8 s8 => ⟨true, rfl, ?_⟩⟩
            rw [if_neg (by decide)]
            exact ⟨s7.trans s8, s8 _ _ m7⟩
          · rintro H7 ⟨s7, m7⟩
            refine ⟨Nat.zero_le _, fun p9 hp9 => no_items (by rw [upd_ne (ne_of_none m7 hp9)]; exact m7) upd_same ⟨false, rfl, ?_⟩⟩
            rw [if_neg Bool.false_ne_true]
            exact ⟨_, _, ⟨rfl, rfl⟩, s7.new (s7.free hp9) _⟩
        · rintro σ H16 ⟨b8, b11, rfl, s16⟩
          have hk16 := s16 _ _ hk15
          have s16 := s15.trans s16
          clear s15 hk15 g15 hW hzs hzl
          generalize hTL : tSeq (tIfS (tTest (tOp (rNeD K) (tLc (iList K (tVar 12)) (gName 14) (tNot (tB (tCall (sp_law_caught T) [] E0 (tCons (tVar 3) (tCons (tVar 14) tNil))))) (tVar 14) [14]) (tLst tNil))) (tRet (tC (V.bl false))) tNext) (tIfS (tNot (tB (tCall (sp_law_refused T) [] E0 (tCons (tVar 3) tNil)))) (tRet (tC (V.bl false))) tNext) = TL
          have fin : ∀ (D9 : Ends) (hn : ∀ σ H', (∃ a1 a2 a3 a4 a5 a6 a7 a8 a9 a10 a11 a12 a13 a14, σ = [some (.ref a), a1, a2, a3, a4, a5, a6, a7, a8, a9, a10, a11, a12, a13, a14] ∧ Same H H') → D9.nx σ H') (y13 : Option V) (Wn : Addr) (L : List Row) (H9 : Hp), Rows K t H H9 L → H9 Wn = some (.lst (L.map (·.v))) → (∀ e ∈ L, e.m ≠ some Wn) →
              TL D9 [some (V.ref a), some (V.int ↑i), some (V.ref g), some (trV t), some (V.ref p), some (V.ref kp), some (trV full), some (V.ref D), b8, some (V.ref W), a10, b11, some (V.ref Wn), y13, a14] H9 := by
            intro D9 hn y13 Wn L H9 R hW hWn
            rw [← hTL]
            simp only [cxOf_K, tAsg2, tYes, wipe, tSeq, tIfS, tNot, tB, tCB, tCons, tNil, tVar, tC, tTest, tOp, tAnd, tOr, tAsg, gName, tRet, tRetN, tDrop, tNext, tIf, tCall, tTup, tLst, tNotV, tAndV, tOrV, tUn, rI0, rI, rU, rEq, rNe, tM1, tM0, tBM, tBM0, tSl, tPart, tNoPart, iStr, iEnumS, iRng1, iRng2, iList, gSub, tBits, tAug, tPar, L2.start, List.map_cons, List.map_nil, List.length_cons, List.length_nil, List.getElem?_cons_zero, List.getElem?_cons_succ, List.cons_append, List.nil_append, List.append_nil, List.set_cons_zero, List.set_cons_succ, List.replicate_succ, List.replicate_zero, Option.some.injEq, exists_eq_left', V.int.injEq, V.str.injEq, V.ref.injEq, V.bl.injEq, exists_and_left, exists_eq_left, List.cons.injEq, and_true, true_and, tCallX, tRs]
            have wl : ∀ (i : Nat) H2, After L i H9 H2 → H2 Wn = some (.lst (L.map (·.v))) := fun i H2 af => af _ _ (fun e he => hWn e (List.mem_of_mem_take he)) hW
            refine ⟨_, rfl, Wn, rfl, ⟨_, SqL.of hW⟩, fun M hM => lc_list (K := K) (a := Wn) (xs := L.map (·.v)) (fun i H2 => After L i H9 H2 ∧ H2 M = some (.lst [])) ⟨fun b o _ hb => by rw [upd_ne (ne_of_none hb hM)]; exact hb, upd_same⟩ (fun i H2 _ hp => SqL.of (wl i H2 hp.1)) ?_ ?_⟩
            · rintro i7 v H7 hv ⟨s7, m7⟩
              rw [List.getElem?_map, Option.map_eq_some_iff] at hv
              obtain ⟨r9, hr9, rfl⟩ := hv
              simp only [cxOf_K, tAsg2, tYes, wipe, tSeq, tIfS, tNot, tB, tCB, tCons, tNil, tVar, tC, tTest, tOp, tAnd, tOr, tAsg, gName, tRet, tRetN, tDrop, tNext, tIf, tCall, tTup, tLst, tNotV, tAndV, tOrV, tUn, rI0, rI, rU, rEq, rNe, tM1, tM0, tBM, tBM0, tSl, tPart, tNoPart, iStr, iEnumS, iRng1, iRng2, iList, gSub, tBits, tAug, tPar, L2.start, List.map_cons, List.map_nil, List.length_cons, List.length_nil, List.getElem?_cons_zero, List.getElem?_cons_succ, List.cons_append, List.nil_append, List.append_nil, List.set_cons_zero, List.set_cons_succ, List.replicate_succ, List.replicate_zero, Option.some.injEq, exists_eq_left', V.int.injEq, V.str.injEq, V.ref.injEq, V.bl.injEq, exists_and_left, exists_eq_left, List.cons.injEq, and_true, true_and, tCallX, tRs]
              obtain ⟨bd, ⟨d, gd⟩, kd⟩ := R.at hr9 s7
              have live := R.live r9 (List.mem_of_getElem? hr9)
              refine ⟨t, r9.v, d, rfl, by omega, bd, gd, ?_⟩
              rcases kd with nl | ⟨ga, ws, e1, e2, e3, e4⟩
              · refine .inl ⟨nl, fun H8 s8 => ⟨true, rfl, ?_⟩⟩
                rw [if_neg (by decide)]
                exact ⟨s7.same s8, s8 _ _ m7⟩
              · refine .inr ⟨ga, ws, e1, e3, e4, fun H8 k8 => ⟨true, rfl, ?_⟩⟩
                rw [if_neg (by decide)]
                exact ⟨s7.keep hr9 e2 k8, k8 _ _ (fun z => live ga (.inl e2) (by rw [← z]; exact hM)) m7⟩
            · rintro H7 ⟨s7, m7⟩
              rw [List.length_map] at s7
              refine ⟨Nat.zero_le _, fun p9 hp9 => no_items (by rw [upd_ne (ne_of_none m7 hp9)]; exact m7) upd_same ⟨false, rfl, ?_⟩⟩
              rw [if_neg Bool.false_ne_true]
              have sH : Same H H7 := fun b o hb => s7 b o (fun e he z => by
                have := R.free e (List.mem_of_mem_take he) b z
                rw [this] at hb
                cases hb) (R.base _ _ hb)
              refine ⟨t, rfl, by omega, fun H8 s8 => ⟨true, rfl, ?_⟩⟩
              rw [if_neg (by decide)]
              exact hn _ _ ⟨_, _, _, _, _, _, _, _, _, _, _, _, _, _, rfl, (sH.new (sH.free hp9) _).trans s8⟩
          simp only [cxOf_K, tAsg2, tYes, wipe, tSeq, tIfS, tNot, tB, tCB, tCons, tNil, tVar, tC, tTest, tOp, tAnd, tOr, tAsg, gName, tRet, tRetN, tDrop, tNext, tIf, tCall, tTup, tLst, tNotV, tAndV, tOrV, tUn, rI0, rI, rU, rEq, rNe, tM1, tM0, tBM, tBM0, tSl, tPart, tNoPart, iStr, iEnumS, iRng1, iRng2, iList, gSub, tBits, tAug, tPar, L2.start, List.map_cons, List.map_nil, List.length_cons, List.length_nil, List.getElem?_cons_zero, List.getElem?_cons_succ, List.cons_append, List.nil_append, List.append_nil, List.set_cons_zero, List.set_cons_succ, List.replicate_succ, List.replicate_zero, Option.some.injEq, exists_eq_left', V.int.injEq, V.str.injEq, V.ref.injEq, V.bl.injEq, exists_and_left, exists_eq_left, List.cons.injEq, and_true, true_and, tCallX, tRs]
          have hs60 : ∀ x ∈ xs, x.size ≤ 60 := fun x hx => Nat.le_trans (hs x hx) (by decide)
          have hd60 : ∀ n, ∀ x ∈ xs.drop n, x.size ≤ 60 := fun n x hx => hs60 x (List.mem_of_mem_drop hx)
          have ht60 : ∀ n, ∀ x ∈ xs.take n, x.size ≤ 60 := fun n x hx => hs60 x (List.mem_of_mem_take hx)
          have c46 : ∀ x ∈ [46], x < 0x110000 := by decide
          have R1 := (Rows.nil (K := K) (t := t) s16).add (r := ⟨.non, none, []⟩) (L2.Same.refl H16) (fun _ h => by cases h) (fun _ h => by cases h) (rowV (fun H' _ => ⟨_, .base .non, kit_ty (by decide +kernel)⟩) (fun H' _ => ⟨.none, .non, by decide +kernel, by decide +kernel, by decide +kernel⟩)) (fun b hb => by rcases hb with h | h <;> cases h)
          refine ⟨_, .inl ⟨SqL.of hk16, fun l nl => ?_⟩⟩
          have s17 := (L2.Same.refl H16).new nl (.tup (xs.map trV))
          have h17 : upd H16 l (.tup (xs.map trV)) l = some _ := upd_same
          generalize upd H16 l (.tup (xs.map trV)) = H17 at s17 h17 ⊢
          have R2 := R1.add (r := ⟨.ref l, none, [l]⟩) s17 (fun _ h => by cases h) (fun b hb => by rw [List.mem_singleton.mp hb]; exact nl) (rowV (fun H' a => ⟨_, .base (.tup (a l (List.mem_singleton.mpr rfl) _ h17)), kit_ty (by decide +kernel)⟩) (fun H' a => ⟨_, (itsT (c := false) xs hs60).goodT (a l (List.mem_singleton.mpr rfl) _ h17) (by rw [List.length_map]; omega) (fun z => by cases z)⟩)) (fun b hb => by
            rcases hb with h | h
            · cases h
            · rw [List.mem_singleton.mp h, h17]; exact Option.some_ne_none _)
          have hk17 := s17 _ _ hk16
          clear R1 h17
          refine ⟨by decide, fun p1 n1 => ?_⟩
          have s18 := (L2.Same.refl H17).new n1 (.lst [V.str (S [46])])
          have h18 : upd H17 p1 (.lst [V.str (S [46])]) p1 = some _ := upd_same
          generalize upd H17 p1 (.lst [V.str (S [46])]) = H18 at s18 h18 ⊢
          have hk18 := s18 _ _ hk17
          refine catStep (S := []) R2 s18 (fun _ h => by cases h) (fun _ h => by cases h) hk18 h18 (by simp; omega) (fun H' _ => ⟨⟨false, _, (itsT xs hs60).append (.cons (itS [46] c46 (by decide)) .nil), fun z => by cases z⟩, .inl (by simp; omega)⟩) (fun q3 H19 _ s19 R3 => ?_)
          have hk19 := s19 _ _ hk18
          clear R2 h18
          refine slStep (xs := xs) (zs := xs.drop 1) R3 hk19 (cut_from xs 1) (by simp; omega) (hd60 1) (by simp; omega) (fun q4 H20 _ s20 R4 => ?_)
          have hk20 := s20 _ _ hk19
          clear R3
          refine ⟨by decide, fun p2 n2 => ?_⟩
          have s21 := (L2.Same.refl H20).new n2 (.lst [V.non])
          have h21 : upd H20 p2 (.lst [V.non]) p2 = some _ := upd_same
          generalize upd H20 p2 (.lst [V.non]) = H21 at s21 h21 ⊢
          refine slWay (xs := xs) (zs := xs.drop 1) (s21 _ _ hk20) (cut_from xs 1) (fun y5 H22 _ s22 h22 => ?_)
          refine catStep (S := []) R4 (s21.trans s22) (fun _ h => by cases h) (fun _ h => by cases h) (s22 _ _ h21) h22 (by simp; omega) (fun H' _ => ⟨⟨false, _, .cons itNon (itsT _ (hd60 1)), fun z => by cases z⟩, .inr (.bad (.inr ⟨_, .base .non, kit_ty (by decide +kernel)⟩) (TN.trees _ (hd60 1)))⟩) (fun q5 H23 _ s23 R5 => ?_)
          have hk23 := s23 _ _ (s22 _ _ (s21 _ _ hk20))
          clear R4 h21 h22
          refine slWay (xs := xs) (zs := xs.take (xs.length - 1)) hk23 (cut_to xs 1 (by decide) (by omega)) (fun y6 H24 _ s24 h24 => ⟨by decide, fun p3 n3 => ?_⟩)
          have s25 := (L2.Same.refl H24).new n3 (.lst [V.str (Str.ofString "(.)")])
          have h25 : upd H24 p3 (.lst [V.str (Str.ofString "(.)")]) p3 = some _ := upd_same
          generalize upd H24 p3 (.lst [V.str (Str.ofString "(.)")]) = H25 at s25 h25 ⊢
          rw [show Str.ofString "(.)" = S [40, 46, 41] by decide +kernel] at h25
          refine catStep (S := []) R5 (s24.trans s25) (fun _ h => by cases h) (fun _ h => by cases h) (s25 _ _ h24) h25 (by simp; omega) (fun H' _ => ⟨⟨false, _, (itsT _ (ht60 _)).append (.cons (itS [40, 46, 41] (by decide) (by decide)) .nil), fun z => by cases z⟩, .inr ((TN.trees _ (ht60 _)).append (.bad (ntS _ (by decide) (by decide +kernel)) .nil))⟩) (fun q6 H26 _ s26 R6 => ?_)
          have hk26 := s26 _ _ (s25 _ _ (s24 _ _ hk23))
          clear R5 h24 h25
          have R7 := R6.add (r := ⟨.str (Str.ofString "x"), none, []⟩) (L2.Same.refl H26) (fun _ h => by cases h) (fun _ h => by cases h) (rowV (fun H' _ => ⟨_, .base (.str _), kit_ty (by decide +kernel)⟩) (fun H' _ => ⟨.str _, .str _, by decide +kernel, by decide +kernel, by decide +kernel⟩)) (fun b hb => by rcases hb with h | h <;> cases h)
          clear R6
          refine fun d8 nd8 => ?_
          have s27 := (L2.Same.refl H26).new nd8 (.dK [])
          have h27 : upd H26 d8 (.dK []) d8 = some _ := upd_same
          generalize upd H26 d8 (.dK []) = H27 at s27 h27 ⊢
          have R8 := R7.add (r := ⟨.ref d8, none, [d8]⟩) s27 (fun _ h => by cases h) (fun b hb => by rw [List.mem_singleton.mp hb]; exact nd8) (rowV (fun H' a => ⟨_, .base (.dK (a d8 (List.mem_singleton.mpr rfl) _ h27)), kit_ty (by decide +kernel)⟩) (fun H' a => ⟨.dict [], .dic (a d8 (List.mem_singleton.mpr rfl) _ h27) .nil, by decide +kernel, by decide +kernel, by decide +kernel⟩)) (fun b hb => by
            rcases hb with h | h
            · cases h
            · rw [List.mem_singleton.mp h, h27]; exact Option.some_ne_none _)
          have hk27 := s27 _ _ hk26
          clear R7 h27
          refine ⟨by decide, fun p4 n4 => ?_⟩
          have s28 := (L2.Same.refl H27).new n4 (.lst [V.non, V.ref l, V.ref q3, V.ref q4, V.ref q5, V.ref q6, V.str (Str.ofString "x"), V.ref d8])
          have h28 : upd H27 p4 (.lst [V.non, V.ref l, V.ref q3, V.ref q4, V.ref q5, V.ref q6, V.str (Str.ofString "x"), V.ref d8]) p4 = some _ := upd_same
          generalize upd H27 p4 _ = H28 at s28 h28 ⊢
          have R8 := R8.same s28
          have hk28 := s28 _ _ hk27
          refine ⟨by decide, fun p5 n5 => ?_⟩
          have s29 := (L2.Same.refl H28).new n5 (.lst [V.str (S [46])])
          have h29 : upd H28 p5 (.lst [V.str (S [46])]) p5 = some _ := upd_same
          generalize upd H28 p5 (.lst [V.str (S [46])]) = H29 at s29 h29 ⊢
          refine ⟨by decide, fun p6 n6 => ?_⟩
          have s30 := (L2.Same.refl H29).new n6 (.lst [V.ref p5])
          have h30 : upd H29 p6 (.lst [V.ref p5]) p6 = some _ := upd_same
          generalize upd H29 p6 (.lst [V.ref p5]) = H30 at s30 h30 ⊢
          refine slWay (xs := xs) (zs := xs.drop 1) (s30 _ _ (s29 _ _ hk28)) (cut_from xs 1) (fun y9 H31 _ s31 h31 => ?_)
          have k29 := s31 _ _ (s30 _ _ h29)
          refine catStep (S := [p5]) R8 (s29.trans (s30.trans s31)) (fun b hb => by rw [List.mem_singleton.mp hb]; exact n5) (fun b hb => by rw [List.mem_singleton.mp hb, k29]; exact Option.some_ne_none _) (s31 _ _ h30) h31 (by simp; omega) (fun H' a => ⟨⟨false, _, .cons (itLd (a p5 (List.mem_singleton.mpr rfl) _ k29)) (itsT _ (hd60 1)), fun z => by cases z⟩, .inr (.bad (.inr ⟨_, .base (.lst (a p5 (List.mem_singleton.mpr rfl) _ k29)), kit_ty (by decide +kernel)⟩) (TN.trees _ (hd60 1)))⟩) (fun q9 H32 _ s32 R9 => ?_)
          have hk32 := s32 _ _ (s31 _ _ (s30 _ _ (s29 _ _ hk28)))
          have s28w := s29.trans (s30.trans (s31.trans s32))
          clear R8 h29 h30 h31 k29
          refine slWay (xs := xs) (zs := xs.take (xs.length - 1)) hk32 (cut_to xs 1 (by decide) (by omega)) (fun y10 H33 _ s33 h33 => fun d10 nd10 => ?_)
          have s34 := (L2.Same.refl H33).new nd10 (.dK [])
          have h34 : upd H33 d10 (.dK []) d10 = some _ := upd_same
          generalize upd H33 d10 (.dK []) = H34 at s34 h34 ⊢
          refine ⟨by decide, fun p7 n7 => ?_⟩
          have s35 := (L2.Same.refl H34).new n7 (.lst [V.ref d10])
          have h35 : upd H34 p7 (.lst [V.ref d10]) p7 = some _ := upd_same
          generalize upd H34 p7 (.lst [V.ref d10]) = H35 at s35 h35 ⊢
          have k34 := s35 _ _ h34
          refine catStep (S := [d10]) R9 (s33.trans (s34.trans s35)) (fun b hb => by rw [List.mem_singleton.mp hb]; exact s33.free nd10) (fun b hb => by rw [List.mem_singleton.mp hb, k34]; exact Option.some_ne_none _) (s35 _ _ (s34 _ _ h33)) h35 (by simp; omega) (fun H' a => ⟨⟨true, _, (itsT _ (ht60 _)).append (.cons (itDic (a d10 (List.mem_singleton.mpr rfl) _ k34)) .nil), fun _ => hasDict_last _⟩, .inr ((TN.trees _ (ht60 _)).append (.bad (.inr ⟨_, .base (.dK (a d10 (List.mem_singleton.mpr rfl) _ k34)), kit_ty (by decide +kernel)⟩) .nil))⟩) (fun q10 H36 _ s36 R10 => ?_)
          have hk36 := s36 _ _ (s35 _ _ (s34 _ _ (s33 _ _ hk32)))
          have s28w := s28w.trans (s33.trans (s34.trans (s35.trans s36)))
          clear R9 h33 h34 h35 k34
          refine slWay (xs := xs) (zs := xs.take (xs.length - 1)) hk36 (cut_to xs 1 (by decide) (by omega)) (fun y11 H37 _ s37 h37 => ⟨by decide, fun t11 nt11 => ?_⟩)
          have s38 := (L2.Same.refl H37).new nt11 (.tup [V.str (S [46])])
          have h38 : upd H37 t11 (.tup [V.str (S [46])]) t11 = some _ := upd_same
          generalize upd H37 t11 (.tup [V.str (S [46])]) = H38 at s38 h38 ⊢
          refine ⟨by decide, fun p8 n8 => ?_⟩
          have s39 := (L2.Same.refl H38).new n8 (.lst [V.ref t11])
          have h39 : upd H38 p8 (.lst [V.ref t11]) p8 = some _ := upd_same
          generalize upd H38 p8 (.lst [V.ref t11]) = H39 at s39 h39 ⊢
          have k38 := s39 _ _ h38
          refine catStep (S := [t11]) R10 (s37.trans (s38.trans s39)) (fun b hb => by rw [List.mem_singleton.mp hb]; exact s37.free nt11) (fun b hb => by rw [List.mem_singleton.mp hb, k38]; exact Option.some_ne_none _) (s39 _ _ (s38 _ _ h37)) h39 (by simp; omega) (fun H' a => ⟨⟨false, _, (itsT _ (ht60 _)).append (.cons (itTd (a t11 (List.mem_singleton.mpr rfl) _ k38)) .nil), fun z => by cases z⟩, .inr ((TN.trees _ (ht60 _)).append (.bad (.inr ⟨_, .base (.tup (a t11 (List.mem_singleton.mpr rfl) _ k38)), kit_ty (by decide +kernel)⟩) .nil))⟩) (fun q11 H40 _ s40 R11 => ?_)
          have hk40 := s40 _ _ (s39 _ _ (s38 _ _ (s37 _ _ hk36)))
          have s28w := s28w.trans (s37.trans (s38.trans (s39.trans s40)))
          clear R10 h37 h38 h39 k38
          refine slWay (xs := xs) (zs := xs.take (xs.length - 1)) hk40 (cut_to xs 1 (by decide) (by omega)) (fun y12 H41 _ s41 h41 => ⟨by decide, fun p9 n9 => ?_⟩)
          have s42 := (L2.Same.refl H41).new n9 (.lst [V.bl true])
          have h42 : upd H41 p9 (.lst [V.bl true]) p9 = some _ := upd_same
          generalize upd H41 p9 (.lst [V.bl true]) = H42 at s42 h42 ⊢
          refine catStep (S := []) R11 (s41.trans s42) (fun _ h => by cases h) (fun _ h => by cases h) (s42 _ _ h41) h42 (by simp; omega) (fun H' a => ⟨⟨false, _, (itsT _ (ht60 _)).append (.cons (itBl true) .nil), fun z => by cases z⟩, .inr ((TN.trees _ (ht60 _)).append (.bad (.inr ⟨_, .base (.bl _), kit_ty (by decide +kernel)⟩) .nil))⟩) (fun q12 H43 _ s43 R12 => ?_)
          have hk43 := s43 _ _ (s42 _ _ (s41 _ _ hk40))
          have s28w := s28w.trans (s41.trans (s42.trans s43))
          clear R11 h41 h42
          refine ⟨by decide, fun p10 n10 => ?_⟩
          have s44 := (L2.Same.refl H43).new n10 (.lst [V.ref q9, V.ref q10, V.ref q11, V.ref q12])
          have h44 : upd H43 p10 (.lst [V.ref q9, V.ref q10, V.ref q11, V.ref q12]) p10 = some _ := upd_same
          generalize upd H43 p10 (.lst [V.ref q9, V.ref q10, V.ref q11, V.ref q12]) = H44 at s44 h44 ⊢
          refine ⟨p4, p10, _, _, rfl, rfl, s44 _ _ (s28w _ _ h28), h44, small5 (show 12 ≤ 16000000 by decide), fun W2 nW2 _ => ?_⟩
          have s45 := (L2.Same.refl H44).new nW2 (.lst ([V.non, V.ref l, V.ref q3, V.ref q4, V.ref q5, V.ref q6, V.str (Str.ofString "x"), V.ref d8] ++ [V.ref q9, V.ref q10, V.ref q11, V.ref q12]))
          have h45 : upd H44 W2 (.lst ([V.non, V.ref l, V.ref q3, V.ref q4, V.ref q5, V.ref q6, V.str (Str.ofString "x"), V.ref d8] ++ [V.ref q9, V.ref q10, V.ref q11, V.ref q12])) W2 = some _ := upd_same
          generalize upd H44 W2 _ = H45 at s45 h45 ⊢
          have hne : ∀ e ∈ [] ++ [Row.mk .non none []] ++ [Row.mk (.ref l) none [l]] ++ [Row.mk (.ref q3) (some q3) [q3]] ++ [Row.mk (.ref q4) (some q4) [q4]] ++ [Row.mk (.ref q5) (some q5) [q5]] ++ [Row.mk (.ref q6) (some q6) [q6]] ++ [Row.mk (.str (Str.ofString "x")) none []] ++ [Row.mk (.ref d8) none [d8]] ++ [Row.mk (.ref q9) (some q9) [q9, p5]] ++ [Row.mk (.ref q10) (some q10) [q10, d10]] ++ [Row.mk (.ref q11) (some q11) [q11, t11]] ++ [Row.mk (.ref q12) (some q12) [q12]], e.m ≠ some W2 := fun e he z => (R12.same s44).live e he W2 (.inl z) nW2
          have R12 := R12.same (s44.trans s45)
          have hk45 := s45 _ _ (s44 _ _ hk43)
          have s45 : Same H H45 := s16.trans (s17.trans (s18.trans (s19.trans (s20.trans (s21.trans (s22.trans (s23.trans (s24.trans (s25.trans (s26.trans (s27.trans (s28.trans (s28w.trans (s44.trans s45))))))))))))))
          obtain ⟨L, hL, eL, hne, h45⟩ : ∃ L : List Row, Rows K t H H45 L ∧ L.length = 12 ∧ (∀ e ∈ L, e.m ≠ some W2) ∧ H45 W2 = some (.lst (L.map (·.v))) := ⟨_, R12, rfl, hne, h45⟩
          clear R12 h44 h28 hk43 hk40 hk36 hk32 hk28 hk27 hk26 hk23 hk20 hk19 hk18 hk17 hk16 s44 s28w s28 s27 s26 s25 s24 s23 s22 s21 s20 s19 s18 s17 s16
          refine ⟨_, .inl (SqL.of hk45), ?_⟩
          by_cases h2 : 1 < xs.length
          · rw [if_pos (by simp; omega)]
            obtain ⟨x0, hx0⟩ : ∃ x0, xs[0]? = some x0 := ⟨_, List.getElem?_eq_getElem (by omega)⟩
            obtain ⟨x1, hx1⟩ : ∃ x1, xs[1]? = some x1 := ⟨_, List.getElem?_eq_getElem (by omega)⟩
            obtain ⟨xm, hxm⟩ : ∃ xm, xs[xs.length - 2]? = some xm := ⟨_, List.getElem?_eq_getElem (by omega)⟩
            obtain ⟨xn, hxn⟩ : ∃ xn, xs[xs.length - 1]? = some xn := ⟨_, List.getElem?_eq_getElem (by omega)⟩
            have z0 := hs x0 (List.mem_of_getElem? hx0)
            have z1 := hs x1 (List.mem_of_getElem? hx1)
            have zm := hs xm (List.mem_of_getElem? hxm)
            have zn := hs xn (List.mem_of_getElem? hxn)
            have c0 : x0.cs.length = 3 * x0.size + 1 := by rw [Tr.cs_length, Tr.len_size]
            have c1 : x1.cs.length = 3 * x1.size + 1 := by rw [Tr.cs_length, Tr.len_size]
            have cm : xm.cs.length = 3 * xm.size + 1 := by rw [Tr.cs_length, Tr.len_size]
            have cn : xn.cs.length = 3 * xn.size + 1 := by rw [Tr.cs_length, Tr.len_size]
            have two : ∀ x ∈ x0.cs ++ x1.cs, x < 0x110000 := fun x hx => (List.mem_append.mp hx).elim (csLt x0 x) (csLt x1 x)
            have gt : ∀ (k : Nat) (x : Tr), xs[k]? = some x → (xs.map trV)[k]? = some (trV x) := fun k x h => by rw [List.getElem?_map, h]; rfl
            refine ⟨kp, _, 0, _, rfl, rfl, SqL.of hk45, atN (k := 0) (gt 0 x0 hx0), ⟨kp, _, 1, _, rfl, rfl, SqL.of hk45, atN (k := 1) (gt 1 x1 hx1), _, rfl, _, rfl, ?_⟩⟩
            rw [S_app, S_len, S_len]
            refine ⟨small5 (by omega), by decide, fun p12 n12 => ?_⟩
            rw [show Str.ofString "" = S [] by decide +kernel]
            have s46 := (L2.Same.refl H45).new n12 (.lst [V.str (S []), V.str (S [])])
            have h46 : upd H45 p12 (.lst [V.str (S []), V.str (S [])]) p12 = some _ := upd_same
            generalize upd H45 p12 (.lst [V.str (S []), V.str (S [])]) = H46 at s46 h46 ⊢
            refine slWay (xs := xs) (zs := xs.drop 2) (s46 _ _ hk45) (cut_from xs 2) (fun y13 H47 _ s47 h47 => ?_)
            refine catStep (S := []) hL (s46.trans s47) (fun _ h => by cases h) (fun _ h => by cases h) (s47 _ _ h46) h47 (by simp; omega) (fun H' _ => ⟨⟨false, _, .cons (itS [] (by decide) (by decide)) (.cons (itS [] (by decide) (by decide)) (itsT _ (hd60 2))), fun z => by cases z⟩, .inr (.bad (ntS [] (by decide) (by decide +kernel)) (.bad (ntS [] (by decide) (by decide +kernel)) (TN.trees _ (hd60 2))))⟩) (fun q13 H48 _ s48 R13 => ?_)
            have hk48 := s48 _ _ (s47 _ _ (s46 _ _ hk45))
            have h45 := s48 _ _ (s47 _ _ (s46 _ _ h45))
            have s48 := s45.trans (s46.trans (s47.trans s48))
            clear h46 h47 s47 s46 s45 hk45 hL
            refine ⟨by decide, fun p13 n13 => ?_⟩
            have s49 := (L2.Same.refl H48).new n13 (.lst [V.str (S []), V.str (S (x0.cs ++ x1.cs))])
            have h49 : upd H48 p13 (.lst [V.str (S []), V.str (S (x0.cs ++ x1.cs))]) p13 = some _ := upd_same
            generalize upd H48 p13 (.lst [V.str (S []), V.str (S (x0.cs ++ x1.cs))]) = H49 at s49 h49 ⊢
            refine slWay (xs := xs) (zs := xs.drop 2) (s49 _ _ hk48) (cut_from xs 2) (fun y14 H50 _ s50 h50 => ?_)
            refine catStep (S := []) R13 (s49.trans s50) (fun _ h => by cases h) (fun _ h => by cases h) (s50 _ _ h49) h50 (by simp; omega) (fun H' _ => ⟨⟨false, _, .cons (itS [] (by decide) (by decide)) (.cons (itS _ two (by rw [List.length_append]; omega)) (itsT _ (hd60 2))), fun z => by cases z⟩, .inr (.bad (ntS [] (by decide) (by decide +kernel)) (.bad (ntS _ (by rw [List.length_append]; omega) (isT_two x0 x1)) (TN.trees _ (hd60 2))))⟩) (fun q14 H51 _ s51 R14 => ?_)
            have hk51 := s51 _ _ (s50 _ _ (s49 _ _ hk48))
            have h45 := s51 _ _ (s50 _ _ (s49 _ _ h45))
            have s51 := s48.trans (s49.trans (s50.trans s51))
            clear h49 h50 s50 s49 s48 hk48 R13
            refine ⟨by decide, fun p14 n14 => ?_⟩
            have s52 := (L2.Same.refl H51).new n14 (.lst [V.str (S (x0.cs ++ x1.cs)), V.str (S [])])
            have h52 : upd H51 p14 (.lst [V.str (S (x0.cs ++ x1.cs)), V.str (S [])]) p14 = some _ := upd_same
            generalize upd H51 p14 (.lst [V.str (S (x0.cs ++ x1.cs)), V.str (S [])]) = H52 at s52 h52 ⊢
            refine slWay (xs := xs) (zs := xs.drop 2) (s52 _ _ hk51) (cut_from xs 2) (fun y15 H53 _ s53 h53 => ?_)
            refine catStep (S := []) R14 (s52.trans s53) (fun _ h => by cases h) (fun _ h => by cases h) (s53 _ _ h52) h53 (by simp; omega) (fun H' _ => ⟨⟨false, _, .cons (itS _ two (by rw [List.length_append]; omega)) (.cons (itS [] (by decide) (by decide)) (itsT _ (hd60 2))), fun z => by cases z⟩, .inr (.bad (ntS _ (by rw [List.length_append]; omega) (isT_two x0 x1)) (.bad (ntS [] (by decide) (by decide +kernel)) (TN.trees _ (hd60 2))))⟩) (fun q15 H54 _ s54 R15 => ?_)
            have hk54 := s54 _ _ (s53 _ _ (s52 _ _ hk51))
            have h45 := s54 _ _ (s53 _ _ (s52 _ _ h45))
            have s54 := s51.trans (s52.trans (s53.trans s54))
            clear h52 h53 s53 s52 s51 hk51 R14
            refine ⟨by decide, fun p15 n15 => ?_⟩
            have s55 := (L2.Same.refl H54).new n15 (.lst [V.ref q13, V.ref q14, V.ref q15])
            have h55 : upd H54 p15 (.lst [V.ref q13, V.ref q14, V.ref q15]) p15 = some _ := upd_same
            generalize upd H54 p15 (.lst [V.ref q13, V.ref q14, V.ref q15]) = H55 at s55 h55 ⊢
            refine ⟨W2, p15, _, _, rfl, rfl, s55 _ _ h45, h55, small5 (by simp; omega), fun W3 nW3 _ => ?_⟩
            have R15 := R15.same s55
            have hne : ∀ r ∈ L ++ [Row.mk (.ref q13) (some q13) [q13]] ++ [Row.mk (.ref q14) (some q14) [q14]] ++ [Row.mk (.ref q15) (some q15) [q15]], ∀ b, r.m = some b ∨ b ∈ r.S → b ≠ W3 := fun r hr b hb z => R15.live r hr b hb (by rw [z]; exact nW3)
            have s56 := (L2.Same.refl H55).new nW3 (.lst (L.map (·.v) ++ [V.ref q13, V.ref q14, V.ref q15]))
            have h56 : upd H55 W3 (.lst (L.map (·.v) ++ [V.ref q13, V.ref q14, V.ref q15])) W3 = some _ := upd_same
            generalize upd H55 W3 (.lst (L.map (·.v) ++ [V.ref q13, V.ref q14, V.ref q15])) = H56 at s56 h56 ⊢
            have hW3 : H W3 = none := (s54.trans s55).free nW3
            have R15 := R15.same s56
            have hk56 := s56 _ _ (s55 _ _ hk54)
            have s56 := s54.trans (s55.trans s56)
            clear s55 s54 h45 h55 hk54
            refine ⟨tyV_lst h56, ?_⟩
            refine slWay (xs := xs) (zs := xs.take (xs.length - 2)) hk56 (cut_to xs 2 (by decide) (by omega)) (fun y16 H57 _ s57 h57 => ?_)
            have hk57 := s57 _ _ hk56
            have m2 : atI (xs.map trV) (-2) = some (trV xm) := atM (k := 2) (by decide) (by rw [List.length_map]; omega) (by rw [List.length_map]; exact gt _ xm hxm)
            have m1 : atI (xs.map trV) (-1) = some (trV xn) := atM (k := 1) (by decide) (by rw [List.length_map]; omega) (by rw [List.length_map]; exact gt _ xn hxn)
            refine ⟨kp, _, -2, _, rfl, rfl, SqL.of hk57, m2, ⟨_, rfl, by rw [S_len]; exact small5 (by omega), ⟨kp, _, -2, _, rfl, rfl, SqL.of hk57, m2, ⟨_, rfl, by rw [S_len]; exact small5 (by omega), ⟨kp, _, -1, _, rfl, rfl, SqL.of hk57, m1, _, rfl, _, rfl, ?_⟩⟩⟩⟩⟩
            obtain ⟨c, hc, hc2⟩ := cs_last xm
            rw [cutS_less _ (by omega), cutS_last _ (by omega), hc, S_app]
            have lless : xm.cs.dropLast.length ≤ 300 := by rw [List.length_dropLast]; omega
            have lmore : ([c] ++ xn.cs).length ≤ 300 := by rw [List.length_append, List.length_singleton]; omega
            have kless : ∀ x ∈ xm.cs.dropLast, x < 0x110000 := fun x hx => csLt xm x ((List.dropLast_sublist _).subset hx)
            have kmore : ∀ x ∈ [c] ++ xn.cs, x < 0x110000 := fun x hx => by
              rcases List.mem_append.mp hx with h | h
              · rw [List.mem_singleton.mp h]
                rcases hc2 with rfl | rfl <;> decide
              · exact csLt xn x h
            refine ⟨by rw [S_len, S_len, List.length_singleton]; exact small5 (by omega), by decide, fun p16 n16 => ?_⟩
            have s58 := (L2.Same.refl H57).new n16 (.lst [V.str (S xm.cs.dropLast), V.str (S ([c] ++ xn.cs))])
            have h58 : upd H57 p16 (.lst [V.str (S xm.cs.dropLast), V.str (S ([c] ++ xn.cs))]) p16 = some _ := upd_same
            generalize upd H57 p16 (.lst [V.str (S xm.cs.dropLast), V.str (S ([c] ++ xn.cs))]) = H58 at s58 h58 ⊢
            refine catStep (S := []) R15 (s57.trans s58) (fun _ h => by cases h) (fun _ h => by cases h) (s58 _ _ h57) h58 (by simp; omega) (fun H' _ => ⟨⟨false, _, (itsT _ (ht60 _)).append (.cons (itS _ kless lless) (.cons (itS _ kmore lmore) .nil)), fun z => by cases z⟩, .inr ((TN.trees _ (ht60 _)).append (.bad (ntS _ lless (isT_less xm)) (.bad (ntS _ lmore (isT_more c hc2 xn)) .nil)))⟩) (fun q16 H59 nq s59 R16 => ?_)
            have h59 := s59 _ _ (s58 _ _ (s57 _ _ h56))
            have s59' := s56.trans (s57.trans (s58.trans s59))
            have nq16 : q16 ≠ W3 := fun z => by
              have := s58 _ _ (s57 _ _ h56)
              rw [← z, nq] at this
              cases this
            refine ⟨W3, _, _, rfl, rfl, h59, small5' (by simp; omega), ?_⟩
            have k60 : Keep W3 H59 (upd H59 W3 (.lst (L.map (·.v) ++ [V.ref q13, V.ref q14, V.ref q15] ++ [V.ref q16]))) := fun b o nb hb => by rw [upd_ne nb]; exact hb
            have hne16 : ∀ r ∈ L ++ [Row.mk (.ref q13) (some q13) [q13]] ++ [Row.mk (.ref q14) (some q14) [q14]] ++ [Row.mk (.ref q15) (some q15) [q15]] ++ [Row.mk (.ref q16) (some q16) [q16]], ∀ b, r.m = some b ∨ b ∈ r.S → b ≠ W3 := fun r hr b hb => by
              rcases List.mem_append.mp hr with hr | hr
              · exact hne r hr b hb
              · rw [List.mem_singleton.mp hr] at hb
                rcases hb with hb | hb
                · rw [← Option.some.inj hb]; exact nq16
                · rw [List.mem_singleton.mp hb]; exact nq16
            have R17 := R16.keep k60 hW3 hne16
            refine fin _ (fun _ _ h => h) _ W3 _ _ R17 ?_ (fun e he z => hne16 e he W3 (.inl z) rfl)
            rw [upd_same]
            simp
          · rw [if_neg (by simp; omega)]
            exact fin _ (fun _ _ h => h) _ W2 L H45 hL h45 hne
  · rintro σ H1 ⟨a1, a2, a3, a4, a5, a6, a7, a8, a9, a10, a11, a12, a13, a14, rfl, s1⟩
    simp only [cxOf_K, tAsg2, tYes, wipe, tSeq, tIfS, tNot, tB, tCB, tCons, tNil, tVar, tC, tTest, tOp, tAnd, tOr, tAsg, gName, tRet, tRetN, tDrop, tNext, tIf, tCall, tTup, tLst, tNotV, tAndV, tOrV, tUn, rI0, rI, rU, rEq, rNe, tM1, tM0, tBM, tBM0, tSl, tPart, tNoPart, iStr, iEnumS, iRng1, iRng2, iList, gSub, tBits, tAug, tPar, L2.start, List.map_cons, List.map_nil, List.length_cons, List.length_nil, List.getElem?_cons_zero, List.getElem?_cons_succ, List.cons_append, List.nil_append, List.append_nil, List.set_cons_zero, List.set_cons_succ, List.replicate_succ, List.replicate_zero, Option.some.injEq, exists_eq_left', V.int.injEq, V.str.injEq, V.ref.injEq, V.bl.injEq, exists_and_left, exists_eq_left, List.cons.injEq, and_true, true_and, tCallX, tRs]
    refine ⟨a, ns, 9, rfl, s1.seq ha, fun g H2 hg s2 g2 => ⟨g, _, rfl, g2, by decide, fun H3 => q H3⟩⟩

/-! ### what the classes must say -/
section
variable {K : PySem.W.Frag} {mg : Str → Option Value} {h : Heap} {C : Addr} {bm : List Value} {nm q : Str} {N : Addr} {bs : List Value} {sn : List Str} {sub : List Value} {ab : Bool} {col : Option Bool} {dd : Option Addr} {k0 k1 k2 k3 k5 : Option Value}
theorem cls_mk (l : K.lookup C = some (excClassObj nm q C N bs bm true sn sub ab col dd k0 k1 k2 k3 k5 "ValueError.__new__")) (r : PySem.HandSPX.refsVE bm = true) (ga : PySem.W.findIn K (.ref C) "__getattribute__" = some (some (.builtin "BaseException.__getattribute__"))) (gg : PySem.W.findIn K (.ref C) "__getattr__" = some none)
    (ha : PySem.W.findIn K (.ref C) "__class__" = some (some (.builtin "object.__class__"))) (hn : PySem.W.specialIn K (.builtin "object.__class__") "__get__" = some (some (.builtin "getset_descriptor.__get__"))) (ht : PySem.W.takesIn K (.builtin "object.__class__") = some true) :
    ErrC K C (.ref C :: bm) ∧ XfC K C := by
  have c : PySem.W.clsIn K C = some { name := nm, bases := bs, mro := .ref C :: bm, ns := N, qualname := q, hasDict := true, slotNames := sn, subclasses := sub, abstract := ab, collection := col, hasDel := false } := by unfold PySem.W.clsIn; rw [l] <;> rfl
  have sub : ∀ Y : String, PySem.HandSPX.veTail.contains (.type Y) = true → PySem.W.mroIn K C (.type Y) = some true := fun Y z => by
    unfold PySem.W.mroIn
    rw [c, Option.bind_some, List.contains_cons, PySem.HandSPX.refsVE_contains Y bm r, z, Bool.or_true]
    rfl
  have hd : PySem.W.hasDictIn K C = true := by unfold PySem.W.hasDictIn; rw [c]; rfl
  have sb : PySem.W.subIn K (.ref C) (.type "BaseException") = some true := sub "BaseException" (by decide +kernel)
  have ty : PySem.W.typeIn K (.ref C) = some (.type "type") := by show (K.lookup C).map (·.cls) = _; rw [l] <;> rfl
  exact ⟨⟨by rw [c]; rfl, ty, ⟨ga, gg, sb, hd, ha, hn, ht, sub "object" (by decide +kernel)⟩⟩, ⟨ga, gg, sb, hd⟩⟩
theorem oex_mk (l : K.lookup C = some (excClassObj nm q C N bs bm true sn sub ab col dd k0 k1 k2 k3 k5 "ValueError.__new__")) (r : PySem.HandSPX.refsVE bm = true) (sa : PySem.W.findIn K (.ref C) "__setattr__" = some (some (.builtin "object.__setattr__"))) (kC : PySem.W.keepIn K (.ref C) = true)
    (e : ErrC K C (.ref C :: bm)) : OexC K C := ⟨⟨_, _, _, _, _, _, _, _, _, _, _, _, _, _, _, l, r⟩, sa, e.ec.hs, e.ty, kC⟩
variable {st : Stmt} {fI TT0 : Addr} {od td : Option Addr} {kV doc pm cdv ct tc : Value} {an : Option Addr} {osl ts : Array (Option Value)} {n : Nat} {qual : Str}
theorem fund_mk (l : K.lookup fI = some ⟨.type "function", od, .func (PySem.W.fnOf "__init__" qual (defArgs st) (defBody st) (defScope st) (.ref TT0) kV doc pm an cdv ct), osl⟩) (c : PySem.W.codeIn K cdv qual = true) (lT : K.lookup TT0 = some ⟨tc, td, .seq #[.none] n, ts⟩) :
    FunD K "__init__" qual (defArgs st) (defBody st) (defScope st) [.non] [] fI (PySem.W.fnOf "__init__" qual (defArgs st) (defBody st) (defScope st) (.ref TT0) kV doc pm an cdv ct) :=
  ⟨⟨_, od, _, kV, doc, pm, an, cdv, ct, osl, rfl, l, c, .inr ⟨by simp, TT0, _, [.none], n, rfl, lT, rfl, .cons rfl .nil⟩, .inl rfl⟩, by unfold PySem.W.keepIn; dsimp only; rw [l] <;> rfl⟩
theorem fty (l : K.lookup fI = some ⟨.type "function", od, .func (PySem.W.fnOf "__init__" qual (defArgs st) (defBody st) (defScope st) (.ref TT0) kV doc pm an cdv ct), osl⟩) : PySem.W.typeIn K (.ref fI) = some (.type "function") := by
  show (K.lookup fI).map (·.cls) = _
  rw [l] <;> rfl
end

theorem own_InvalidTree {h : Heap} {C fI : Addr} {fd : FuncData} (X : K.In h) (G : h.Ns mainGlobals mg) (m : PySem.W.nsIn K mainGlobals "InvalidTree" = some (some (.ref C))) (ox : OexC K C) (no : PySem.W.findIn K (.ref C) "value" = some none)
    (iC : PySem.W.findIn K (.ref C) "__init__" = some (some (.ref fI))) (tI : PySem.W.typeIn K (.ref fI) = some (.type "function")) (F : FunD K "__init__" "InvalidTree.__init__" (defArgs i_InvalidTree) (defBody i_InvalidTree) (defScope i_InvalidTree) [.non] [] fI fd) : OwnE K mg "InvalidTree" C "value" "value" := by
  refine ⟨PySem.W.mg_of X G m, ox, fI, fd, iC, tI, F.binds1 1 0 (by simp) rfl (fun _ _ _ _ _ _ _ us its h1 h2 => match us, its, h1, h2 with | [_], [_], _, _ => ⟨_, rfl, rfl⟩), ?_, kbinds1 F (by simp) (fun _ _ _ _ _ _ _ us its ws h1 h2 h3 => match us, its, ws, h1, h2, h3 with | [_], [_], [_], _, _, _ => ⟨_, rfl, rfl⟩), fun P w base => ?_⟩
  · obtain ⟨ds, hd, b⟩ := F.binds1 (ps := ["self", "value"]) 2 1 (by simp) rfl (fun _ _ _ _ _ _ _ us its h1 h2 => match us, its, h1, h2 with | [_, _], [_], _, _ => ⟨_, rfl, rfl⟩)
    cases hd
    exact b
  · refine FunD.ok F si_InvalidTree (fun vs H Q E h => ?_) (fun cdv A outer s H vs Q E hr h => ?_)
    · obtain ⟨a, y, rfl, _⟩ := h; rfl
    obtain ⟨a, y, rfl, ha, q⟩ := h
    refine ⟨_, pss_one (ps_ost (pv 0) (pv 1)), ?_⟩
    simp only [tOst, cxOf_K, tAsg2, tYes, wipe, tSeq, tIfS, tNot, tB, tCB, tCons, tNil, tVar, tC, tTest, tOp, tAnd, tOr, tAsg, gName, tRet, tRetN, tDrop, tNext, tIf, tCall, tTup, tLst, tNotV, tAndV, tOrV, tUn, rI0, rI, rU, rEq, rNe, tM1, tM0, tBM, tBM0, tSl, tPart, tNoPart, iStr, iEnumS, iRng1, iRng2, iList, gSub, tBits, tAug, tPar, L2.start, List.map_cons, List.map_nil, List.length_cons, List.length_nil, List.getElem?_cons_zero, List.getElem?_cons_succ, List.cons_append, List.nil_append, List.append_nil, List.set_cons_zero, List.set_cons_succ, List.replicate_succ, List.replicate_zero, Option.some.injEq, exists_eq_left', V.int.injEq, V.str.injEq, V.ref.injEq, V.bl.injEq, exists_and_left, exists_eq_left, List.cons.injEq, and_true, true_and]
    exact ⟨C, ox, no, .inl ⟨ha, q⟩⟩

theorem own_InvalidList {h : Heap} {C fI : Addr} {fd : FuncData} (X : K.In h) (G : h.Ns mainGlobals mg) (m : PySem.W.nsIn K mainGlobals "InvalidList" = some (some (.ref C))) (ox : OexC K C) (no : PySem.W.findIn K (.ref C) "value" = some none)
    (iC : PySem.W.findIn K (.ref C) "__init__" = some (some (.ref fI))) (tI : PySem.W.typeIn K (.ref fI) = some (.type "function")) (F : FunD K "__init__" "InvalidList.__init__" (defArgs i_InvalidList) (defBody i_InvalidList) (defScope i_InvalidList) [.non] [] fI fd) : OwnE K mg "InvalidList" C "value" "value" := by
  refine ⟨PySem.W.mg_of X G m, ox, fI, fd, iC, tI, F.binds1 1 0 (by simp) rfl (fun _ _ _ _ _ _ _ us its h1 h2 => match us, its, h1, h2 with | [_], [_], _, _ => ⟨_, rfl, rfl⟩), ?_, kbinds1 F (by simp) (fun _ _ _ _ _ _ _ us its ws h1 h2 h3 => match us, its, ws, h1, h2, h3 with | [_], [_], [_], _, _, _ => ⟨_, rfl, rfl⟩), fun P w base => ?_⟩
  · obtain ⟨ds, hd, b⟩ := F.binds1 (ps := ["self", "value"]) 2 1 (by simp) rfl (fun _ _ _ _ _ _ _ us its h1 h2 => match us, its, h1, h2 with | [_, _], [_], _, _ => ⟨_, rfl, rfl⟩)
    cases hd
    exact b
  · refine FunD.ok F si_InvalidList (fun vs H Q E h => ?_) (fun cdv A outer s H vs Q E hr h => ?_)
    · obtain ⟨a, y, rfl, _⟩ := h; rfl
    obtain ⟨a, y, rfl, ha, q⟩ := h
    refine ⟨_, pss_one (ps_ost (pv 0) (pv 1)), ?_⟩
    simp only [tOst, cxOf_K, tAsg2, tYes, wipe, tSeq, tIfS, tNot, tB, tCB, tCons, tNil, tVar, tC, tTest, tOp, tAnd, tOr, tAsg, gName, tRet, tRetN, tDrop, tNext, tIf, tCall, tTup, tLst, tNotV, tAndV, tOrV, tUn, rI0, rI, rU, rEq, rNe, tM1, tM0, tBM, tBM0, tSl, tPart, tNoPart, iStr, iEnumS, iRng1, iRng2, iList, gSub, tBits, tAug, tPar, L2.start, List.map_cons, List.map_nil, List.length_cons, List.length_nil, List.getElem?_cons_zero, List.getElem?_cons_succ, List.cons_append, List.nil_append, List.append_nil, List.set_cons_zero, List.set_cons_succ, List.replicate_succ, List.replicate_zero, Option.some.injEq, exists_eq_left', V.int.injEq, V.str.injEq, V.ref.injEq, V.bl.injEq, exists_and_left, exists_eq_left, List.cons.injEq, and_true, true_and]
    exact ⟨C, ox, no, .inl ⟨ha, q⟩⟩

end
theorem all_mk {l : PySem.W.OpenLaw} {w : World} {K : PySem.W.Frag} {h : Heap} {mg : Str → Option Value} {fa : Addr} (X : K.In h) (G : h.Ns mainGlobals mg) (hfa : mg "law" = some (.ref fa))
    (hn : PySem.W.specialIn K (.builtin "object.__class__") "__get__" = some (some (.builtin "getset_descriptor.__get__"))) (ht : PySem.W.takesIn K (.builtin "object.__class__") = some true)
    {C_TurnError : Addr}
    {nm_TurnError q_TurnError : Str} {N_TurnError : Addr} {bs_TurnError : List Value} {sn_TurnError : List Str} {sub_TurnError : List Value} {ab_TurnError : Bool} {col_TurnError : Option Bool} {dd_TurnError : Option Addr} {k0_TurnError k1_TurnError k2_TurnError k3_TurnError k5_TurnError : Option Value}
    (m_TurnError : PySem.W.nsIn K mainGlobals "TurnError" = some (some (.ref C_TurnError)))
    (l_TurnError : K.lookup C_TurnError = some (excClassObj nm_TurnError q_TurnError C_TurnError N_TurnError bs_TurnError veL true sn_TurnError sub_TurnError ab_TurnError col_TurnError dd_TurnError k0_TurnError k1_TurnError k2_TurnError k3_TurnError k5_TurnError "ValueError.__new__"))
    (ga_TurnError : PySem.W.findIn K (.ref C_TurnError) "__getattribute__" = some (some (.builtin "BaseException.__getattribute__"))) (gg_TurnError : PySem.W.findIn K (.ref C_TurnError) "__getattr__" = some none) (ha_TurnError : PySem.W.findIn K (.ref C_TurnError) "__class__" = some (some (.builtin "object.__class__")))
    {C_InvalidTree : Addr}
    {nm_InvalidTree q_InvalidTree : Str} {N_InvalidTree : Addr} {bs_InvalidTree : List Value} {sn_InvalidTree : List Str} {sub_InvalidTree : List Value} {ab_InvalidTree : Bool} {col_InvalidTree : Option Bool} {dd_InvalidTree : Option Addr} {k0_InvalidTree k1_InvalidTree k2_InvalidTree k3_InvalidTree k5_InvalidTree : Option Value}
    (m_InvalidTree : PySem.W.nsIn K mainGlobals "InvalidTree" = some (some (.ref C_InvalidTree)))
    (l_InvalidTree : K.lookup C_InvalidTree = some (excClassObj nm_InvalidTree q_InvalidTree C_InvalidTree N_InvalidTree bs_InvalidTree (.ref C_TurnError :: veL) true sn_InvalidTree sub_InvalidTree ab_InvalidTree col_InvalidTree dd_InvalidTree k0_InvalidTree k1_InvalidTree k2_InvalidTree k3_InvalidTree k5_InvalidTree "ValueError.__new__"))
    (ga_InvalidTree : PySem.W.findIn K (.ref C_InvalidTree) "__getattribute__" = some (some (.builtin "BaseException.__getattribute__"))) (gg_InvalidTree : PySem.W.findIn K (.ref C_InvalidTree) "__getattr__" = some none) (ha_InvalidTree : PySem.W.findIn K (.ref C_InvalidTree) "__class__" = some (some (.builtin "object.__class__")))
    (sa_InvalidTree : PySem.W.findIn K (.ref C_InvalidTree) "__setattr__" = some (some (.builtin "object.__setattr__"))) (kC_InvalidTree : PySem.W.keepIn K (.ref C_InvalidTree) = true) (no_InvalidTree : PySem.W.findIn K (.ref C_InvalidTree) "value" = some none)
    {f_InvalidTree T_InvalidTree n_InvalidTree : Nat} {od_InvalidTree td_InvalidTree an_InvalidTree : Option Addr} {kV_InvalidTree doc_InvalidTree pm_InvalidTree cd_InvalidTree ct_InvalidTree tc_InvalidTree : Value} {ol_InvalidTree ts_InvalidTree : Array (Option Value)}
    (iC_InvalidTree : PySem.W.findIn K (.ref C_InvalidTree) "__init__" = some (some (.ref f_InvalidTree)))
    (lf_InvalidTree : K.lookup f_InvalidTree = some ⟨.type "function", od_InvalidTree, .func (PySem.W.fnOf "__init__" "InvalidTree.__init__" (defArgs i_InvalidTree) (defBody i_InvalidTree) (defScope i_InvalidTree) (.ref T_InvalidTree) kV_InvalidTree doc_InvalidTree pm_InvalidTree an_InvalidTree cd_InvalidTree ct_InvalidTree), ol_InvalidTree⟩)
    (cf_InvalidTree : PySem.W.codeIn K cd_InvalidTree "InvalidTree.__init__" = true) (lT_InvalidTree : K.lookup T_InvalidTree = some ⟨tc_InvalidTree, td_InvalidTree, .seq #[.none] n_InvalidTree, ts_InvalidTree⟩)
    {C_InvalidList : Addr}
    {nm_InvalidList q_InvalidList : Str} {N_InvalidList : Addr} {bs_InvalidList : List Value} {sn_InvalidList : List Str} {sub_InvalidList : List Value} {ab_InvalidList : Bool} {col_InvalidList : Option Bool} {dd_InvalidList : Option Addr} {k0_InvalidList k1_InvalidList k2_InvalidList k3_InvalidList k5_InvalidList : Option Value}
    (m_InvalidList : PySem.W.nsIn K mainGlobals "InvalidList" = some (some (.ref C_InvalidList)))
    (l_InvalidList : K.lookup C_InvalidList = some (excClassObj nm_InvalidList q_InvalidList C_InvalidList N_InvalidList bs_InvalidList (.ref C_TurnError :: veL) true sn_InvalidList sub_InvalidList ab_InvalidList col_InvalidList dd_InvalidList k0_InvalidList k1_InvalidList k2_InvalidList k3_InvalidList k5_InvalidList "ValueError.__new__"))
    (ga_InvalidList : PySem.W.findIn K (.ref C_InvalidList) "__getattribute__" = some (some (.builtin "BaseException.__getattribute__"))) (gg_InvalidList : PySem.W.findIn K (.ref C_InvalidList) "__getattr__" = some none) (ha_InvalidList : PySem.W.findIn K (.ref C_InvalidList) "__class__" = some (some (.builtin "object.__class__")))
    (sa_InvalidList : PySem.W.findIn K (.ref C_InvalidList) "__setattr__" = some (some (.builtin "object.__setattr__"))) (kC_InvalidList : PySem.W.keepIn K (.ref C_InvalidList) = true) (no_InvalidList : PySem.W.findIn K (.ref C_InvalidList) "value" = some none)
    {f_InvalidList T_InvalidList n_InvalidList : Nat} {od_InvalidList td_InvalidList an_InvalidList : Option Addr} {kV_InvalidList doc_InvalidList pm_InvalidList cd_InvalidList ct_InvalidList tc_InvalidList : Value} {ol_InvalidList ts_InvalidList : Array (Option Value)}
    (iC_InvalidList : PySem.W.findIn K (.ref C_InvalidList) "__init__" = some (some (.ref f_InvalidList)))
    (lf_InvalidList : K.lookup f_InvalidList = some ⟨.type "function", od_InvalidList, .func (PySem.W.fnOf "__init__" "InvalidList.__init__" (defArgs i_InvalidList) (defBody i_InvalidList) (defScope i_InvalidList) (.ref T_InvalidList) kV_InvalidList doc_InvalidList pm_InvalidList an_InvalidList cd_InvalidList ct_InvalidList), ol_InvalidList⟩)
    (cf_InvalidList : PySem.W.codeIn K cd_InvalidList "InvalidList.__init__" = true) (lT_InvalidList : K.lookup T_InvalidList = some ⟨tc_InvalidList, td_InvalidList, .seq #[.none] n_InvalidList, ts_InvalidList⟩)
    (nd : [C_InvalidTree, C_InvalidList, C_TurnError].Nodup)
    {f0 : Addr} {od0 an0 : Option Addr} {sl0 : Array (Option Value)} {oc0 kV0 dc0 pm0 cd0 ct0 : Value}
    (a0 : PySem.W.nsIn K mainGlobals "is_tree" = some (some (.ref f0))) (l0 : K.lookup f0 = some ⟨oc0, od0, .func (PySem.W.fnOf "is_tree" "is_tree" (defArgs s_is_tree) (defBody s_is_tree) (defScope s_is_tree) .none kV0 dc0 pm0 an0 cd0 ct0), sl0⟩) (c0 : PySem.W.codeIn K cd0 "is_tree" = true) (k0 : PySem.W.keepIn K (.ref f0) = true)
    {f1 : Addr} {od1 an1 : Option Addr} {sl1 : Array (Option Value)} {oc1 kV1 dc1 pm1 cd1 ct1 : Value}
    (a1 : PySem.W.nsIn K mainGlobals "check_tree" = some (some (.ref f1))) (l1 : K.lookup f1 = some ⟨oc1, od1, .func (PySem.W.fnOf "check_tree" "check_tree" (defArgs s_check_tree) (defBody s_check_tree) (defScope s_check_tree) .none kV1 dc1 pm1 an1 cd1 ct1), sl1⟩) (c1 : PySem.W.codeIn K cd1 "check_tree" = true) (k1 : PySem.W.keepIn K (.ref f1) = true)
    {f2 : Addr} {od2 an2 : Option Addr} {sl2 : Array (Option Value)} {oc2 kV2 dc2 pm2 cd2 ct2 : Value}
    (a2 : PySem.W.nsIn K mainGlobals "ends" = some (some (.ref f2))) (l2 : K.lookup f2 = some ⟨oc2, od2, .func (PySem.W.fnOf "ends" "ends" (defArgs s_ends) (defBody s_ends) (defScope s_ends) .none kV2 dc2 pm2 an2 cd2 ct2), sl2⟩) (c2 : PySem.W.codeIn K cd2 "ends" = true) (k2 : PySem.W.keepIn K (.ref f2) = true)
    {f3 : Addr} {od3 an3 : Option Addr} {sl3 : Array (Option Value)} {oc3 kV3 dc3 pm3 cd3 ct3 : Value}
    (a3 : PySem.W.nsIn K mainGlobals "check_hung" = some (some (.ref f3))) (l3 : K.lookup f3 = some ⟨oc3, od3, .func (PySem.W.fnOf "check_hung" "check_hung" (defArgs s_check_hung) (defBody s_check_hung) (defScope s_check_hung) .none kV3 dc3 pm3 an3 cd3 ct3), sl3⟩) (c3 : PySem.W.codeIn K cd3 "check_hung" = true) (k3 : PySem.W.keepIn K (.ref f3) = true)
    {f4 : Addr} {od4 an4 : Option Addr} {sl4 : Array (Option Value)} {oc4 kV4 dc4 pm4 cd4 ct4 : Value}
    (a4 : PySem.W.nsIn K mainGlobals "grown" = some (some (.ref f4))) (l4 : K.lookup f4 = some ⟨oc4, od4, .func (PySem.W.fnOf "grown" "grown" (defArgs s_grown) (defBody s_grown) (defScope s_grown) .none kV4 dc4 pm4 an4 cd4 ct4), sl4⟩) (c4 : PySem.W.codeIn K cd4 "grown" = true) (k4 : PySem.W.keepIn K (.ref f4) = true)
    {f5 : Addr} {od5 an5 : Option Addr} {sl5 : Array (Option Value)} {oc5 kV5 dc5 pm5 cd5 ct5 : Value}
    (a5 : PySem.W.nsIn K mainGlobals "hung" = some (some (.ref f5))) (l5 : K.lookup f5 = some ⟨oc5, od5, .func (PySem.W.fnOf "hung" "hung" (defArgs s_hung) (defBody s_hung) (defScope s_hung) .none kV5 dc5 pm5 an5 cd5 ct5), sl5⟩) (c5 : PySem.W.codeIn K cd5 "hung" = true) (k5 : PySem.W.keepIn K (.ref f5) = true)
    {f6 : Addr} {od6 an6 : Option Addr} {sl6 : Array (Option Value)} {oc6 kV6 dc6 pm6 cd6 ct6 : Value}
    (a6 : PySem.W.nsIn K mainGlobals "joined" = some (some (.ref f6))) (l6 : K.lookup f6 = some ⟨oc6, od6, .func (PySem.W.fnOf "joined" "joined" (defArgs s_joined) (defBody s_joined) (defScope s_joined) .none kV6 dc6 pm6 an6 cd6 ct6), sl6⟩) (c6 : PySem.W.codeIn K cd6 "joined" = true) (k6 : PySem.W.keepIn K (.ref f6) = true)
    {f7 : Addr} {od7 an7 : Option Addr} {sl7 : Array (Option Value)} {oc7 kV7 dc7 pm7 cd7 ct7 : Value}
    (a7 : PySem.W.nsIn K mainGlobals "shared" = some (some (.ref f7))) (l7 : K.lookup f7 = some ⟨oc7, od7, .func (PySem.W.fnOf "shared" "shared" (defArgs s_shared) (defBody s_shared) (defScope s_shared) .none kV7 dc7 pm7 an7 cd7 ct7), sl7⟩) (c7 : PySem.W.codeIn K cd7 "shared" = true) (k7 : PySem.W.keepIn K (.ref f7) = true)
    {f8 : Addr} {od8 an8 : Option Addr} {sl8 : Array (Option Value)} {oc8 kV8 dc8 pm8 cd8 ct8 : Value}
    (a8 : PySem.W.nsIn K mainGlobals "_law_cell" = some (some (.ref f8))) (l8 : K.lookup f8 = some ⟨oc8, od8, .func (PySem.W.fnOf "_law_cell" "_law_cell" (defArgs s_law_cell) (defBody s_law_cell) (defScope s_law_cell) .none kV8 dc8 pm8 an8 cd8 ct8), sl8⟩) (c8 : PySem.W.codeIn K cd8 "_law_cell" = true) (k8 : PySem.W.keepIn K (.ref f8) = true)
    {f9 : Addr} {od9 an9 : Option Addr} {sl9 : Array (Option Value)} {oc9 kV9 dc9 pm9 cd9 ct9 : Value}
    (a9 : PySem.W.nsIn K mainGlobals "_law_hash" = some (some (.ref f9))) (l9 : K.lookup f9 = some ⟨oc9, od9, .func (PySem.W.fnOf "_law_hash" "_law_hash" (defArgs s_law_hash) (defBody s_law_hash) (defScope s_law_hash) .none kV9 dc9 pm9 an9 cd9 ct9), sl9⟩) (c9 : PySem.W.codeIn K cd9 "_law_hash" = true) (k9 : PySem.W.keepIn K (.ref f9) = true)
    {f10 : Addr} {od10 an10 : Option Addr} {sl10 : Array (Option Value)} {oc10 kV10 dc10 pm10 cd10 ct10 : Value}
    (a10 : PySem.W.nsIn K mainGlobals "_law_generator" = some (some (.ref f10))) (l10 : K.lookup f10 = some ⟨oc10, od10, .func (PySem.W.fnOf "_law_generator" "_law_generator" (defArgs s_law_generator) (defBody s_law_generator) (defScope s_law_generator) .none kV10 dc10 pm10 an10 cd10 ct10), sl10⟩) (c10 : PySem.W.codeIn K cd10 "_law_generator" = true) (k10 : PySem.W.keepIn K (.ref f10) = true)
    {f11 : Addr} {od11 an11 : Option Addr} {sl11 : Array (Option Value)} {oc11 kV11 dc11 pm11 cd11 ct11 : Value}
    (a11 : PySem.W.nsIn K mainGlobals "_law_random" = some (some (.ref f11))) (l11 : K.lookup f11 = some ⟨oc11, od11, .func (PySem.W.fnOf "_law_random" "_law_random" (defArgs s_law_random) (defBody s_law_random) (defScope s_law_random) .none kV11 dc11 pm11 an11 cd11 ct11), sl11⟩) (c11 : PySem.W.codeIn K cd11 "_law_random" = true) (k11 : PySem.W.keepIn K (.ref f11) = true)
    {f12 : Addr} {od12 an12 : Option Addr} {sl12 : Array (Option Value)} {oc12 kV12 dc12 pm12 cd12 ct12 : Value}
    (a12 : PySem.W.nsIn K mainGlobals "_law_tree" = some (some (.ref f12))) (l12 : K.lookup f12 = some ⟨oc12, od12, .func (PySem.W.fnOf "_law_tree" "_law_tree" (defArgs s_law_tree) (defBody s_law_tree) (defScope s_law_tree) .none kV12 dc12 pm12 an12 cd12 ct12), sl12⟩) (c12 : PySem.W.codeIn K cd12 "_law_tree" = true) (k12 : PySem.W.keepIn K (.ref f12) = true)
    {f13 : Addr} {od13 an13 : Option Addr} {sl13 : Array (Option Value)} {oc13 kV13 dc13 pm13 cd13 ct13 : Value}
    (a13 : PySem.W.nsIn K mainGlobals "_law_parsed" = some (some (.ref f13))) (l13 : K.lookup f13 = some ⟨oc13, od13, .func (PySem.W.fnOf "_law_parsed" "_law_parsed" (defArgs s_law_parsed) (defBody s_law_parsed) (defScope s_law_parsed) .none kV13 dc13 pm13 an13 cd13 ct13), sl13⟩) (c13 : PySem.W.codeIn K cd13 "_law_parsed" = true) (k13 : PySem.W.keepIn K (.ref f13) = true)
    {f14 : Addr} {od14 an14 : Option Addr} {sl14 : Array (Option Value)} {oc14 kV14 dc14 pm14 cd14 ct14 : Value}
    (a14 : PySem.W.nsIn K mainGlobals "_law_text" = some (some (.ref f14))) (l14 : K.lookup f14 = some ⟨oc14, od14, .func (PySem.W.fnOf "_law_text" "_law_text" (defArgs s_law_text) (defBody s_law_text) (defScope s_law_text) .none kV14 dc14 pm14 an14 cd14 ct14), sl14⟩) (c14 : PySem.W.codeIn K cd14 "_law_text" = true) (k14 : PySem.W.keepIn K (.ref f14) = true)
    {f15 : Addr} {od15 an15 : Option Addr} {sl15 : Array (Option Value)} {oc15 kV15 dc15 pm15 cd15 ct15 : Value}
    (a15 : PySem.W.nsIn K mainGlobals "_law_filled" = some (some (.ref f15))) (l15 : K.lookup f15 = some ⟨oc15, od15, .func (PySem.W.fnOf "_law_filled" "_law_filled" (defArgs s_law_filled) (defBody s_law_filled) (defScope s_law_filled) .none kV15 dc15 pm15 an15 cd15 ct15), sl15⟩) (c15 : PySem.W.codeIn K cd15 "_law_filled" = true) (k15 : PySem.W.keepIn K (.ref f15) = true)
    {f16 : Addr} {od16 an16 : Option Addr} {sl16 : Array (Option Value)} {oc16 kV16 dc16 pm16 cd16 ct16 : Value}
    (a16 : PySem.W.nsIn K mainGlobals "_law_hanging" = some (some (.ref f16))) (l16 : K.lookup f16 = some ⟨oc16, od16, .func (PySem.W.fnOf "_law_hanging" "_law_hanging" (defArgs s_law_hanging) (defBody s_law_hanging) (defScope s_law_hanging) .none kV16 dc16 pm16 an16 cd16 ct16), sl16⟩) (c16 : PySem.W.codeIn K cd16 "_law_hanging" = true) (k16 : PySem.W.keepIn K (.ref f16) = true)
    {f17 : Addr} {od17 an17 : Option Addr} {sl17 : Array (Option Value)} {oc17 kV17 dc17 pm17 cd17 ct17 : Value}
    (a17 : PySem.W.nsIn K mainGlobals "_law_both" = some (some (.ref f17))) (l17 : K.lookup f17 = some ⟨oc17, od17, .func (PySem.W.fnOf "_law_both" "_law_both" (defArgs s_law_both) (defBody s_law_both) (defScope s_law_both) .none kV17 dc17 pm17 an17 cd17 ct17), sl17⟩) (c17 : PySem.W.codeIn K cd17 "_law_both" = true) (k17 : PySem.W.keepIn K (.ref f17) = true)
    {f18 : Addr} {od18 an18 : Option Addr} {sl18 : Array (Option Value)} {oc18 kV18 dc18 pm18 cd18 ct18 : Value}
    (a18 : PySem.W.nsIn K mainGlobals "_law_trees" = some (some (.ref f18))) (l18 : K.lookup f18 = some ⟨oc18, od18, .func (PySem.W.fnOf "_law_trees" "_law_trees" (defArgs s_law_trees) (defBody s_law_trees) (defScope s_law_trees) .none kV18 dc18 pm18 an18 cd18 ct18), sl18⟩) (c18 : PySem.W.codeIn K cd18 "_law_trees" = true) (k18 : PySem.W.keepIn K (.ref f18) = true)
    {f19 : Addr} {od19 an19 : Option Addr} {sl19 : Array (Option Value)} {oc19 kV19 dc19 pm19 cd19 ct19 : Value}
    (a19 : PySem.W.nsIn K mainGlobals "_law_core" = some (some (.ref f19))) (l19 : K.lookup f19 = some ⟨oc19, od19, .func (PySem.W.fnOf "_law_core" "_law_core" (defArgs s_law_core) (defBody s_law_core) (defScope s_law_core) .none kV19 dc19 pm19 an19 cd19 ct19), sl19⟩) (c19 : PySem.W.codeIn K cd19 "_law_core" = true) (k19 : PySem.W.keepIn K (.ref f19) = true)
    {f20 : Addr} {od20 an20 : Option Addr} {sl20 : Array (Option Value)} {oc20 kV20 dc20 pm20 cd20 ct20 : Value}
    (a20 : PySem.W.nsIn K mainGlobals "_law_pair_right" = some (some (.ref f20))) (l20 : K.lookup f20 = some ⟨oc20, od20, .func (PySem.W.fnOf "_law_pair_right" "_law_pair_right" (defArgs s_law_pair_right) (defBody s_law_pair_right) (defScope s_law_pair_right) .none kV20 dc20 pm20 an20 cd20 ct20), sl20⟩) (c20 : PySem.W.codeIn K cd20 "_law_pair_right" = true) (k20 : PySem.W.keepIn K (.ref f20) = true)
    {f21 : Addr} {od21 an21 : Option Addr} {sl21 : Array (Option Value)} {oc21 kV21 dc21 pm21 cd21 ct21 : Value}
    (a21 : PySem.W.nsIn K mainGlobals "_law_caught" = some (some (.ref f21))) (l21 : K.lookup f21 = some ⟨oc21, od21, .func (PySem.W.fnOf "_law_caught" "_law_caught" (defArgs s_law_caught) (defBody s_law_caught) (defScope s_law_caught) .none kV21 dc21 pm21 an21 cd21 ct21), sl21⟩) (c21 : PySem.W.codeIn K cd21 "_law_caught" = true) (k21 : PySem.W.keepIn K (.ref f21) = true)
    {f22 : Addr} {od22 an22 : Option Addr} {sl22 : Array (Option Value)} {oc22 kV22 dc22 pm22 cd22 ct22 : Value}
    (a22 : PySem.W.nsIn K mainGlobals "_law_no_tree" = some (some (.ref f22))) (l22 : K.lookup f22 = some ⟨oc22, od22, .func (PySem.W.fnOf "_law_no_tree" "_law_no_tree" (defArgs s_law_no_tree) (defBody s_law_no_tree) (defScope s_law_no_tree) .none kV22 dc22 pm22 an22 cd22 ct22), sl22⟩) (c22 : PySem.W.codeIn K cd22 "_law_no_tree" = true) (k22 : PySem.W.keepIn K (.ref f22) = true)
    {f23 : Addr} {od23 an23 : Option Addr} {sl23 : Array (Option Value)} {oc23 kV23 dc23 pm23 cd23 ct23 : Value}
    (a23 : PySem.W.nsIn K mainGlobals "_law_refused" = some (some (.ref f23))) (l23 : K.lookup f23 = some ⟨oc23, od23, .func (PySem.W.fnOf "_law_refused" "_law_refused" (defArgs s_law_refused) (defBody s_law_refused) (defScope s_law_refused) .none kV23 dc23 pm23 an23 cd23 ct23), sl23⟩) (c23 : PySem.W.codeIn K cd23 "_law_refused" = true) (k23 : PySem.W.keepIn K (.ref f23) = true)
    {f24 : Addr} {od24 an24 : Option Addr} {sl24 : Array (Option Value)} {oc24 kV24 dc24 pm24 cd24 ct24 : Value}
    (a24 : PySem.W.nsIn K mainGlobals "_law_great_right" = some (some (.ref f24))) (l24 : K.lookup f24 = some ⟨oc24, od24, .func (PySem.W.fnOf "_law_great_right" "_law_great_right" (defArgs s_law_great_right) (defBody s_law_great_right) (defScope s_law_great_right) .none kV24 dc24 pm24 an24 cd24 ct24), sl24⟩) (c24 : PySem.W.codeIn K cd24 "_law_great_right" = true) (k24 : PySem.W.keepIn K (.ref f24) = true)
    {f25 : Addr} {od25 an25 : Option Addr} {sl25 : Array (Option Value)} {oc25 kV25 dc25 pm25 cd25 ct25 : Value}
    (a25 : PySem.W.nsIn K mainGlobals "law" = some (some (.ref f25))) (l25 : K.lookup f25 = some ⟨oc25, od25, .func (PySem.W.fnOf "law" "law" (defArgs s_law) (defBody s_law) (defScope s_law) .none kV25 dc25 pm25 an25 cd25 ct25), sl25⟩) (c25 : PySem.W.codeIn K cd25 "law" = true) (k25 : PySem.W.keepIn K (.ref f25) = true)
    (z_isinstance : PySem.W.nsIn K mainGlobals "isinstance" = some none)
    (z_str : PySem.W.nsIn K mainGlobals "str" = some none)
    (z_len : PySem.W.nsIn K mainGlobals "len" = some none)
    (z_all : PySem.W.nsIn K mainGlobals "all" = some none)
    (z_list : PySem.W.nsIn K mainGlobals "list" = some none)
    (z_int : PySem.W.nsIn K mainGlobals "int" = some none)
    (z_max : PySem.W.nsIn K mainGlobals "max" = some none)
    (z_range : PySem.W.nsIn K mainGlobals "range" = some none)
    (z_enumerate : PySem.W.nsIn K mainGlobals "enumerate" = some none)
    (z_zip : PySem.W.nsIn K mainGlobals "zip" = some none)
    (z_repr : PySem.W.nsIn K mainGlobals "repr" = some none)
    (z_tuple : PySem.W.nsIn K mainGlobals "tuple" = some none)
    : ∃ fd : FuncData, (∀ (s : Shared) (v : Value), BindsTo s fd ⟨[v], []⟩ [("_law_script", v)]) ∧ ∀ base : Heap, K.In base → base.Ns mainGlobals mg → FnG l.prog w K mg base CX0 90 fa fd ["_law_script"] (sp_law K) := by
  have e := hfa.symm.trans (PySem.W.mg_of X G a25)
  cases e
  obtain ⟨e_TurnError, x_TurnError⟩ := cls_mk l_TurnError rfl ga_TurnError gg_TurnError ha_TurnError hn ht
  obtain ⟨e_InvalidTree, x_InvalidTree⟩ := cls_mk l_InvalidTree rfl ga_InvalidTree gg_InvalidTree ha_InvalidTree hn ht
  have o_InvalidTree := own_InvalidTree X G m_InvalidTree (oex_mk l_InvalidTree rfl sa_InvalidTree kC_InvalidTree e_InvalidTree) no_InvalidTree iC_InvalidTree (fty lf_InvalidTree) (fund_mk lf_InvalidTree cf_InvalidTree lT_InvalidTree)
  obtain ⟨e_InvalidList, x_InvalidList⟩ := cls_mk l_InvalidList rfl ga_InvalidList gg_InvalidList ha_InvalidList hn ht
  have o_InvalidList := own_InvalidList X G m_InvalidList (oex_mk l_InvalidList rfl sa_InvalidList kC_InvalidList e_InvalidList) no_InvalidList iC_InvalidList (fty lf_InvalidList) (fund_mk lf_InvalidList cf_InvalidList lT_InvalidList)
  have F0 := fun_mk (st := s_is_tree) l0 c0 k0
  have b0 := F0.binds (ps := ["value"]) fun _ _ _ _ _ _ us hl => match us, hl with | [_], _ => rfl
  have F1 := fun_mk (st := s_check_tree) l1 c1 k1
  have b1 := F1.binds (ps := ["value"]) fun _ _ _ _ _ _ us hl => match us, hl with | [_], _ => rfl
  have F2 := fun_mk (st := s_ends) l2 c2 k2
  have b2 := F2.binds (ps := ["tree"]) fun _ _ _ _ _ _ us hl => match us, hl with | [_], _ => rfl
  have F3 := fun_mk (st := s_check_hung) l3 c3 k3
  have b3 := F3.binds (ps := ["tree", "trees"]) fun _ _ _ _ _ _ us hl => match us, hl with | [_, _], _ => rfl
  have F4 := fun_mk (st := s_grown) l4 c4 k4
  have b4 := F4.binds (ps := ["tree", "hung"]) fun _ _ _ _ _ _ us hl => match us, hl with | [_, _], _ => rfl
  have F5 := fun_mk (st := s_hung) l5 c5 k5
  have b5 := F5.binds (ps := ["tree", "top"]) fun _ _ _ _ _ _ us hl => match us, hl with | [_, _], _ => rfl
  have F6 := fun_mk (st := s_joined) l6 c6 k6
  have b6 := F6.binds (ps := ["one", "other"]) fun _ _ _ _ _ _ us hl => match us, hl with | [_, _], _ => rfl
  have F7 := fun_mk (st := s_shared) l7 c7 k7
  have b7 := F7.binds (ps := ["one", "other"]) fun _ _ _ _ _ _ us hl => match us, hl with | [_, _], _ => rfl
  have F8 := fun_mk (st := s_law_cell) l8 c8 k8
  have b8 := F8.binds (ps := ["_law_script", "_law_index"]) fun _ _ _ _ _ _ us hl => match us, hl with | [_, _], _ => rfl
  have F9 := fun_mk (st := s_law_hash) l9 c9 k9
  have b9 := F9.binds (ps := ["_law_seed", "_law_index"]) fun _ _ _ _ _ _ us hl => match us, hl with | [_, _], _ => rfl
  have F10 := fun_mk (st := s_law_generator) l10 c10 k10
  have b10 := F10.binds (ps := ["_law_script", "_law_index"]) fun _ _ _ _ _ _ us hl => match us, hl with | [_, _], _ => rfl
  have F11 := fun_mk (st := s_law_random) l11 c11 k11
  have b11 := F11.binds (ps := ["_law_generator_here", "_law_bound"]) fun _ _ _ _ _ _ us hl => match us, hl with | [_, _], _ => rfl
  have F12 := fun_mk (st := s_law_tree) l12 c12 k12
  have b12 := F12.binds (ps := ["_law_generator_here", "_law_many"]) fun _ _ _ _ _ _ us hl => match us, hl with | [_, _], _ => rfl
  have F13 := fun_mk (st := s_law_parsed) l13 c13 k13
  have b13 := F13.binds (ps := ["_law_tree_here"]) fun _ _ _ _ _ _ us hl => match us, hl with | [_], _ => rfl
  have F14 := fun_mk (st := s_law_text) l14 c14 k14
  have b14 := F14.binds (ps := ["_law_parsed_here"]) fun _ _ _ _ _ _ us hl => match us, hl with | [_], _ => rfl
  have F15 := fun_mk (st := s_law_filled) l15 c15 k15
  have b15 := F15.binds (ps := ["_law_parsed_here", "_law_pieces"]) fun _ _ _ _ _ _ us hl => match us, hl with | [_, _], _ => rfl
  have F16 := fun_mk (st := s_law_hanging) l16 c16 k16
  have b16 := F16.binds (ps := ["_law_parsed_here", "_law_top"]) fun _ _ _ _ _ _ us hl => match us, hl with | [_, _], _ => rfl
  have F17 := fun_mk (st := s_law_both) l17 c17 k17
  have b17 := F17.binds (ps := ["_law_one", "_law_other"]) fun _ _ _ _ _ _ us hl => match us, hl with | [_, _], _ => rfl
  have F18 := fun_mk (st := s_law_trees) l18 c18 k18
  have b18 := F18.binds (ps := ["_law_generator_here", "_law_many"]) fun _ _ _ _ _ _ us hl => match us, hl with | [_, _], _ => rfl
  have F19 := fun_mk (st := s_law_core) l19 c19 k19
  have b19 := F19.binds (ps := ["_law_one", "_law_other"]) fun _ _ _ _ _ _ us hl => match us, hl with | [_, _], _ => rfl
  have F20 := fun_mk (st := s_law_pair_right) l20 c20 k20
  have b20 := F20.binds (ps := ["_law_one", "_law_other"]) fun _ _ _ _ _ _ us hl => match us, hl with | [_, _], _ => rfl
  have F21 := fun_mk (st := s_law_caught) l21 c21 k21
  have b21 := F21.binds (ps := ["_law_tree_here", "_law_trees_here"]) fun _ _ _ _ _ _ us hl => match us, hl with | [_, _], _ => rfl
  have F22 := fun_mk (st := s_law_no_tree) l22 c22 k22
  have b22 := F22.binds (ps := ["_law_door", "_law_one", "_law_other", "_law_bad"]) fun _ _ _ _ _ _ us hl => match us, hl with | [_, _, _, _], _ => rfl
  have F23 := fun_mk (st := s_law_refused) l23 c23 k23
  have b23 := F23.binds (ps := ["_law_tree_here"]) fun _ _ _ _ _ _ us hl => match us, hl with | [_], _ => rfl
  have F24 := fun_mk (st := s_law_great_right) l24 c24 k24
  have b24 := F24.binds (ps := ["_law_generator_here"]) fun _ _ _ _ _ _ us hl => match us, hl with | [_], _ => rfl
  have F25 := fun_mk (st := s_law) l25 c25 k25
  have b25 := F25.binds (ps := ["_law_script"]) fun _ _ _ _ _ _ us hl => match us, hl with | [_], _ => rfl
  refine ⟨PySem.W.fnOf "law" "law" (defArgs s_law) (defBody s_law) (defScope s_law) .none kV25 dc25 pm25 an25 cd25 ct25, fun s v => .of_eq rfl, fun base _ _ => ?_⟩
  exact ok_law { c_TurnError := _, g_TurnError := PySem.W.mg_of X G m_TurnError, e_TurnError := e_TurnError, c_InvalidTree := _, g_InvalidTree := PySem.W.mg_of X G m_InvalidTree, e_InvalidTree := e_InvalidTree, o_InvalidTree := o_InvalidTree, x_InvalidTree := x_InvalidTree, n_InvalidTree := no_InvalidTree, c_InvalidList := _, g_InvalidList := PySem.W.mg_of X G m_InvalidList, e_InvalidList := e_InvalidList, o_InvalidList := o_InvalidList, x_InvalidList := x_InvalidList, n_InvalidList := no_InvalidList, nd := nd, a_is_tree := _, fd_is_tree := _, F_is_tree := F0, b_is_tree := b0, m_is_tree := PySem.W.mg_of X G a0, a_check_tree := _, fd_check_tree := _, F_check_tree := F1, b_check_tree := b1, m_check_tree := PySem.W.mg_of X G a1, a_ends := _, fd_ends := _, F_ends := F2, b_ends := b2, m_ends := PySem.W.mg_of X G a2, a_check_hung := _, fd_check_hung := _, F_check_hung := F3, b_check_hung := b3, m_check_hung := PySem.W.mg_of X G a3, a_grown := _, fd_grown := _, F_grown := F4, b_grown := b4, m_grown := PySem.W.mg_of X G a4, a_hung := _, fd_hung := _, F_hung := F5, b_hung := b5, m_hung := PySem.W.mg_of X G a5, a_joined := _, fd_joined := _, F_joined := F6, b_joined := b6, m_joined := PySem.W.mg_of X G a6, a_shared := _, fd_shared := _, F_shared := F7, b_shared := b7, m_shared := PySem.W.mg_of X G a7, a_law_cell := _, fd_law_cell := _, F_law_cell := F8, b_law_cell := b8, m_law_cell := PySem.W.mg_of X G a8, a_law_hash := _, fd_law_hash := _, F_law_hash := F9, b_law_hash := b9, m_law_hash := PySem.W.mg_of X G a9, a_law_generator := _, fd_law_generator := _, F_law_generator := F10, b_law_generator := b10, m_law_generator := PySem.W.mg_of X G a10, a_law_random := _, fd_law_random := _, F_law_random := F11, b_law_random := b11, m_law_random := PySem.W.mg_of X G a11, a_law_tree := _, fd_law_tree := _, F_law_tree := F12, b_law_tree := b12, m_law_tree := PySem.W.mg_of X G a12, a_law_parsed := _, fd_law_parsed := _, F_law_parsed := F13, b_law_parsed := b13, m_law_parsed := PySem.W.mg_of X G a13, a_law_text := _, fd_law_text := _, F_law_text := F14, b_law_text := b14, m_law_text := PySem.W.mg_of X G a14, a_law_filled := _, fd_law_filled := _, F_law_filled := F15, b_law_filled := b15, m_law_filled := PySem.W.mg_of X G a15, a_law_hanging := _, fd_law_hanging := _, F_law_hanging := F16, b_law_hanging := b16, m_law_hanging := PySem.W.mg_of X G a16, a_law_both := _, fd_law_both := _, F_law_both := F17, b_law_both := b17, m_law_both := PySem.W.mg_of X G a17, a_law_trees := _, fd_law_trees := _, F_law_trees := F18, b_law_trees := b18, m_law_trees := PySem.W.mg_of X G a18, a_law_core := _, fd_law_core := _, F_law_core := F19, b_law_core := b19, m_law_core := PySem.W.mg_of X G a19, a_law_pair_right := _, fd_law_pair_right := _, F_law_pair_right := F20, b_law_pair_right := b20, m_law_pair_right := PySem.W.mg_of X G a20, a_law_caught := _, fd_law_caught := _, F_law_caught := F21, b_law_caught := b21, m_law_caught := PySem.W.mg_of X G a21, a_law_no_tree := _, fd_law_no_tree := _, F_law_no_tree := F22, b_law_no_tree := b22, m_law_no_tree := PySem.W.mg_of X G a22, a_law_refused := _, fd_law_refused := _, F_law_refused := F23, b_law_refused := b23, m_law_refused := PySem.W.mg_of X G a23, a_law_great_right := _, fd_law_great_right := _, F_law_great_right := F24, b_law_great_right := b24, m_law_great_right := PySem.W.mg_of X G a24, a_law := _, fd_law := _, F_law := F25, b_law := b25, m_law := PySem.W.mg_of X G a25, z_isinstance := PySem.W.mg_none_of X G z_isinstance, z_str := PySem.W.mg_none_of X G z_str, z_len := PySem.W.mg_none_of X G z_len, z_all := PySem.W.mg_none_of X G z_all, z_list := PySem.W.mg_none_of X G z_list, z_int := PySem.W.mg_none_of X G z_int, z_max := PySem.W.mg_none_of X G z_max, z_range := PySem.W.mg_none_of X G z_range, z_enumerate := PySem.W.mg_none_of X G z_enumerate, z_zip := PySem.W.mg_none_of X G z_zip, z_repr := PySem.W.mg_none_of X G z_repr, z_tuple := PySem.W.mg_none_of X G z_tuple }
theorem walk {l : PySem.W.OpenLaw} {q : Program} {loose : List Str} {XP : (Str → Option Value) → Heap → Prop} {YP : World → Heap → Prop} {d : DefRec} {K : Params → PySem.W.Frag} (hn : l.most = some 63) (hdf : d.params.defaults = [])
    (hY : ∀ (w : World) (h : Heap), YP w h → (K w.params).In h)
    (F : ∀ (w : World) (mg : Str → Option Value) (fa : Addr) (h : Heap), (K w.params).In h → h.Ns mainGlobals mg → mg d.name = some (.ref fa) →
      ∃ fd : FuncData, (∀ (s : Shared) (u : Value), BindsTo s fd ⟨[u], []⟩ [("_law_script", u)]) ∧ ∀ base : Heap, (K w.params).In base → base.Ns mainGlobals mg → FnG l.prog w (K w.params) mg base CX0 90 fa fd ["_law_script"] (sp_law (K w.params))) :
    PySem.W.WalkO q loose XP YP l.row.toRowW d [] (fun f vs => PySem.call f vs) :=
  walkG (n := 63) (k := 90) (x := "_law_script") (sp := fun w => sp_law (K w.params)) hn (by decide) hdf ⟨rfl, by decide, by decide⟩ hY F (fun _ _ a ns hl _ hS => ⟨a, ns, rfl, hS, hl, fun _ => rfl⟩)
end Toy

open PySem PySem.W PyProof.Rows in
set_option maxRecDepth 100000 in
set_option maxHeartbeats 0 in
theorem PySem.Challenge.cw_treeturns_k04_trees_that_grow_holds : PySem.Challenge.rw_treeturns_k04_trees_that_grow.Holds := by
  w_on; o_law; k_head; (case hw => w_witness2)
  k_fill
  refine Toy.walk (l := PySem.Challenge.rw_treeturns_k04_trees_that_grow) rfl rfl (fun w h Y => PySem.W.kIn_of Y) ?F
  case F =>
    intro w mg fa h KX G hmg
    refine' Toy.all_mk KX G hmg ?hn ?ht ?m_TurnError ?l_TurnError ?ga_TurnError ?gg_TurnError ?ha_TurnError ?m_InvalidTree ?l_InvalidTree ?ga_InvalidTree ?gg_InvalidTree ?ha_InvalidTree ?sa_InvalidTree ?kC_InvalidTree ?no_InvalidTree ?iC_InvalidTree ?lf_InvalidTree ?cf_InvalidTree ?lT_InvalidTree ?m_InvalidList ?l_InvalidList ?ga_InvalidList ?gg_InvalidList ?ha_InvalidList ?sa_InvalidList ?kC_InvalidList ?no_InvalidList ?iC_InvalidList ?lf_InvalidList ?cf_InvalidList ?lT_InvalidList ?nd ?a0 ?l0 ?c0 ?k0 ?a1 ?l1 ?c1 ?k1 ?a2 ?l2 ?c2 ?k2 ?a3 ?l3 ?c3 ?k3 ?a4 ?l4 ?c4 ?k4 ?a5 ?l5 ?c5 ?k5 ?a6 ?l6 ?c6 ?k6 ?a7 ?l7 ?c7 ?k7 ?a8 ?l8 ?c8 ?k8 ?a9 ?l9 ?c9 ?k9 ?a10 ?l10 ?c10 ?k10 ?a11 ?l11 ?c11 ?k11 ?a12 ?l12 ?c12 ?k12 ?a13 ?l13 ?c13 ?k13 ?a14 ?l14 ?c14 ?k14 ?a15 ?l15 ?c15 ?k15 ?a16 ?l16 ?c16 ?k16 ?a17 ?l17 ?c17 ?k17 ?a18 ?l18 ?c18 ?k18 ?a19 ?l19 ?c19 ?k19 ?a20 ?l20 ?c20 ?k20 ?a21 ?l21 ?c21 ?k21 ?a22 ?l22 ?c22 ?k22 ?a23 ?l23 ?c23 ?k23 ?a24 ?l24 ?c24 ?k24 ?a25 ?l25 ?c25 ?k25 ?z_isinstance ?z_str ?z_len ?z_all ?z_list ?z_int ?z_max ?z_range ?z_enumerate ?z_zip ?z_repr ?z_tuple
    (case hn => k_is)
    (case ht => k_is)
    (case m_TurnError => k_is)
    (case l_TurnError => k_is)
    (case ga_TurnError => k_is)
    (case gg_TurnError => k_is)
    (case ha_TurnError => k_is)
    (case m_InvalidTree => k_is)
    (case l_InvalidTree => k_is)
    (case ga_InvalidTree => k_is)
    (case gg_InvalidTree => k_is)
    (case ha_InvalidTree => k_is)
    (case sa_InvalidTree => k_is)
    (case kC_InvalidTree => k_is)
    (case no_InvalidTree => k_is)
    (case iC_InvalidTree => k_is)
    (case lf_InvalidTree => k_is)
    (case cf_InvalidTree => k_is)
    (case lT_InvalidTree => k_is)
    (case m_InvalidList => k_is)
    (case l_InvalidList => k_is)
    (case ga_InvalidList => k_is)
    (case gg_InvalidList => k_is)
    (case ha_InvalidList => k_is)
    (case sa_InvalidList => k_is)
    (case kC_InvalidList => k_is)
    (case no_InvalidList => k_is)
    (case iC_InvalidList => k_is)
    (case lf_InvalidList => k_is)
    (case cf_InvalidList => k_is)
    (case lT_InvalidList => k_is)
    (case nd => decide)
    (case a0 => k_is)
    (case l0 => k_is)
    (case c0 => k_is)
    (case k0 => k_is)
    (case a1 => k_is)
    (case l1 => k_is)
    (case c1 => k_is)
    (case k1 => k_is)
    (case a2 => k_is)
    (case l2 => k_is)
    (case c2 => k_is)
    (case k2 => k_is)
    (case a3 => k_is)
    (case l3 => k_is)
    (case c3 => k_is)
    (case k3 => k_is)
    (case a4 => k_is)
    (case l4 => k_is)
    (case c4 => k_is)
    (case k4 => k_is)
    (case a5 => k_is)
    (case l5 => k_is)
    (case c5 => k_is)
    (case k5 => k_is)
    (case a6 => k_is)
    (case l6 => k_is)
    (case c6 => k_is)
    (case k6 => k_is)
    (case a7 => k_is)
    (case l7 => k_is)
    (case c7 => k_is)
    (case k7 => k_is)
    (case a8 => k_is)
    (case l8 => k_is)
    (case c8 => k_is)
    (case k8 => k_is)
    (case a9 => k_is)
    (case l9 => k_is)
    (case c9 => k_is)
    (case k9 => k_is)
    (case a10 => k_is)
    (case l10 => k_is)
    (case c10 => k_is)
    (case k10 => k_is)
    (case a11 => k_is)
    (case l11 => k_is)
    (case c11 => k_is)
    (case k11 => k_is)
    (case a12 => k_is)
    (case l12 => k_is)
    (case c12 => k_is)
    (case k12 => k_is)
    (case a13 => k_is)
    (case l13 => k_is)
    (case c13 => k_is)
    (case k13 => k_is)
    (case a14 => k_is)
    (case l14 => k_is)
    (case c14 => k_is)
    (case k14 => k_is)
    (case a15 => k_is)
    (case l15 => k_is)
    (case c15 => k_is)
    (case k15 => k_is)
    (case a16 => k_is)
    (case l16 => k_is)
    (case c16 => k_is)
    (case k16 => k_is)
    (case a17 => k_is)
    (case l17 => k_is)
    (case c17 => k_is)
    (case k17 => k_is)
    (case a18 => k_is)
    (case l18 => k_is)
    (case c18 => k_is)
    (case k18 => k_is)
    (case a19 => k_is)
    (case l19 => k_is)
    (case c19 => k_is)
    (case k19 => k_is)
    (case a20 => k_is)
    (case l20 => k_is)
    (case c20 => k_is)
    (case k20 => k_is)
    (case a21 => k_is)
    (case l21 => k_is)
    (case c21 => k_is)
    (case k21 => k_is)
    (case a22 => k_is)
    (case l22 => k_is)
    (case c22 => k_is)
    (case k22 => k_is)
    (case a23 => k_is)
    (case l23 => k_is)
    (case c23 => k_is)
    (case k23 => k_is)
    (case a24 => k_is)
    (case l24 => k_is)
    (case c24 => k_is)
    (case k24 => k_is)
    (case a25 => k_is)
    (case l25 => k_is)
    (case c25 => k_is)
    (case k25 => k_is)
    (case z_isinstance => k_is)
    (case z_str => k_is)
    (case z_len => k_is)
    (case z_all => k_is)
    (case z_list => k_is)
    (case z_int => k_is)
    (case z_max => k_is)
    (case z_range => k_is)
    (case z_enumerate => k_is)
    (case z_zip => k_is)
    (case z_repr => k_is)
    (case z_tuple => k_is)
