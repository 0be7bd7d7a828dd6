import PyProof.Rows.All
import Wide.All
import OpenK.AllK
import Wide.FinOn
import HandS.ForMost
import HandS.Flow
import HandS.Wide
import HandS.WideBits
import HandS.NoneIn
import HandS.IsInst
import PyProof.Rows.RegReprOcc
import KE.KExcIs
import HandS.Base
import HandS.Call
import HandS.List
import HandS.Ends
import HandS.Exc
import HandS.ExcInit
import HandS.ExcField
import HandS.ExcIs
import HandS.Defaults
import HandS.MakeKwOnly
import PyProof.ReprRoads
import PyProof.ReprReads
import HandS.ExcValue
import HandS.Words
import HandS.Codes
import HandS.Dict
import PySem.Challenge.RW_treeturns_k01_errors
set_option Elab.async false
set_option linter.all false
set_option maxRecDepth 100000
set_option maxHeartbeats 4000000
set_option linter.all false
/-! Trees, plainly: growing, hanging, meet and join. -/
namespace TT
inductive Tr where
  | leaf
  | node (l r : Tr)
  deriving DecidableEq
namespace Tr
def size : Tr → Nat
  | leaf => 0
  | node l r => l.size + r.size + 1
/-- the text's length -/
def len : Tr → Nat
  | leaf => 1
  | node l r => l.len + r.len + 2
/-- the text -/
def cs : Tr → List Nat
  | leaf => [46]
  | node l r => 40 :: (l.cs ++ (r.cs ++ [41]))
theorem cs_length : ∀ t : Tr, t.cs.length = t.len
  | leaf => rfl
  | node l r => by simp [cs, len, cs_length l, cs_length r]; omega
theorem len_size : ∀ t : Tr, t.len = 3 * t.size + 1
  | leaf => rfl
  | node l r => by simp [size, len, len_size l, len_size r]; omega
theorem len_pos (t : Tr) : 0 < t.len := by rw [len_size]; omega
theorem cs_inj' : ∀ (s t : Tr) (a b : List Nat), s.cs ++ a = t.cs ++ b → s = t ∧ a = b
  | leaf, leaf, a, b, h => by simp [cs] at h; exact ⟨rfl, h⟩
  | leaf, node l r, a, b, h => by simp [cs] at h
  | node l r, leaf, a, b, h => by simp [cs] at h
  | node l r, node l' r', a, b, h => by
    simp only [cs, List.cons_append, List.append_assoc, List.cons.injEq, true_and] at h
    obtain ⟨e1, h1⟩ := cs_inj' l l' _ _ h
    obtain ⟨e2, h2⟩ := cs_inj' r r' _ _ h1
    simp at h2
    exact ⟨by rw [e1, e2], h2⟩
theorem cs_inj {s t : Tr} (h : s.cs = t.cs) : s = t := (cs_inj' s t [] [] (by rw [h])).1

/-- number of leaves -/
def lvs : Tr → Nat
  | leaf => 1
  | node l r => l.lvs + r.lvs
theorem lvs_size : ∀ t : Tr, t.lvs = t.size + 1
  | leaf => rfl
  | node l r => by simp [lvs, size, lvs_size l, lvs_size r]; omega

/-- grow the tree by the list, and what is left of it -/
def growR : Tr → List Tr → Tr × List Tr
  | leaf, [] => (leaf, [])
  | leaf, x :: xs => (x, xs)
  | node l r, xs => ((node (l.growR xs).1 (r.growR (l.growR xs).2).1), (r.growR (l.growR xs).2).2)
def grow (t : Tr) (xs : List Tr) : Tr := (t.growR xs).1
/-- the list with which the second tree grows into the first -/
def hang : Tr → Tr → Option (List Tr)
  | s, leaf => some [s]
  | leaf, node _ _ => none
  | node a b, node c d => (hang a c).bind fun x => (hang b d).map fun y => x ++ y
def meet : Tr → Tr → Tr
  | node a b, node c d => node (meet a c) (meet b d)
  | _, _ => leaf
def join : Tr → Tr → Tr
  | leaf, t => t
  | s, leaf => s
  | node a b, node c d => node (join a c) (join b d)

theorem growR_len : ∀ (t : Tr) (xs : List Tr), t.lvs ≤ xs.length → (t.growR xs).2.length + t.lvs = xs.length
  | leaf, [], h => by simp [lvs] at h
  | leaf, x :: xs, h => by simp [growR, lvs]
  | node l r, xs, h => by
    simp only [lvs] at h
    have h1 := growR_len l xs (by omega)
    have h2 := growR_len r (l.growR xs).2 (by omega)
    simp only [growR, lvs]
    omega
theorem hang_len : ∀ (s c : Tr) (xs : List Tr), hang s c = some xs → xs.length = c.lvs
  | s, leaf, xs, h => by simp [hang] at h; subst h; rfl
  | leaf, node _ _, xs, h => by simp [hang] at h
  | node a b, node c d, xs, h => by
    simp only [hang, Option.bind_eq_some_iff, Option.map_eq_some_iff] at h
    obtain ⟨x, hx, y, hy, rfl⟩ := h
    simp [lvs, hang_len a c x hx, hang_len b d y hy]
theorem growR_hang : ∀ (s c : Tr) (xs rest : List Tr), hang s c = some xs → c.growR (xs ++ rest) = (s, rest)
  | s, leaf, xs, rest, h => by simp [hang] at h; subst h; rfl
  | leaf, node _ _, xs, rest, h => by simp [hang] at h
  | node a b, node c d, xs, rest, h => by
    simp only [hang, Option.bind_eq_some_iff, Option.map_eq_some_iff] at h
    obtain ⟨x, hx, y, hy, rfl⟩ := h
    simp only [growR, List.append_assoc, growR_hang a c x _ hx, growR_hang b d y _ hy]
theorem grow_hang {s c : Tr} {xs : List Tr} (h : hang s c = some xs) : c.grow xs = s := by
  have := growR_hang s c xs [] h
  rw [List.append_nil] at this
  unfold grow; rw [this]
/-- hanging what was grown -/
theorem hang_growR : ∀ (c : Tr) (xs : List Tr), c.lvs ≤ xs.length → hang (c.growR xs).1 c = some (xs.take c.lvs) ∧ (c.growR xs).2 = xs.drop c.lvs
  | leaf, [], h => by simp [lvs] at h
  | leaf, x :: xs, h => by simp [growR, hang, lvs]
  | node l r, xs, h => by
    simp only [lvs] at h
    obtain ⟨h1, e1⟩ := hang_growR l xs (by omega)
    have hl : r.lvs ≤ (l.growR xs).2.length := by rw [e1, List.length_drop]; omega
    obtain ⟨h2, e2⟩ := hang_growR r (l.growR xs).2 hl
    refine ⟨?_, ?_⟩
    · simp only [growR, hang, h1, h2, Option.bind_some, Option.map_some, lvs]
      rw [e1, List.take_add]
    · show (r.growR (l.growR xs).2).2 = _
      rw [e2, e1, List.drop_drop]; rfl
theorem hang_grow {c : Tr} {xs : List Tr} (h : xs.length = c.lvs) : hang (c.grow xs) c = some xs := by
  have := (hang_growR c xs (by omega)).1
  unfold grow; rw [this, ← h, List.take_length]

theorem meet_comm : ∀ s t : Tr, meet s t = meet t s
  | leaf, leaf => rfl
  | leaf, node _ _ => rfl
  | node _ _, leaf => rfl
  | node a b, node c d => by simp only [meet, meet_comm a c, meet_comm b d]
theorem join_comm : ∀ s t : Tr, join s t = join t s
  | leaf, leaf => rfl
  | leaf, node _ _ => rfl
  | node _ _, leaf => rfl
  | node a b, node c d => by simp only [join, join_comm a c, join_comm b d]
theorem meet_leaf (t : Tr) : meet t leaf = leaf := by cases t <;> rfl
theorem leaf_meet (t : Tr) : meet leaf t = leaf := rfl
theorem join_leaf (t : Tr) : join t leaf = t := by cases t <;> rfl
theorem leaf_join (t : Tr) : join leaf t = t := rfl
theorem meet_self : ∀ t : Tr, meet t t = t
  | leaf => rfl
  | node a b => by simp only [meet, meet_self a, meet_self b]
theorem join_self : ∀ t : Tr, join t t = t
  | leaf => rfl
  | node a b => by simp only [join, join_self a, join_self b]
theorem meet_assoc : ∀ a b c : Tr, meet (meet a b) c = meet a (meet b c)
  | leaf, _, _ => rfl
  | node _ _, leaf, c => by simp [meet]
  | node _ _, node _ _, leaf => by simp [meet]
  | node a b, node c d, node e f => by simp only [meet, meet_assoc a c e, meet_assoc b d f]
theorem join_assoc : ∀ a b c : Tr, join (join a b) c = join a (join b c)
  | leaf, _, _ => rfl
  | node _ _, leaf, c => by rw [join_leaf, leaf_join]
  | node a b, node c d, leaf => by rw [join_leaf, join_leaf]
  | node a b, node c d, node e f => by simp only [join, join_assoc a c e, join_assoc b d f]
theorem join_meet_self : ∀ a b : Tr, join a (meet a b) = a
  | leaf, _ => rfl
  | node _ _, leaf => rfl
  | node a b, node c d => by simp only [meet, join, join_meet_self a c, join_meet_self b d]
theorem meet_join_self : ∀ a b : Tr, meet a (join a b) = a
  | leaf, _ => rfl
  | node a b, leaf => by rw [join_leaf, meet_self]
  | node a b, node c d => by simp only [meet, join, meet_join_self a c, meet_join_self b d]
theorem join_meet_distrib : ∀ a b c : Tr, join a (meet b c) = meet (join a b) (join a c)
  | leaf, b, c => rfl
  | node a b, leaf, c => by rw [leaf_meet, join_leaf, meet_join_self]
  | node a b, node c d, leaf => by rw [meet_leaf, join_leaf, meet_comm, meet_join_self]
  | node a b, node c d, node e f => by simp only [meet, join, join_meet_distrib a c e, join_meet_distrib b d f]
theorem size_join_meet : ∀ a b : Tr, (join a b).size + (meet a b).size = a.size + b.size
  | leaf, leaf => rfl
  | leaf, node _ _ => by simp [join, meet, size]
  | node _ _, leaf => by simp [join, meet, size]
  | node a b, node c d => by
    have := size_join_meet a c
    have := size_join_meet b d
    simp only [join, meet, size]; omega
theorem size_join_le (a b : Tr) : (join a b).size ≤ a.size + b.size := by have := size_join_meet a b; omega
theorem size_meet_le : ∀ (a b : Tr), (meet a b).size ≤ a.size
  | leaf, _ => Nat.le_refl _
  | node _ _, leaf => Nat.zero_le _
  | node a b, node c d => by
    have := size_meet_le a c
    have := size_meet_le b d
    simp only [meet, size]; omega
/-- the second tree grows into the first exactly if the join is the first, if the meet is the second -/
theorem hang_iff_join : ∀ s c : Tr, (hang s c).isSome = true ↔ join s c = s
  | s, leaf => by simp [hang, join_leaf]
  | leaf, node _ _ => by simp [hang, join]
  | node a b, node c d => by
    have h1 := hang_iff_join a c
    have h2 := hang_iff_join b d
    simp only [hang, join, node.injEq, ← h1, ← h2]
    cases hang a c <;> cases hang b d <;> simp
theorem hang_iff_meet : ∀ s c : Tr, (hang s c).isSome = true ↔ meet s c = c
  | s, leaf => by simp [hang, meet_leaf]
  | leaf, node _ _ => by simp [hang, meet]
  | node a b, node c d => by
    have h1 := hang_iff_meet a c
    have h2 := hang_iff_meet b d
    simp only [hang, meet, node.injEq, ← h1, ← h2]
    cases hang a c <;> cases hang b d <;> simp
theorem hang_meet (a b : Tr) : ∃ xs, hang a (meet a b) = some xs :=
  Option.isSome_iff_exists.mp ((hang_iff_meet _ _).mpr (by rw [← meet_assoc, meet_self]))
theorem hang_meet' (a b : Tr) : ∃ xs, hang b (meet a b) = some xs := by rw [meet_comm]; exact hang_meet b a
theorem hang_join (a b : Tr) : ∃ xs, hang (join a b) a = some xs :=
  Option.isSome_iff_exists.mp ((hang_iff_meet _ _).mpr (by rw [meet_comm, meet_join_self]))
/-- what the program makes of the two lists -/
def pick (x y : Tr) : Tr := if x = leaf then y else x
theorem growR_pick : ∀ (a b : Tr) (xs ys rs : List Tr), hang a (meet a b) = some xs → hang b (meet a b) = some ys →
    (meet a b).growR (List.zipWith pick xs ys ++ rs) = (join a b, rs)
  | leaf, b, xs, ys, rs, h1, h2 => by
    simp [meet, hang] at h1 h2; subst h1; subst h2
    simp [meet, growR, join, pick]
  | node a b, leaf, xs, ys, rs, h1, h2 => by
    simp [meet, hang] at h1 h2; subst h1; subst h2
    simp [meet, growR, join, pick]
  | node a b, node c d, xs, ys, rs, h1, h2 => by
    simp only [meet, hang, Option.bind_eq_some_iff, Option.map_eq_some_iff] at h1 h2
    obtain ⟨x1, hx1, x2, hx2, rfl⟩ := h1
    obtain ⟨y1, hy1, y2, hy2, rfl⟩ := h2
    have e : x1.length = y1.length := by rw [hang_len _ _ _ hx1, hang_len _ _ _ hy1]
    rw [List.zipWith_append e]
    simp only [meet, growR, join, List.append_assoc, growR_pick a c x1 y1 _ hx1 hy1, growR_pick b d x2 y2 _ hx2 hy2]
theorem grow_pick {a b : Tr} {xs ys : List Tr} (h1 : hang a (meet a b) = some xs) (h2 : hang b (meet a b) = some ys) : (meet a b).grow (List.zipWith pick xs ys) = join a b := by
  have := growR_pick a b xs ys [] h1 h2
  rw [List.append_nil] at this
  unfold grow; rw [this]

/-! ### a part at an offset of the text -/
inductive Sub (T : Tr) : Nat → Tr → Prop where
  | root : Sub T 0 T
  | left {o : Nat} {l r : Tr} : Sub T o (node l r) → Sub T (o + 1) l
  | right {o : Nat} {l r : Tr} : Sub T o (node l r) → Sub T (o + 1 + l.len) r
theorem Sub.cut {T s : Tr} {o : Nat} (h : Sub T o s) : ∃ A B, T.cs = A ++ (s.cs ++ B) ∧ A.length = o := by
  induction h with
  | root => exact ⟨[], [], by simp, rfl⟩
  | @left o l r _ ih =>
    obtain ⟨A, B, e, h⟩ := ih
    exact ⟨A ++ [40], r.cs ++ [41] ++ B, by rw [e]; simp [cs], by simp [h]⟩
  | @right o l r _ ih =>
    obtain ⟨A, B, e, h⟩ := ih
    exact ⟨A ++ [40] ++ l.cs, [41] ++ B, by rw [e]; simp [cs], by simp [h, cs_length]; omega⟩
/-- where each part ends, by its first sign's index (0 at closing signs) -/
def ends : Nat → Tr → List Nat
  | o, leaf => [o + 1]
  | o, node l r => (o + (node l r).len) :: (ends (o + 1) l ++ (ends (o + 1 + l.len) r ++ [0]))
theorem ends_length : ∀ (o : Nat) (t : Tr), (ends o t).length = t.len
  | o, leaf => rfl
  | o, node l r => by simp [ends, len, ends_length _ l, ends_length _ r]; omega
theorem Sub.ends_at {T s : Tr} {o : Nat} (h : Sub T o s) : ∃ A B, ends 0 T = A ++ (ends o s ++ B) ∧ A.length = o := by
  induction h with
  | root => exact ⟨[], [], by simp, rfl⟩
  | @left o l r _ ih =>
    obtain ⟨A, B, e, h⟩ := ih
    exact ⟨A ++ [o + (node l r).len], ends (o + 1 + l.len) r ++ [0] ++ B, by rw [e]; simp [ends], by simp [h]⟩
  | @right o l r _ ih =>
    obtain ⟨A, B, e, h⟩ := ih
    exact ⟨A ++ [o + (node l r).len] ++ ends (o + 1) l, [0] ++ B, by rw [e]; simp [ends], by simp [h, ends_length]; omega⟩
theorem ends_head (o : Nat) (s : Tr) : ∃ B, ends o s = (o + s.len) :: B := by
  cases s with
  | leaf => exact ⟨[], rfl⟩
  | node l r => exact ⟨_, rfl⟩
theorem Sub.end_get {T s : Tr} {o : Nat} (h : Sub T o s) : (ends 0 T)[o]? = some (o + s.len) := by
  obtain ⟨A, B, e, hl⟩ := h.ends_at
  obtain ⟨C, e2⟩ := ends_head o s
  rw [e, e2, ← hl, List.getElem?_append_right (Nat.le_refl _), Nat.sub_self]
  simp
theorem Sub.le {T s : Tr} {o : Nat} (h : Sub T o s) : o + s.len ≤ T.len := by
  obtain ⟨A, B, e, hl⟩ := h.cut
  have := congrArg List.length e
  simp [cs_length, hl] at this
  omega
theorem Sub.size_le {T s : Tr} {o : Nat} (h : Sub T o s) : s.size ≤ T.size := by
  have h1 := h.le
  rw [len_size, len_size] at h1
  omega
end Tr
end TT

set_option Elab.async false
set_option linter.all false
set_option maxRecDepth 100000
set_option maxHeartbeats 4000000
/-! further rules over the hand layer -/
namespace TT
open PySem PySem.Spec PyProof.Rows L2

/-! ### texts as lists of signs -/
abbrev S (l : List Nat) : Str := ⟨l.toArray⟩
theorem S_app (a b : List Nat) : S a ++ S b = S (a ++ b) := by
  show Str.append (S a) (S b) = _
  unfold Str.append
  simp
theorem S_len (a : List Nat) : (S a).length = a.length := by simp [Str.length]
theorem S_inj {a b : List Nat} (h : S a = S b) : a = b := by
  have := congrArg (fun x => x.cps.toList) h
  simpa using this
theorem S_iff {a b : List Nat} : S a = S b ↔ a = b := ⟨S_inj, fun h => by rw [h]⟩
theorem S_of (x : Str) : x = S x.cps.toList := by cases x; simp
theorem lit_open : ("(" : Str) = S [40] := by decide +kernel
theorem lit_close : (")" : Str) = S [41] := by decide +kernel
theorem lit_dot : ("." : Str) = S [46] := by decide +kernel
theorem lit_empty : ("" : Str) = S [] := by decide +kernel
theorem lit_l : ("l" : Str) = S [108] := by decide +kernel
theorem lit_r : ("r" : Str) = S [114] := by decide +kernel
theorem lit_tree : ("tree" : Str) = S [116, 114, 101, 101] := by decide +kernel
theorem lit_end : ("end" : Str) = S [101, 110, 100] := by decide +kernel

section
variable {X : Cx}
theorem sg_eq {d : Nat} {x : Str} (hx : x = S [d]) : ({ cps := #[d] } : Str) = x := hx.symm
theorem sg_ne {c d : Nat} {x : Str} (hx : x = S [d]) (h : c ≠ d) : ¬ ({ cps := #[c] } : Str) = x := fun e => h (by
  have := S_inj (a := [c]) (b := [d]) (e.trans hx)
  simpa using this)
theorem ifdT {p A B : Prop} [Decidable p] (h : p) (a : A) : if decide p = true then A else B := by rw [if_pos (decide_eq_true h)]; exact a
theorem ifdF {p A B : Prop} [Decidable p] (h : ¬ p) (b : B) : if decide p = true then A else B := by rw [if_neg (by rw [decide_eq_true_eq]; exact h)]; exact b
theorem ifnT {p A B : Prop} [Decidable p] (h : ¬ p) (a : A) : if (!decide p) = true then A else B := by rw [if_pos (by rw [decide_eq_false h]; rfl)]; exact a
theorem ifnF {p A B : Prop} [Decidable p] (h : p) (b : B) : if (!decide p) = true then A else B := by rw [if_neg (by rw [decide_eq_true h]; exact Bool.false_ne_true)]; exact b
theorem ixN_nat {n j : Nat} (h : j < n) : ixN n (j : Int) = some j := by
  unfold ixN
  rw [if_pos (by omega), if_pos (by omega)]; simp
/-- readings told with K -/
def tTruK (K : PySem.W.Frag) (ta : TE) : TT := fun σ H Q => ta σ H fun x H' => ∃ k, TruV K x H' k ∧ Q k H'
def rLenSK (K : PySem.W.Frag) : List V → Hp → VK → Prop := fun xs H Q => ∃ p ys, xs = [.ref p] ∧ (SqL K H p ys ∨ SqT K H p ys) ∧ Q (.int ys.length) H
theorem cxOf_K {CX : CXT} {P : Program} {w : World} {K : PySem.W.Frag} {mg : Str → Option Value} {base : Heap} {N : List Str} {qual : Str} {scope : Scope} {f : Addr} {cd : Value} {A : Around} {outer : List Env} {s : Shared} {H : Hp} {E : XK} :
    (cxOf CX P w K mg base N qual scope f cd A outer s H E).K = K := rfl
/-- a text, a list: of their own kind -/
theorem tyV_lst {K : PySem.W.Frag} {H : Hp} {a : Addr} {xs : List V} (h : H a = some (.lst xs)) : tyV K "list" (.ref a) H := .inl ⟨rfl, _, SqL.of h⟩
theorem _root_.L2.Same.new {H H' : Hp} {p : Addr} (e : Same H H') (h : H p = none) (o : HO) : Same H (upd H' p o) := fun b u q => by
  rw [upd_ne (ne_of_none q h)]; exact e b u q
theorem _root_.L2.Same.get {H H' : Hp} {a : Addr} {o : HO} (e : Same H H') (h : H a = some o) : H' a = some o := e a o h
theorem small5 {n : Nat} (h : n ≤ 16000000) : n ≤ sizeLine := by rw [sizeLine_eq]; omega
theorem small5' {n : Nat} (h : n ≤ 16000000) : n < sizeLine := by rw [sizeLine_eq]; omega
/-! ### powers -/
def CPowB (i j : Int) : Prop := 0 ≤ j ∧ (Builtin.Int.intBits i : Int) * j ≤ 2 ^ 27
theorem op_powB : OpR X (binaryOp .Pow) (rI CPowB fun i j => .int (i ^ j.toNat)) := opI fun _ _ _ _ _ _ _ hc q => pow_int hc.1 hc.2 q

theorem call_intI : CallR X (.type "int") (fun xs H Q => ∃ i, xs = [.int i] ∧ Q (.int i) H) := fun pins s σ H xs us Q I r h => call_int1 pins s σ H xs us Q I r (.inl h)
theorem call_intB : CallR X (.type "int") (fun xs H Q => ∃ k, xs = [.bl k] ∧ Q (.int (if k then 1 else 0)) H) := fun pins s σ H xs us Q I r h => call_int1 pins s σ H xs us Q I r (.inr h)
theorem cmulR {i j : Int} (h : -(2 ^ 64) < j ∧ j < 2 ^ 64) : CMul i j := .inr h
theorem cmulL {i j : Int} (h : -(2 ^ 64) < i ∧ i < 2 ^ 64) : CMul i j := .inl h
theorem cmod (x : Int) {m : Int} (h : 0 < m) (h2 : m < 2 ^ 64) : -(2 ^ 64) < x % m ∧ x % m < 2 ^ 64 := by
  have h3 := Int.emod_nonneg x (show m ≠ 0 by omega)
  have h4 := Int.emod_lt_of_pos x h
  omega
theorem cdivW {i b : Int} (h : 1 ≤ b) (h2 : b < 1000000000000000) : CDivW i b := by
  refine ⟨by omega, ?_⟩
  have : b.natAbs.log2 < 50 := (Nat.log2_lt (by omega)).mpr (by omega)
  omega
/-! ### enumerate of a text -/
def Ites (x : Str) : It :=
  ⟨fun i _ => i < x.cps.size, fun i H v H' => ∃ T c, v = .ref T ∧ H T = none ∧ x.cps[i]? = some c ∧ H' = upd H T (.tup [.int (i : Nat), .str ⟨#[c]⟩]), fun i _ => x.cps.size ≤ i⟩
theorem turn_enumS {P : Program} {w : World} {K : PySem.W.Frag} {elts : List Expr} {kk : Nat} {tpos : Pos} (e it : Addr) (x : Str) (t : Tok) (ty : String) (hty : ty = "str_ascii_iterator" ∨ ty = "str_iterator") :
    Turn P w K (.Tuple elts kk tpos) (Ites x) [e, it] e (fun i h => (∃ old, IsEnum h e it ((i : Nat) : Int) old) ∧ h.IsStrIter it ty x t i ∧ e ≠ it) where
  mem := by simp
  obj := fun i h st b hb => by
    obtain ⟨⟨old, he⟩, ⟨o, ho, hc, hd⟩, _⟩ := st
    have e' : b = e ∨ b = it := by simpa using hb
    rcases e' with z | z
    · rw [z]; exact ⟨_, he, fun v q => nomatch q⟩
    · rw [z]; exact ⟨o, ho, fun v q => by rw [hd] at q; cases q⟩
  keep := fun i h h' st k => by
    obtain ⟨⟨old, he⟩, ⟨o, ho, r⟩, hne⟩ := st
    exact ⟨⟨old, k e (by simp) _ he⟩, ⟨o, k it (by simp) o ho, r⟩, hne⟩
  item := by
    intro X hP hw hK hc i pins s σ H E I hf st hg
    subst hP hw hK
    obtain ⟨⟨old, he⟩, hit, hne⟩ := st
    have hel : e < s.heap.objs.size := Heap.lt_size he
    have hil : it < s.heap.objs.size := by obtain ⟨_, q, _⟩ := hit; exact Heap.lt_size q
    have D : Draws X.prog X.w X.A.in1 it [it] x.cps.size (fun i v => ∃ c u, x.cps[i]? = some c ∧ v = .str ⟨#[c]⟩ u) (fun i h => h.IsStrIter it ty x t i) := by
      rcases hty with q | q
      · rw [q]; exact Draws.strAscii (A := X.A.in1) (I.ok.hd hc) it x t
      · rw [q]; exact Draws.strWide (A := X.A.in1) (I.ok.hd hc) it x t
    refine wpAny_pyNext_enum_itemD D he hit hg hne (by simpa using hne) fun y h' tk hy ho hit' hT hsz hk => ?_
    obtain ⟨c, u, hcx, rfl⟩ := hy
    refine ⟨_, rfl, wpAny_letOwnedTupleGo_enum (s := { s with heap := h', toks := tk + 1 }) ho fun h'' he' sb => ?_⟩
    have hT2 : h''.get? s.heap.objs.size = some { cls := .type "tuple", data := .seq #[.int i tk, .str ⟨#[c]⟩ u] } := (sb.2 _ (Nat.ne_of_gt hel)).trans hT
    have new : ObjOk X.prog X.w (upd H s.heap.objs.size (.tup [.int (i : Nat), .str ⟨#[c]⟩])) h'' s.heap.objs.size (.tup [.int (i : Nat), .str ⟨#[c]⟩]) :=
      ⟨by show 2 ≤ sizeLine; decide, [.int i tk, .str ⟨#[c]⟩ u], .cons ⟨_, rfl⟩ (.cons ⟨_, rfl⟩ .nil), ⟨_, hT2, rfl, _, rfl⟩⟩
    have I1 : Inv X pins σ (upd H s.heap.objs.size (.tup [.int (i : Nat), .str ⟨#[c]⟩])) { s with heap := h'', toks := tk + 1 } :=
      I.turnedNew (ch := [e, it]) (fun b ob hb q => (sb.2 b (fun z => hb (by simp [z]))).trans (hk b ob (fun z => hb (by simp [z])) (fun z => hb (by simp [z])) q)) hf (Nat.le_refl _) new
    refine ⟨.ref s.heap.objs.size, _, I1, rfl, ⟨_, c, rfl, I.hok.fresh (Nat.le_refl _), hcx, rfl⟩, ⟨⟨.str ⟨#[c]⟩ u, ?_⟩, ?_, hne⟩, fun b hb => ?_⟩
    · have e1 : ((i + 1 : Nat) : Int) = (i : Int) + 1 := by omega
      rw [e1]; exact he'
    · obtain ⟨o, ho', r⟩ := hit'
      exact ⟨o, (sb.2 it (Ne.symm hne)).trans ho', r⟩
    · have hb' : b < s.heap.objs.size := by
        have e' : b = e ∨ b = it := by simpa using hb
        rcases e' with z | z
        · rw [z]; exact hel
        · rw [z]; exact hil
      rw [upd_ne (Nat.ne_of_lt hb')]
      exact (hf b hb).1
  done := by
    intro X hP hw hK hc i pins s σ H E I hf st hg
    subst hP hw hK
    obtain ⟨⟨old, he⟩, hit, hne⟩ := st
    obtain ⟨f0, f1, f2, f3, f4, f5⟩ := hf it (by simp)
    have hx : x.cps[i]? = none := Array.getElem?_eq_none hg
    have hT : s.TypeIs (.ref e) "enumerate" := ⟨_, he, rfl⟩
    unfold pyNext
    refine wpAny_bind (wpAny_attempt (wpAny_callSpecial?_slot (name := Str.ofString "__next__") hT F.slot_enumerate_next
      (wpAny_call_entry F.slot_enumerate_next hT F.entry_enumerate_next ?_ (F.args_enumerate_next_1 _))))
    show wpAny _ _ (field (.ref e) 2 >>= _) _ _ _
    refine wpAny_bind (wpAny_field he rfl (x := .ref it) rfl ?_)
    rcases hty with q | q
    · subst q
      refine wpAny_bind (wpAny_nextOf_ascii_end (A := X.A.in1) (I.ok.hd hc) hit hx fun h' e2 he2 hx' => ?_)
      obtain ⟨o, ho, hcc⟩ := hx'
      refine wpAny_bind (wpAny_isInstance (T := "StopIteration") (b := true) ⟨o, ho, hcc⟩ isSubtype_stop ?_)
      exact wpAny_pure ⟨rfl, I.turned (t' := s.toks) (fun b o hb y => he2 b o hb y) f0 f1 f3 f4 f5⟩
    · subst q
      refine wpAny_bind (wpAny_nextOf_wide_end (A := X.A.in1) (I.ok.hd hc) hit hx fun h' e2 he2 hx' => ?_)
      obtain ⟨o, ho, hcc⟩ := hx'
      refine wpAny_bind (wpAny_isInstance (T := "StopIteration") (b := true) ⟨o, ho, hcc⟩ isSubtype_stop ?_)
      exact wpAny_pure ⟨rfl, I.turned (t' := s.toks) (fun b o hb y => he2 b o hb y) f0 f1 f3 f4 f5⟩
  self := fun A i s Q E st h => let ⟨⟨_, he⟩, _⟩ := st; wpAny_pyIter_enum he h
def iEnumS (ta : TA) : TI := fun σ H R => ta σ H fun vs H1 => ∃ x, vs = [.str x] ∧ R (Ites x) H1
theorem pi_enumS {e : Expr} {ta : TA} {p pos tpos : Pos} {elts : List Expr} {kk : Nat} (hg : Gl X "enumerate") (hm : X.mg "enumerate" = none) (ha : PA X [e] ta) (hs : starEach [e] X.env = [(false, eval e X.env)] := by rfl) :
    PI X (.Tuple elts kk tpos) (.Call (.Name "enumerate" p) [e] [] pos) (iEnumS ta) := by
  refine ⟨fun pins s σ H R I h => ?_⟩
  refine Call_ (ld_blt I hg hm boot_enumerate (PyProof.Rows.callWith_type1 (thn (ha.run pos pins s σ H _ I h) fun us s1 ⟨vs, H1, I1, r1, q1⟩ => ?_) hs rfl))
  obtain ⟨x, ex, q⟩ := q1
  subst ex
  cases r1 with
  | cons r rr =>
    cases rr
    obtain ⟨t, rfl⟩ := r
    refine call_enumerate_str fun h' he hit hsz hk => wpAny_pyIter_enum he ?_
    have I2 : Inv X pins σ H1 { s1 with heap := h' } := I1.kept (t' := s1.toks) hk
    have hty : strIterType x = "str_ascii_iterator" ∨ strIterType x = "str_iterator" := by
      unfold strIterType
      split
      · exact .inl rfl
      · exact .inr rfl
    refine ⟨s1.heap.objs.size + 1, [s1.heap.objs.size + 1, s1.heap.objs.size], _, _, H1, rfl, I2, turn_enumS (s1.heap.objs.size + 1) s1.heap.objs.size x t _ hty, ⟨⟨.none, he⟩, hit, Nat.succ_ne_self _⟩, fun b hb => ?_, q⟩
    have e' : b = s1.heap.objs.size + 1 ∨ b = s1.heap.objs.size := by simpa using hb
    have hle : s1.heap.objs.size ≤ b := by
      rcases e' with z | z
      · rw [z]; exact Nat.le_add_right _ _
      · rw [z]; exact Nat.le_refl _
    exact I1.fpOk hle (I1.hok.fresh hle)
end
/-- a loop over enumerate(text) -/
theorem for_enumS {x : Str} {g : TG} {tb : TS} {D : Ends} {σ : L2.St} {H : Hp} (Pv : Nat → L2.St → Hp → Prop) (h0 : Pv 0 σ H)
    (hs : ∀ i c σ H T, x.cps[i]? = some c → Pv i σ H → H T = none → g (.ref T) σ (upd H T (.tup [.int (i : Nat), .str ⟨#[c]⟩])) fun σ2 H2 => tb { D with nx := Pv (i + 1), ct := Pv (i + 1), bk := D.nx } σ2 H2) (hd : ∀ σ H, Pv x.cps.size σ H → D.nx σ H) :
    ∃ W : Nat → Nat → L2.St → Hp → Prop, (∃ m, W 0 m σ H) ∧ ∀ i m σ H, W i m σ H →
      ((Ites x).stop i H ∧ D.nx σ H) ∨ ((Ites x).go i H ∧ ∃ N : L2.St → Hp → Prop, (∀ σ' H', N σ' H' → ∃ m', m' < m ∧ W (i + 1) m' σ' H') ∧ ∀ v H', (Ites x).yld i H v H' → g v σ H' fun σ2 H2 => tb { D with nx := N, ct := N, bk := D.nx } σ2 H2) := by
  refine ⟨fun i m σ H => m = x.cps.size - i ∧ i ≤ x.cps.size ∧ Pv i σ H, ⟨x.cps.size, by simp, Nat.zero_le _, h0⟩, ?_⟩
  rintro i m σ H ⟨rfl, hi, p⟩
  by_cases hlt : i < x.cps.size
  · refine .inr ⟨hlt, Pv (i + 1), fun σ' H' q => ⟨x.cps.size - (i + 1), by omega, rfl, hlt, q⟩, fun v H' y => ?_⟩
    obtain ⟨T, c, rfl, hT, hc, rfl⟩ := y
    exact hs i c σ H T hc p hT
  · have : i = x.cps.size := by omega
    subst this
    exact .inl ⟨Nat.le_refl _, hd σ H p⟩
/-- a loop over a text's signs -/
theorem for_str {x : Str} {g : TG} {tb : TS} {D : Ends} {σ : L2.St} {H : Hp} (Pv : Nat → L2.St → Hp → Prop) (h0 : Pv 0 σ H)
    (hs : ∀ i c σ H, x.cps[i]? = some c → Pv i σ H → g (.str ⟨#[c]⟩) σ H fun σ2 H2 => tb { D with nx := Pv (i + 1), ct := Pv (i + 1), bk := D.nx } σ2 H2) (hd : ∀ σ H, Pv x.cps.size σ H → D.nx σ H) :
    ∃ W : Nat → Nat → L2.St → Hp → Prop, (∃ m, W 0 m σ H) ∧ ∀ i m σ H, W i m σ H →
      ((Its x).stop i H ∧ D.nx σ H) ∨ ((Its x).go i H ∧ ∃ N : L2.St → Hp → Prop, (∀ σ' H', N σ' H' → ∃ m', m' < m ∧ W (i + 1) m' σ' H') ∧ ∀ v H', (Its x).yld i H v H' → g v σ H' fun σ2 H2 => tb { D with nx := N, ct := N, bk := D.nx } σ2 H2) := by
  refine ⟨fun i m σ H => m = x.cps.size - i ∧ i ≤ x.cps.size ∧ Pv i σ H, ⟨x.cps.size, by simp, Nat.zero_le _, h0⟩, ?_⟩
  rintro i m σ H ⟨rfl, hi, p⟩
  by_cases hlt : i < x.cps.size
  · refine .inr ⟨hlt, Pv (i + 1), fun σ' H' q => ⟨x.cps.size - (i + 1), by omega, rfl, hlt, q⟩, fun v H' y => ?_⟩
    obtain ⟨rfl, c, hc, rfl⟩ := y
    exact hs i c σ H' hc p
  · have : i = x.cps.size := by omega
    subst this
    exact .inl ⟨Nat.le_refl _, hd σ H p⟩
/-- a comprehension over zip(two lists) -/
theorem lc_zip {K : PySem.W.Frag} {a b : Addr} {xs ys : List V} {g : TG} {tt : TT} {te : TE} {vs : List Nat} {σ : L2.St} {H1 : Hp} {D : Addr} {Qd : Hp → Prop} (Pv : Nat → Hp → Prop) (h0 : Pv 0 (upd H1 D (.lst [])))
    (hl : ∀ i H, Pv i H → SqL K H a xs ∧ SqL K H b ys)
    (hs : ∀ i x y H T, xs[i]? = some x → ys[i]? = some y → Pv i H → H T = none → g (.ref T) (wipe σ vs) (upd H T (.tup [x, y])) fun σ2 H2 => wipe σ2 vs = wipe σ vs ∧ tt σ2 H2 fun b H3 =>
      if b = true then te σ2 H3 fun y H4 => ∃ acc, H4 D = some (.lst acc) ∧ acc.length < sizeLine ∧ Pv (i + 1) (upd H4 D (.lst (acc ++ [y]))) else Pv (i + 1) H3)
    (hd : ∀ H, Pv (min xs.length ys.length) H → Qd H) :
    ∃ W : Nat → Nat → Hp → Prop, (∃ m, W 0 m (upd H1 D (.lst []))) ∧ ∀ i m H, W i m H →
      ((Itz K a b).stop i H ∧ Qd H) ∨ ((Itz K a b).go i H ∧ ∃ Nx : Hp → Prop, (∀ H', Nx H' → ∃ m', m' < m ∧ W (i + 1) m' H') ∧ ∀ x H', (Itz K a b).yld i H x H' → g x (wipe σ vs) H' fun σ2 H2 => wipe σ2 vs = wipe σ vs ∧ tt σ2 H2 fun b H3 =>
        if b = true then te σ2 H3 fun y H4 => ∃ acc, H4 D = some (.lst acc) ∧ acc.length < sizeLine ∧ Nx (upd H4 D (.lst (acc ++ [y]))) else Nx H3) := by
  refine ⟨fun i m H => m = min xs.length ys.length - i ∧ i ≤ min xs.length ys.length ∧ Pv i H, ⟨_, rfl, Nat.zero_le _, h0⟩, ?_⟩
  rintro i m H ⟨rfl, hi, p⟩
  obtain ⟨q1, q2⟩ := hl i H p
  by_cases hlt : i < min xs.length ys.length
  · have l1 : i < xs.length := by omega
    have l2 : i < ys.length := by omega
    refine .inr ⟨⟨xs, ys, _, _, q1, q2, List.getElem?_eq_getElem l1, List.getElem?_eq_getElem l2⟩, Pv (i + 1), fun H' q => ⟨_, by omega, rfl, hlt, q⟩, fun v H' y => ?_⟩
    obtain ⟨T, x, y, rfl, hT, rfl, e1, e2⟩ := y
    exact hs i x y H T (e1 xs q1) (e2 ys q2) p hT
  · have : i = min xs.length ys.length := by omega
    subst this
    exact .inl ⟨⟨xs, ys, q1, q2, by omega⟩, hd H p⟩
theorem lst_len {P : Prop} (h : P) : P := h
end TT

set_option linter.all false
set_option maxRecDepth 100000
/-! texts cut and joined, as lists of signs -/
namespace TT
open PySem PySem.Spec PyProof.Rows L2
open TL (joinL join_eq tl_join split_join tl)
theorem cnt_count (c : Nat) : ∀ l : List Nat, cnt c l = ((l.count c : Nat) : Int)
  | [] => rfl
  | x :: r => by
    rw [cnt_cons, cnt_count c r, List.count_cons]
    by_cases h : x = c <;> simp [h] <;> omega
theorem count_S (l : List Nat) (c : Nat) : Txt.count (S l) (S [c]) = ((l.count c : Nat) : Int) := by
  have := count_cnt (S l) c
  rw [cnt_count] at this
  exact this
/-- cut at every c -/
def spl (c : Nat) : List Nat → List (List Nat)
  | [] => [[]]
  | x :: xs => if x = c then [] :: spl c xs else ((x :: (spl c xs).headD []) :: (spl c xs).tail)
theorem spl_ne (c : Nat) (l : List Nat) : spl c l ≠ [] := by
  cases l with
  | nil => simp [spl]
  | cons x xs => unfold spl; split <;> simp
theorem spl_eq (c : Nat) (l : List Nat) : spl c l = (spl c l).headD [] :: (spl c l).tail := by
  have := spl_ne c l
  cases h : spl c l with
  | nil => exact absurd h this
  | cons a b => rfl
theorem spl_length (c : Nat) : ∀ l : List Nat, (spl c l).length = l.count c + 1
  | [] => rfl
  | x :: xs => by
    unfold spl
    have ih := spl_length c xs
    rw [List.count_cons]
    by_cases h : x = c
    · simp [h, ih]
    · simp [h]; have := spl_eq c xs; omega
theorem spl_free (c : Nat) : ∀ l : List Nat, ∀ p ∈ spl c l, c ∉ p
  | [], p, hp => by simp [spl] at hp; subst hp; simp
  | x :: xs, p, hp => by
    have ih := spl_free c xs
    rw [spl_eq c xs] at ih
    unfold spl at hp
    by_cases h : x = c
    · simp only [h, if_true] at hp
      rcases List.mem_cons.mp hp with rfl | hp
      · simp
      · rw [spl_eq c xs] at hp; exact ih p hp
    · simp only [h, if_false] at hp
      rcases List.mem_cons.mp hp with rfl | hp
      · intro hc
        rcases List.mem_cons.mp hc with rfl | hc
        · exact h rfl
        · exact ih _ List.mem_cons_self hc
      · exact ih p (List.mem_cons_of_mem _ hp)
theorem spl_joinL (c : Nat) : ∀ l : List Nat, joinL [c] (spl c l) = l
  | [] => rfl
  | x :: xs => by
    have ih := spl_joinL c xs
    unfold spl
    by_cases h : x = c
    · simp only [h, if_true]
      rw [spl_eq c xs] at ih ⊢
      show [] ++ ([c] ++ joinL [c] (_ :: _)) = c :: xs
      rw [ih]; rfl
    · simp only [h, if_false]
      rw [spl_eq c xs] at ih
      cases ht : (spl c xs).tail with
      | nil =>
        rw [ht] at ih
        show x :: (spl c xs).headD [] = x :: xs
        have ih' : (spl c xs).headD [] = xs := ih
        rw [ih']
      | cons q r =>
        rw [ht] at ih
        show (x :: (spl c xs).headD []) ++ ([c] ++ joinL [c] (q :: r)) = x :: xs
        have ih' : (spl c xs).headD [] ++ ([c] ++ joinL [c] (q :: r)) = xs := ih
        rw [List.cons_append, ih']
theorem tl_S (l : List Nat) : tl (S l) = l := by simp [tl]
theorem tl_mapS : ∀ ls : List (List Nat), (ls.map S).map tl = ls
  | [] => rfl
  | l :: ls => by rw [List.map_cons, List.map_cons, tl_S, tl_mapS ls]
theorem S_tl (x : Str) : S (tl x) = x := by cases x; simp [tl]
theorem split_S (l : List Nat) (c : Nat) (hc : c < 256) : Txt.split (S l) (S [c]) = (spl c l).map S := by
  have e : Txt.join (S [c]) ((spl c l).map S) = S l := by
    rw [join_eq, ← S_tl (Str.join _ _), tl_join, tl_mapS, tl_S, spl_joinL]
  rw [← e]
  refine split_join (s := c) (S := []) (tl_S _) (by simp [hc]) (by simp [spl_ne]) fun p hp => ?_
  obtain ⟨q, hq, rfl⟩ := List.mem_map.mp hp
  rw [tl_S]
  exact spl_free c l q hq
theorem joinL_nil : ∀ ls : List (List Nat), joinL [] ls = ls.flatten
  | [] => rfl
  | [p] => by simp [joinL]
  | p :: q :: r => by
    show p ++ ([] ++ joinL [] (q :: r)) = _
    rw [joinL_nil (q :: r)]; simp
theorem join_S (ls : List (List Nat)) : Txt.join (S []) (ls.map S) = S ls.flatten := by
  rw [join_eq, ← S_tl (Str.join _ _), tl_join, tl_mapS, tl_S, joinL_nil]

/-! ### a text with its leaves' signs replaced -/
def sub46 : List Nat → List (List Nat) → List Nat
  | [], _ => []
  | x :: xs, ys => if x = 46 then ys.headD [] ++ sub46 xs ys.tail else x :: sub46 xs ys
theorem sub46_other {x : Nat} (xs : List Nat) (ys : List (List Nat)) (h : x ≠ 46) : sub46 (x :: xs) ys = x :: sub46 xs ys := by
  show (if x = 46 then _ else _) = _
  rw [if_neg h]
theorem weave : ∀ (l : List Nat) (ys : List (List Nat)), ys.length = l.count 46 → (spl 46 l).headD [] ++ (List.zipWith (fun i p => i ++ p) ys (spl 46 l).tail).flatten = sub46 l ys
  | [], ys, h => by simp [spl, sub46]
  | x :: xs, ys, h => by
    rw [List.count_cons] at h
    unfold spl sub46
    by_cases hx : x = 46
    · simp only [hx, if_true]
      cases ys with
      | nil => simp [hx] at h
      | cons y ys =>
        have hl : ys.length = xs.count 46 := by simp [hx] at h; exact h
        have ih := weave xs ys hl
        rw [spl_eq 46 xs]
        simp only [List.headD_cons, List.tail_cons, List.zipWith_cons_cons, List.flatten_cons, List.nil_append, List.append_assoc]
        rw [ih]
    · simp only [hx, if_false]
      have hl : ys.length = xs.count 46 := by simp [hx] at h; exact h
      have ih := weave xs ys hl
      simp only [List.headD_cons, List.tail_cons, List.cons_append]
      rw [ih]
theorem count_tree : ∀ t : Tr, t.cs.count 46 = t.lvs
  | .leaf => rfl
  | .node l r => by simp [Tr.cs, Tr.lvs, count_tree l, count_tree r]
theorem count_open : ∀ t : Tr, t.cs.count 40 = t.size
  | .leaf => rfl
  | .node l r => by simp [Tr.cs, Tr.size, count_open l, count_open r]
theorem sub_tree : ∀ (t : Tr) (rest : List Nat) (xs : List Tr), t.lvs ≤ xs.length → sub46 (t.cs ++ rest) (xs.map Tr.cs) = (t.growR xs).1.cs ++ sub46 rest ((t.growR xs).2.map Tr.cs)
  | .leaf, rest, [], h => by simp [Tr.lvs] at h
  | .leaf, rest, x :: xs, h => by simp [Tr.cs, sub46, Tr.growR]
  | .node l r, rest, xs, h => by
    simp only [Tr.lvs] at h
    have hl := Tr.growR_len l xs (by omega)
    show sub46 (40 :: ((l.cs ++ (r.cs ++ [41])) ++ rest)) _ = _
    rw [sub46_other _ _ (by decide), List.append_assoc, sub_tree l _ xs (by omega), List.append_assoc, sub_tree r _ _ (by omega)]
    show _ = (40 :: ((l.growR xs).1.cs ++ ((r.growR (l.growR xs).2).1.cs ++ [41]))) ++ _
    simp only [List.cons_append, List.append_assoc, List.nil_append]
    rw [sub46_other _ _ (by decide)]
    rfl
theorem grown_text (t : Tr) (xs : List Tr) (h : xs.length = t.lvs) :
    (spl 46 t.cs).headD [] ++ (List.zipWith (fun i p => i ++ p) (xs.map Tr.cs) (spl 46 t.cs).tail).flatten = (t.grow xs).cs := by
  rw [weave _ _ (by rw [List.length_map, count_tree]; exact h)]
  have := sub_tree t [] xs (by omega)
  rw [List.append_nil] at this
  rw [this]
  unfold Tr.grow
  show _ ++ [] = _
  rw [List.append_nil]
theorem spl_le (c : Nat) : ∀ l : List Nat, ∀ p ∈ spl c l, p.length ≤ l.length
  | [], p, hp => by simp [spl] at hp; subst hp; simp
  | x :: xs, p, hp => by
    have ih := spl_le c xs
    rw [spl_eq c xs] at ih
    unfold spl at hp
    by_cases h : x = c
    · simp only [h, if_true] at hp
      rcases List.mem_cons.mp hp with rfl | hp
      · simp
      · rw [spl_eq c xs] at hp
        exact Nat.le_succ_of_le (ih p hp)
    · simp only [h, if_false] at hp
      rcases List.mem_cons.mp hp with rfl | hp
      · exact Nat.succ_le_succ (ih _ List.mem_cons_self)
      · exact Nat.le_succ_of_le (ih p (List.mem_cons_of_mem _ hp))
theorem growR_size {B : Nat} : ∀ (t : Tr) (xs : List Tr), (∀ x ∈ xs, x.size ≤ B) → (t.growR xs).1.size ≤ t.size + t.lvs * B ∧ ∀ x ∈ (t.growR xs).2, x.size ≤ B
  | .leaf, [], h => by simp [Tr.growR, Tr.size]
  | .leaf, x :: xs, h => by
    have := h x List.mem_cons_self
    refine ⟨?_, fun y hy => h y (List.mem_cons_of_mem _ hy)⟩
    show x.size ≤ 0 + 1 * B
    omega
  | .node l r, xs, h => by
    obtain ⟨h1, h2⟩ := growR_size l xs h
    obtain ⟨h3, h4⟩ := growR_size r _ h2
    refine ⟨?_, h4⟩
    show (l.growR xs).1.size + (r.growR (l.growR xs).2).1.size + 1 ≤ l.size + r.size + 1 + (l.lvs + r.lvs) * B
    rw [Nat.add_mul]
    omega
theorem grow_size {B : Nat} (t : Tr) (xs : List Tr) (h : ∀ x ∈ xs, x.size ≤ B) : (t.grow xs).size ≤ t.size + t.lvs * B := (growR_size t xs h).1
theorem sumlen_S (ls : List (List Nat)) : ((ls.map S).map (·.length)).sum = ls.flatten.length := by
  induction ls with
  | nil => rfl
  | cons l ls ih => rw [List.map_cons, List.map_cons, List.sum_cons, ih, List.flatten_cons, List.length_append, S_len]
end TT

set_option linter.all false
set_option maxRecDepth 100000
/-! where the parts end: as the program goes along the signs -/
namespace TT
open PySem
def endsRun : List Nat → Nat → List Nat → List Nat → Option (List Nat)
  | [], _, b, st => if st = [] then some b else none
  | c :: cs, k, b, st =>
    if c = 40 then endsRun cs (k + 1) b (k :: st)
    else if c = 41 then
      match st with
      | [] => none
      | o :: st' => if o < b.length then endsRun cs (k + 1) (b.set o (k + 1)) st' else none
    else if k < b.length then endsRun cs (k + 1) (b.set k (k + 1)) st else none
theorem endsRun_open (cs : List Nat) (k : Nat) (b st : List Nat) : endsRun (40 :: cs) k b st = endsRun cs (k + 1) b (k :: st) := rfl
theorem endsRun_close (cs : List Nat) (k o : Nat) (b st : List Nat) (h : o < b.length) : endsRun (41 :: cs) k b (o :: st) = endsRun cs (k + 1) (b.set o (k + 1)) st := by
  show (if o < b.length then _ else _) = _
  rw [if_pos h]
theorem endsRun_dot (cs : List Nat) (k : Nat) (b st : List Nat) (h : k < b.length) : endsRun (46 :: cs) k b st = endsRun cs (k + 1) (b.set k (k + 1)) st := by
  show (if k < b.length then _ else _) = _
  rw [if_pos h]
theorem set_mid (A : List Nat) (x y : Nat) (B : List Nat) : (A ++ x :: B).set A.length y = A ++ y :: B := by
  rw [List.set_append_right _ _ (Nat.le_refl _), Nat.sub_self]; rfl
theorem endsRun_tree : ∀ (t : Tr) (rest : List Nat) (k : Nat) (A B st : List Nat), A.length = k →
    endsRun (t.cs ++ rest) k (A ++ (List.replicate t.len 0 ++ B)) st = endsRun rest (k + t.len) (A ++ (Tr.ends k t ++ B)) st
  | .leaf, rest, k, A, B, st, h => by
    subst h
    show endsRun (46 :: rest) A.length (A ++ (0 :: B)) st = endsRun rest (A.length + 1) (A ++ ((A.length + 1) :: B)) st
    rw [endsRun_dot _ _ _ _ (by simp), set_mid]
  | .node l r, rest, k, A, B, st, h => by
    subst h
    have e : List.replicate (Tr.node l r).len 0 ++ B = 0 :: (List.replicate l.len 0 ++ (List.replicate r.len 0 ++ (0 :: B))) := by
      show List.replicate (l.len + r.len + 2) 0 ++ B = _
      rw [show l.len + r.len + 2 = 1 + l.len + r.len + 1 by omega, ← List.replicate_append_replicate, ← List.replicate_append_replicate, ← List.replicate_append_replicate]
      show (([0] ++ List.replicate l.len 0) ++ List.replicate r.len 0 ++ [0]) ++ B = _
      simp only [List.append_assoc, List.cons_append, List.nil_append]
    rw [e]
    show endsRun (40 :: ((l.cs ++ (r.cs ++ [41])) ++ rest)) A.length _ st = _
    rw [endsRun_open, List.append_assoc]
    have e1 : A ++ 0 :: (List.replicate l.len 0 ++ (List.replicate r.len 0 ++ (0 :: B))) = (A ++ [0]) ++ (List.replicate l.len 0 ++ (List.replicate r.len 0 ++ (0 :: B))) := by simp
    rw [e1, endsRun_tree l _ (A.length + 1) (A ++ [0]) _ _ (by simp), List.append_assoc]
    have e2 : (A ++ [0]) ++ (Tr.ends (A.length + 1) l ++ (List.replicate r.len 0 ++ (0 :: B))) = (A ++ [0] ++ Tr.ends (A.length + 1) l) ++ (List.replicate r.len 0 ++ (0 :: B)) := by simp
    rw [e2, endsRun_tree r _ (A.length + 1 + l.len) _ _ _ (by simp [Tr.ends_length]; omega)]
    show endsRun (41 :: ([] ++ rest)) _ _ (A.length :: st) = _
    rw [endsRun_close _ _ _ _ _ (by simp)]
    have e3 : (A ++ [0] ++ Tr.ends (A.length + 1) l) ++ (Tr.ends (A.length + 1 + l.len) r ++ (0 :: B)) = A ++ 0 :: (Tr.ends (A.length + 1) l ++ (Tr.ends (A.length + 1 + l.len) r ++ (0 :: B))) := by simp
    rw [e3, set_mid]
    have e4 : A.length + 1 + l.len + r.len + 1 = A.length + (Tr.node l r).len := by show _ = A.length + (l.len + r.len + 2); omega
    rw [e4]
    simp only [List.nil_append, Tr.ends, List.cons_append, List.append_assoc]
theorem endsRun_text (t : Tr) : endsRun t.cs 0 (List.replicate t.len 0) [] = some (Tr.ends 0 t) := by
  have := endsRun_tree t [] 0 [] [] [] rfl
  simp only [List.append_nil, List.nil_append] at this
  rw [this]; rfl
/-- what a step says -/
theorem endsRun_step {c : Nat} {cs : List Nat} {k : Nat} {b st F : List Nat} (h : endsRun (c :: cs) k b st = some F) :
    (c = 40 ∧ endsRun cs (k + 1) b (k :: st) = some F) ∨ (c = 41 ∧ ∃ o st', st = o :: st' ∧ o < b.length ∧ endsRun cs (k + 1) (b.set o (k + 1)) st' = some F) ∨
    (c ≠ 40 ∧ c ≠ 41 ∧ k < b.length ∧ endsRun cs (k + 1) (b.set k (k + 1)) st = some F) := by
  by_cases h1 : c = 40
  · subst h1; exact .inl ⟨rfl, h⟩
  by_cases h2 : c = 41
  · subst h2
    cases st with
    | nil => exact nomatch (show (none : Option (List Nat)) = some F from h)
    | cons o st' =>
      have h : (if o < b.length then endsRun cs (k + 1) (b.set o (k + 1)) st' else none) = some F := h
      by_cases h3 : o < b.length
      · rw [if_pos h3] at h; exact .inr (.inl ⟨rfl, o, st', rfl, h3, h⟩)
      · rw [if_neg h3] at h; cases h
  · have h : (if c = 40 then endsRun cs (k + 1) b (k :: st) else if c = 41 then _ else if k < b.length then endsRun cs (k + 1) (b.set k (k + 1)) st else none) = some F := h
    rw [if_neg h1, if_neg h2] at h
    by_cases h3 : k < b.length
    · rw [if_pos h3] at h; exact .inr (.inr ⟨h1, h2, h3, h⟩)
    · rw [if_neg h3] at h; cases h
end TT

set_option linter.all false
set_option maxRecDepth 100000
/-! two trees gone along together: what is still ahead -/
namespace TT
open PySem
abbrev Ag := List (Option (Tr × Tr))
namespace Ag
def tl : Ag → List Nat
  | [] => []
  | none :: r => 41 :: tl r
  | some p :: r => p.1.cs ++ tl r
def tr : Ag → List Nat
  | [] => []
  | none :: r => 41 :: tr r
  | some p :: r => p.2.cs ++ tr r
def hangs : Ag → Option (List Tr)
  | [] => some []
  | none :: r => hangs r
  | some p :: r => (Tr.hang p.1 p.2).bind fun x => (hangs r).map fun y => x ++ y
/-- the parts ahead stand at their places of the first tree's text, of the second's -/
def AtL (T : Tr) : Nat → Ag → Prop
  | _, [] => True
  | k, none :: r => AtL T (k + 1) r
  | k, some p :: r => Tr.Sub T k p.1 ∧ AtL T (k + p.1.len) r
def AtR (T : Tr) : Nat → Ag → Prop
  | _, [] => True
  | k, none :: r => AtR T (k + 1) r
  | k, some p :: r => Tr.Sub T k p.2 ∧ AtR T (k + p.2.len) r
end Ag
theorem cs_head (t : Tr) : ∃ r, t.cs = (if t = .leaf then 46 else 40) :: r := by
  cases t with
  | leaf => exact ⟨[], rfl⟩
  | node l r => exact ⟨_, rfl⟩
theorem Ag.tr_nil {ag : Ag} (h : ag.tr = []) : ag = [] := by
  match ag with
  | [] => rfl
  | none :: r => simp [Ag.tr] at h
  | some p :: r =>
    obtain ⟨q, e⟩ := cs_head p.2
    simp [Ag.tr, e] at h
theorem Ag.tl_nil {ag : Ag} (h : ag.tl = []) : ag = [] := by
  match ag with
  | [] => rfl
  | none :: r => simp [Ag.tl] at h
  | some p :: r =>
    obtain ⟨q, e⟩ := cs_head p.1
    simp [Ag.tl, e] at h
theorem Sub_left {T l r : Tr} {k : Nat} (h : Tr.Sub T k (.node l r)) : Tr.Sub T (k + 1) l := .left h
theorem Sub_right {T l r : Tr} {k : Nat} (h : Tr.Sub T k (.node l r)) : Tr.Sub T (k + 1 + l.len) r := .right h
theorem drop_cons {α : Type} {l : List α} {k : Nat} {x : α} {r : List α} (h : l.drop k = x :: r) : l[k]? = some x ∧ k < l.length ∧ l.drop (k + 1) = r := by
  have hk : k < l.length := by
    by_cases hk : k < l.length
    · exact hk
    · rw [List.drop_eq_nil_of_le (by omega)] at h; cases h
  rw [List.drop_eq_getElem_cons hk] at h
  injection h with h1 h2
  exact ⟨by rw [List.getElem?_eq_getElem hk, h1], hk, h2⟩
theorem drop_app {α : Type} {l a r : List α} {k : Nat} (h : l.drop k = a ++ r) : l.drop (k + a.length) = r := by
  rw [← List.drop_drop, h, List.drop_left]
theorem rixs {l : List Nat} {k c : Nat} {H : L2.Hp} {Q : L2.VK} (hl : l.length ≤ 16000000) (h : l[k]? = some c) (q : Q (.str ⟨#[c]⟩) H) : L2.rIxS (.str (S l)) (.int (k : Nat)) H Q :=
  ⟨S l, (k : Int), c, rfl, rfl, by rw [S_len]; exact small5 hl, L2.atI_nat (by simpa using h), q⟩
theorem rixl {K : PySem.W.Frag} {a : Addr} {xs : List L2.V} {k : Nat} {x : L2.V} {H : L2.Hp} {Q : L2.VK} (ha : H a = some (.lst xs)) (h : xs[k]? = some x) (q : Q x H) : L2.rIxL K (.ref a) (.int (k : Nat)) H Q :=
  ⟨a, xs, (k : Int), x, rfl, rfl, L2.SqL.of ha, L2.atI_nat h, q⟩
namespace Ag
def outs : Ag → List Nat
  | [] => []
  | none :: r => 41 :: outs r
  | some p :: r => (Tr.meet p.1 p.2).cs ++ outs r
end Ag
theorem signs_join (l : List Nat) : Txt.join (S []) (l.map fun c => S [c]) = S l := by
  have e : (l.map fun c => S [c]) = (l.map fun c => [c]).map S := by rw [List.map_map]; rfl
  rw [e, join_S]
  congr 1
  clear e
  induction l with
  | nil => rfl
  | cons a r ih => rw [List.map_cons, List.flatten_cons]; show [a] ++ _ = _; rw [show (List.map (fun c => [c]) r).flatten = r from by simpa using ih]; rfl
theorem signs_sum (l : List Nat) : ((l.map fun c => S [c]).map (·.length)).sum = l.length := by
  induction l with
  | nil => rfl
  | cons a r ih => rw [List.map_cons, List.map_cons, List.sum_cons, ih, S_len]; simp; omega
theorem hang_size : ∀ (s c : Tr) (xs : List Tr), Tr.hang s c = some xs → ∀ x ∈ xs, x.size ≤ s.size
  | s, .leaf, xs, h => by
    simp [Tr.hang] at h; subst h
    intro x hx
    rw [List.mem_singleton.mp hx]
    exact Nat.le_refl _
  | .leaf, .node _ _, xs, h => by simp [Tr.hang] at h
  | .node a b, .node c d, xs, h => by
    simp only [Tr.hang, Option.bind_eq_some_iff, Option.map_eq_some_iff] at h
    obtain ⟨x, hx, y, hy, rfl⟩ := h
    intro z hz
    show z.size ≤ a.size + b.size + 1
    rcases List.mem_append.mp hz with hz | hz
    · have := hang_size a c x hx z hz; omega
    · have := hang_size b d y hy z hz; omega
theorem mem_pick : ∀ (xs ys : List Tr), ∀ x ∈ List.zipWith Tr.pick xs ys, x ∈ xs ∨ x ∈ ys
  | [], _, x, h => by simp at h
  | _ :: _, [], x, h => by simp at h
  | a :: xs, b :: ys, x, h => by
    rw [List.zipWith_cons_cons] at h
    rcases List.mem_cons.mp h with rfl | h
    · unfold Tr.pick
      split
      · exact .inr List.mem_cons_self
      · exact .inl List.mem_cons_self
    · rcases mem_pick xs ys x h with h | h
      · exact .inl (List.mem_cons_of_mem _ h)
      · exact .inr (List.mem_cons_of_mem _ h)
end TT

set_option Elab.async false
set_option linter.all false
set_option maxRecDepth 100000
set_option maxHeartbeats 4000000
/-! TX: errors that are kept as values: made, asked for their class, their field read; repr of plain data. -/
namespace TX
open PySem PySem.Spec PyProof.Rows L2

/-! ### classes -/
/-- what the written part says of an own error class: its line of ancestors, and what its instances are asked by -/
structure ErrC (K : PySem.W.Frag) (C : Addr) (l : List Value) : Prop where
  mro : (PySem.W.clsIn K C).map (·.mro) = some l
  ty : PySem.W.typeIn K (.ref C) = some (.type "type")
  ec : ExcC K C
theorem ErrC.isSome {K : PySem.W.Frag} {C : Addr} {l : List Value} (x : ErrC K C l) : (PySem.W.clsIn K C).isSome = true := by
  have e := x.mro
  cases q : PySem.W.clsIn K C with
  | some _ => rfl
  | none => rw [q] at e; cases e
theorem ErrC.sub {K : PySem.W.Frag} {C : Addr} {l : List Value} (x : ErrC K C l) (hl : l.isEmpty = false) (v : Value) : PySem.W.subIn K (.ref C) v = some (l.contains v) := by
  show PySem.W.mroIn K C v = _
  unfold PySem.W.mroIn
  have e := x.mro
  cases q : PySem.W.clsIn K C with
  | none => rw [q] at e; cases e
  | some cd =>
    rw [q] at e
    have e2 : cd.mro = l := Option.some.inj e
    rw [Option.bind_some, e2, hl]
    rfl
/-- isinstance's answer for two own classes -/
theorem kit_own {K : PySem.W.Frag} {C D : Addr} {l l' : List Value} (x : ErrC K C (.ref C :: l)) (y : ErrC K D l') : PySem.W.kitOne K (.ref C) (.ref D) = some (decide (C = D) || l.contains (.ref D)) := by
  unfold PySem.W.kitOne
  by_cases h : C = D
  · subst h
    simp
  · have e : ((Value.ref C) == (Value.ref D)) = false := beq_eq_false_iff_ne.mpr fun z => h (Value.ref.inj z)
    rw [e, if_neg Bool.false_ne_true]
    unfold PySem.W.kitCls
    dsimp only
    rw [if_pos (by rw [y.isSome, y.ty]; rfl), x.sub rfl, List.contains_cons]
    have e2 : ((Value.ref D) == (Value.ref C)) = false := beq_eq_false_iff_ne.mpr fun z => h (Value.ref.inj z).symm
    rw [e2]
    simp [h]
theorem kit_ve {K : PySem.W.Frag} {C : Addr} {l : List Value} (x : ErrC K C l) (hl : l.isEmpty = false) : PySem.W.kitOne K (.ref C) (.type "ValueError") = some (l.contains (.type "ValueError")) := by
  unfold PySem.W.kitOne
  have e : ((Value.ref C) == (Value.type "ValueError")) = false := rfl
  rw [e, if_neg Bool.false_ne_true]
  unfold PySem.W.kitCls
  dsimp only
  rw [if_pos (by decide +kernel), x.sub hl]

/-! ### an error as a value -/
/-- at a: an error of the class at C with the fields fs -/
def Err (H : Hp) (a C : Addr) (fs : List (Str × V)) : Prop := ∃ d, H a = some (exo a C (some d)) ∧ H d = some (exd d fs)
/-- at a: an error whose __init__ has stored nothing -/
def Err0 (H : Hp) (a C : Addr) : Prop := H a = some (exo a C none)
theorem Err.same {H H' : Hp} {a C : Addr} {fs : List (Str × V)} (e : Err H a C fs) (h : ∀ b o, H b = some o → H' b = some o) : Err H' a C fs :=
  let ⟨d, h1, h2⟩ := e
  ⟨d, h _ _ h1, h _ _ h2⟩

section
variable {X : Cx} {pins : List (Addr × Obj)} {σ : L2.St} {H : Hp} {s : Shared} {a C : Addr} {fs : List (Str × V)}
theorem inst_of (I : Inv X pins σ H s) (e : Err H a C fs ∨ Err0 H a C) : ∃ ox od, PySem.W.InstAt s.heap a ox C od := by
  rcases e with ⟨d, h1, h2⟩ | h1
  · obtain ⟨t1, ho⟩ := exo_at I.hok h1
    obtain ⟨mA, hns, _⟩ := exd_at I.hok h2
    obtain ⟨od, hd, _⟩ := lookIn_ns hns
    exact ⟨_, some od, ho, rfl, rfl, hd⟩
  · obtain ⟨t1, ho⟩ := exo_at I.hok h1
    exact ⟨_, none, ho, rfl, rfl, trivial⟩
end
/-- isinstance(e, c): e an error that is kept -/
def rIsX (K : PySem.W.Frag) : List V → Hp → VK → Prop := fun xs H Q => ∃ (a C : Addr) (fs : List (Str × V)) (c : V) (cv : Value) (b : Bool), xs = [.ref a, c] ∧ ExcC K C ∧ (Err H a C fs ∨ Err0 H a C) ∧ ClsV c cv ∧ PySem.W.kitOne K (.ref C) cv = some b ∧ Q (.bl b) H
theorem call_isX {X : Cx} : CallR X (.builtin "isinstance") (rIsX X.K) := by
  intro pins s σ H xs us Q I r h
  obtain ⟨a, C, fs, c, cv, b, rfl, hC, he, k, e, q⟩ := h
  obtain ⟨u1, u2, rfl, r1, r2⟩ := vals2 r
  cases (show u1 = Value.ref a from r1)
  have e2 := k.eq r2
  subst e2
  obtain ⟨ox, od, J⟩ := inst_of I he
  refine PySem.W.kia_one (PySem.W.kitx_exc (ox := ox) (od := od) ?_ hC.hg hC.hk hC.hs hC.ha hC.hn hC.ht hC.hm) I.kIn J e (fun z => nomatch z) fun tk => ⟨.bl b, H, I.tok tk, rfl, q⟩
  have z := hC.hd
  unfold PySem.W.hasDictIn at z
  cases w : PySem.W.clsIn X.K C with
  | some _ => rfl
  | none => rw [w] at z; cases z
/-- e.f: a field of an error that is kept -/
def tFx (K : PySem.W.Frag) (f : Str) (te : TE) : TE := fun σ H Q => te σ H fun x H1 => ∃ (a C : Addr) (fs : List (Str × V)) (v : V), x = .ref a ∧ XfC K C ∧ PySem.W.findIn K (.ref C) f = some none ∧ Err H1 a C fs ∧ fs.lookup f = some v ∧ Q v H1
theorem pe_fx {X : Cx} {e : Expr} {te : TE} {pos : Pos} {f : Str} (he : PE X e te) (hb : attributeBase e f X.env (eval e X.env) = eval e X.env := by rfl) : PE X (.Attribute e f pos) (tFx X.K f te) := by
  refine ⟨fun pins s σ H Q I h => attr_of hb (thn (he.run pins s σ H _ I h) fun u s1 ⟨x, H1, I1, rx, a, C, fs, v, ex, T, hno, ⟨d, h1, h2⟩, l, q⟩ => ?_)⟩
  subst ex
  cases (show u = Value.ref a from rx)
  obtain ⟨t1, ho⟩ := exo_at I1.hok h1
  obtain ⟨mA, hns, hr⟩ := exd_at I1.hok h2
  obtain ⟨od, hd, hl⟩ := lookIn_ns hns
  obtain ⟨y, hy, ry⟩ := RelO.some_of (v := v) (o := mA f) (by rw [← l]; exact hr f)
  have J : PySem.W.InstAt s1.heap a ({ cls := .ref C, dict := some d, data := .fields #[.ref t1, .none, .none, .none, .bool false, .none] } : Obj) C (some od) := ⟨ho, rfl, rfl, hd⟩
  exact HandSPX.exc_get I1.kIn J T.ga T.gg T.exC (PySem.W.findObj_own T.hdC hno rfl (by rw [hl, hy])) (handed_of ry) ⟨v, H1, I1.tok _, ry, q⟩
/-! ### an error is made -/
/-- C(e, ..): sp is what C's __init__ keeps -/
def tMx (C : Addr) (sp : Sp) (dvs : List V) (ta : TA) : TE := fun σ H Q => ta σ H fun vs H1 => vs.length ≤ 1000 ∧ ∀ a, H1 a = none → sp (.ref a :: (vs ++ dvs)) (upd H1 a (exo a C none)) (fun v H2 => v = .non ∧ Q (.ref a) H2) (fun _ _ _ => False)
section
variable {X : Cx} {CX : CXT} {x : Str} {C fI : Addr} {k : Nat} {fd : FuncData} {ps : List Str} {sp : Sp} {ds : List Value} {dvs : List V} {e : Expr} {es : List Expr} {ta : TA} {p pos : Pos}
theorem run_mx {pins : List (Addr × Obj)} {σ : L2.St} {H1 : Hp} {s1 : Shared} {Q : VK} {us : List Value} {vs : List V} (T : OexC X.K C) (iC : PySem.W.findIn X.K (.ref C) "__init__" = some (some (.ref fI))) (tI : PySem.W.typeIn X.K (.ref fI) = some (.type "function"))
    (F1 : FnOk X.prog X.w X.K X.mg X.base CX k fI fd ps sp) (hr : Room (k + 1) X.A) (hb : Binds X.K fd ps ds) (hd : Vals dvs ds) (hx : Passes CX X (fun _ _ _ => False)) (I1 : Inv X pins σ H1 s1) (r1 : Vals vs us) (hz : vs.length ≤ 1000)
    (q1 : ∀ a, H1 a = none → sp (.ref a :: (vs ++ dvs)) (upd H1 a (exo a C none)) (fun v H2 => v = .non ∧ Q (.ref a) H2) (fun _ _ _ => False)) : wpAny (model X.prog X.w) X.A (call (.ref C) us) (EP X pins σ Q) X.xe s1 := by
  obtain ⟨nm, qn, N, bs, bm, sn, sub, ab, col, dd, k0, k1, k2, k3, k5, hC, hbm⟩ := T.cls
  obtain ⟨hp, g, dr, tk, os⟩ := s1
  have above : hp.objs.size ≤ hp.objs.size + 1 := Nat.le_succ _
  have new : H1 (hp.objs.size + 1) = none := I1.hok.fresh above
  have run := q1 _ new
  have laid : ∀ b o, hp.get? b = some o → ((hp.push (PySem.W.kdv_tup us)).push (PySem.HandSPX.excO C hp.objs.size)).get? b = some o := fun b o z => Heap.get?_push_of_some _ (Heap.get?_push_of_some _ z)
  have there : ((hp.push (PySem.W.kdv_tup us)).push (PySem.HandSPX.excO C hp.objs.size)).get? (hp.objs.size + 1) = some (PySem.HandSPX.excO C hp.objs.size) := by heap_get
  have I2 : Inv X pins σ (upd H1 (hp.objs.size + 1) (exo (hp.objs.size + 1) C none)) ⟨(hp.push (PySem.W.kdv_tup us)).push (PySem.HandSPX.excO C hp.objs.size), g, dr, tk, os⟩ := I1.laid (t' := tk) laid above (exo_ok there)
  have vals : Vals (V.ref (hp.objs.size + 1) :: (vs ++ dvs)) (Value.ref (hp.objs.size + 1) :: (us ++ ds)) := .cons rfl (r1.append hd)
  have many : (Value.ref (hp.objs.size + 1) :: us ++ ds).length = ps.length := vals.length.symm.trans (F1.len _ _ _ _ run)
  have small : us.length ≤ sizeLine := by
    have z := Paired.length r1
    rw [sizeLine_eq]; omega
  have body := F1.run _ X.stack _ _ ⟨Value.ref (hp.objs.size + 1) :: us, []⟩ (Value.ref (hp.objs.size + 1) :: (us ++ ds)) _ _ (fun _ _ _ => False) (hr.make C us []) (I2.env0.make C us []) (hb _ (Value.ref (hp.objs.size + 1) :: us) I2.kIn many) vals run
  have made := PySem.HandSPX.call_own (R := fun r s' => match r with | .ok (.ret v) => EP X pins σ Q v s' | .ok _ => False | .error er => X.xe er s') F.excBase_ValueError (fun Y => PySem.HandSPX.refsVE_contains Y bm hbm) (I1.kIn _ _ hC) (PySem.W.looks_findIn I1.kIn iC) (fun self => PySem.W.bind_fn I1.kIn self tI) small
    (codeAny_mono body fun r s' z => by
      cases r with
      | error er => exact hx pins σ _ _ er s' I2 z
      | ok fl =>
        cases fl with
        | ret u =>
          obtain ⟨v, H2, J, rv, ev, q⟩ := I2.after z
          subst ev
          exact ⟨rv, ⟨V.ref (hp.objs.size + 1), H2, J, rfl, q⟩⟩
        | next => exact False.elim z
        | brk => exact False.elim z
        | cont => exact False.elim z)
  exact wpAny_call made
theorem pe_mx (T : OexC X.K C) (iC : PySem.W.findIn X.K (.ref C) "__init__" = some (some (.ref fI))) (tI : PySem.W.typeIn X.K (.ref fI) = some (.type "function"))
    (F1 : FnOk X.prog X.w X.K X.mg X.base CX k fI fd ps sp) (hr : Room (k + 1) X.A) (hb : Binds X.K fd ps ds) (hd : Vals dvs ds) (hx : Passes CX X (fun _ _ _ => False)) (hg : Gl X x) (hm : X.mg x = some (.ref C)) (ha : PA X (e :: es) ta)
    (hdb : (x == ("__debug__" : Str)) = false := by decide) (he : starEach (e :: es) X.env = (false, eval e X.env) :: starEach es X.env := by rfl) (hpl : (backTo pos (starEach es X.env)).any (·.1) = false := by rfl) : PE X (.Call (.Name x p) (e :: es) [] pos) (tMx C sp dvs ta) := by
  refine ⟨fun pins s σ H Q I h => wpAny_Call_Name_kw (ld_glob I hg hm ?_ hdb)⟩
  exact PySem.W.callWith_K (h₀ := X.base) I.ok.mod.kin T.kC (thn (ha.run pos pins s σ H _ I h) fun us s1 ⟨vs, H1, I1, r1, hz, q1⟩ => ⟨I1.kIn, run_mx T iC tI F1 hr hb hd hx I1 r1 hz q1⟩) he hpl
theorem pe_mx0 (T : OexC X.K C) (iC : PySem.W.findIn X.K (.ref C) "__init__" = some (some (.ref fI))) (tI : PySem.W.typeIn X.K (.ref fI) = some (.type "function"))
    (F1 : FnOk X.prog X.w X.K X.mg X.base CX k fI fd ps sp) (hr : Room (k + 1) X.A) (hb : Binds X.K fd ps ds) (hd : Vals dvs ds) (hx : Passes CX X (fun _ _ _ => False)) (hg : Gl X x) (hm : X.mg x = some (.ref C))
    (hdb : (x == ("__debug__" : Str)) = false := by decide) : PE X (.Call (.Name x p) [] [] pos) (tMx C sp dvs tNil) := by
  refine ⟨fun pins s σ H Q I h => wpAny_Call_Name_kw (ld_glob I hg hm ?_ hdb)⟩
  obtain ⟨hz, q1⟩ := h
  exact PySem.W.callWith_K0 I.kIn T.kC (run_mx (us := []) T iC tI F1 hr hb hd hx I .nil hz q1)
end

/-! ### C(k = v): keywords -/
namespace Kw
open PySem.HandSPX Builtin Builtin.ObjectAttr PySem.W PySem.Calls
section
variable {prog : Program} {w : World} {A : Around} {E : Value → Shared → Prop} {R : Result → Shared → Prop} {h : Heap} {g : Array GenState} {d : Drawn} {t : Nat} {os : OsState}
variable {nm q : Str} {C N : Addr} {bs bm bB : List Value} {hd : Bool} {sn : List Str} {sub : List Value} {ab : Bool} {col : Option Bool} {dd : Option Addr} {k0 k1 k2 k3 k5 : Option Value} {B nI iI : String} {rest : List Value} {kw : List (Str × Value)}
theorem may (F : ExcBaseFacts B nI iI bB) (hT : ∀ Y : String, bm.contains (.type Y) = bB.contains (.type Y)) {M : Model} {E' : Value → Shared → Prop} {Q : Unit → Shared → Prop}
    (hC : h.get? C = some (excClassObj nm q C N bs bm hd sn sub ab col dd k0 k1 k2 k3 k5 nI)) (hq : Q () ⟨h, g, d, t, os⟩) : wpAny M A (checkBuiltinCall nI ⟨.ref C :: rest, kw⟩) Q E' ⟨h, g, d, t, os⟩ := by
  have inB : (Value.ref C :: bm).contains (.type B) = true := by
    rw [List.contains_cons, hT, F.hasB, Bool.or_true]
  have star := F.noStar
  simp only [checkBuiltinCall, F.newKind, F.newSplit, F.newRow]
  repeat (first | refine wpAny_loadPart_at hC ?_ | (refine wpAny_isSubtype_exc hC ?_; rw [inB]) | refine wpAny_staticBase_exc hC ?_ | refine wpAny_madeBy_exc hC ?_ | simp only [bne_self_eq_false, Bool.false_eq_true, if_false] | wp_step)
  exact hq
theorem anew (F : ExcBaseFacts B nI iI bB) (hT : ∀ Y : String, bm.contains (.type Y) = bB.contains (.type Y)) (hC : h.get? C = some (excClassObj nm q C N bs bm hd sn sub ab col dd k0 k1 k2 k3 k5 nI))
    (hq : R (.ok (.ret (.ref (h.objs.size + 1)))) ⟨(h.push (kdv_tup rest)).push (excO C h.objs.size), g, d, t, os⟩) (hz : rest.length ≤ sizeLine) : codeAny (model prog w) A (.builtin nI ⟨.ref C :: rest, kw⟩) R ⟨h, g, d, t, os⟩ := by
  have fin := F.ends
  have inB : (Value.ref C :: bm).contains (.type B) = true := by
    rw [List.contains_cons, hT, F.hasB, Bool.or_true]
  have inA : (Value.ref C :: bm).contains (.type "AttributeError") = false := by
    rw [List.contains_cons, hT, F.noAttr]; rfl
  have inN : (Value.ref C :: bm).contains (.type "NameError") = false := by
    rw [List.contains_cons, hT, F.noName]; rfl
  refine codeAny_builtinAt F.entry ?_
  unfold Builtin.«BaseException.__new__»
  refine PySem.wpAt_bind ?_
  show PySem.wpAt _ _ _ (stack >>= _) _ _ _
  refine PySem.wpAt_bind (PySem.wpAt_stack fun _ _ => PySem.wpAt_of_wpAny ?_)
  wp_walk
  refine PySem.wpAt_of_wpAny ?_
  rw [F.owner]
  repeat (first | with_reducible refine wpAny_madeHere_exc F.canon hC ?_ | with_reducible refine wpAny_loadPart_at hC ?_ | (with_reducible refine wpAny_isSubtype_exc hC ?_; first | rw [inB] | rw [inA] | rw [inN]) | wp_step)
  show R _ _
  rw [Heap.size_push]
  exact hq
theorem made (F : ExcBaseFacts B nI iI bB) (hT : ∀ Y : String, bm.contains (.type Y) = bB.contains (.type Y)) {fI : Addr} {Q : Fin → Shared → Prop} {E' : Value → Shared → Prop}
    (hC : h.get? C = some (excClassObj nm q C N bs bm hd sn sub ab col dd k0 k1 k2 k3 k5 nI)) (hi : Looks (model prog w) h (typeLookup (.ref C) "__init__") (some (.ref fI))) (hb : ∀ self, Looks (model prog w) h (bindSpecial (.ref fI) self) (.ref fI, [self])) (hz : rest.length ≤ sizeLine)
    (hq : codeAny (model prog w) A (.call (.ref fI) ⟨.ref (h.objs.size + 1) :: rest, kw⟩) (fun r s' => match r with | .ok (.ret v) => v = .none ∧ Q (.done (.ret (.ref (h.objs.size + 1)))) s' | .ok _ => False | .error e => E' e s')
      ⟨(h.push (kdv_tup rest)).push (excO C h.objs.size), g, d, t, os⟩) : wpAny (model prog w) A (Builtin.«type.__call__» ⟨.ref C :: rest, kw⟩) Q E' ⟨h, g, d, t, os⟩ := by
  repeat (first | with_reducible refine wpAny_loadPart_at hC ?_ | with_reducible refine wpAny_madeBy_exc hC ?_ | wp_step)
  refine codeAny_call_builtin_code (Code.quiet_builtin _ F.quiet) (may F hT hC ?_)
  refine anew F hT hC ?_ hz
  show wpAny _ _ _ _ _ _
  have up : ∀ b o, h.get? b = some o → ((h.push (kdv_tup rest)).push (excO C h.objs.size)).get? b = some o := fun b o z => Heap.get?_push_of_some _ (Heap.get?_push_of_some _ z)
  have hC2 := up _ _ hC
  have self : ((h.push (kdv_tup rest)).push (excO C h.objs.size)).get? (h.objs.size + 1) = some (excO C h.objs.size) := by heap_get
  have own : (Value.ref C :: bm).contains (.ref C) = true := by simp
  have i2 := hi.keeps up
  have b2 := (hb (.ref (h.objs.size + 1))).keeps up
  unfold isInstance
  repeat (first | with_reducible refine wpAny_loadPart_at self ?_ | (with_reducible refine wpAny_isSubtype_exc hC2 ?_; rw [own]) | wp_step)
  show wpAny _ _ (typeLookup (.ref C) _) _ _ _
  refine i2.at (wpAny_holding (wpAny_bind (b2.at (wpAny_bind (wpAny_call (codeAny_mono hq fun r s' z => ?_))))))
  rcases r with e | (v | _ | _ | _) <;> first | exact z | exact z.elim | skip
  obtain ⟨rfl, z⟩ := z
  first
    | exact wpAny_pure (wpAny_pure z)
    | (wp_walk; exact z)
theorem called (F : ExcBaseFacts B nI iI bB) (hT : ∀ Y : String, bm.contains (.type Y) = bB.contains (.type Y)) {fI : Addr} (hC : h.get? C = some (excClassObj nm q C N bs bm hd sn sub ab col dd k0 k1 k2 k3 k5 nI))
    (hi : Looks (model prog w) h (typeLookup (.ref C) "__init__") (some (.ref fI))) (hb : ∀ self, Looks (model prog w) h (bindSpecial (.ref fI) self) (.ref fI, [self])) (hz : rest.length ≤ sizeLine)
    (hq : codeAny (model prog w) (A.under (.builtin "type.__call__" ⟨.ref C :: rest, kw⟩)) (.call (.ref fI) ⟨.ref (h.objs.size + 1) :: rest, kw⟩) (InitBack (h.objs.size + 1) R) ⟨(h.push (kdv_tup rest)).push (excO C h.objs.size), g, d, t, os⟩) :
    codeAny (model prog w) A (.call (.ref C) ⟨rest, kw⟩) R ⟨h, g, d, t, os⟩ := by
  have f1 := tc_lookup
  have f2 := tc_bind (.ref C)
  have ty : (⟨h, g, d, t, os⟩ : Shared).TypeIs (.ref C) "type" := ⟨_, hC, rfl⟩
  refine codeAny_of_tree ?_
  show wpAny _ _ (callAny (.ref C) _) _ _ _
  repeat (any_goals (first | assumption | with_reducible refine wpAny_loadPart_at hC ?_ | wp_step))
  refine ⟨rfl, codeAny_call_builtin_at (Code.quiet_builtin _ (by decide +kernel)) entry_typeCall (wpAny_check_type_call_sub hC (made F hT hC hi hb hz (codeAny_mono hq fun r s' z => ?_)))⟩
  rcases r with e | (v | _ | _ | _) <;> exact z
end
end Kw
/-- defaults, no keyword-only parameters; the keywords fill the places of the defaults -/
theorem kbinds1 {K : PySem.W.Frag} {x qual : Str} {params : Arguments} {body : List Stmt} {scope : Scope} {dvs : List V} {f : Addr} {fd : FuncData} {ps ks : List Str} {n : Nat} (F : FunD K x qual params body scope dvs [] f fd) (hd : dvs ≠ [])
    (h : ∀ (T : Addr) (kV doc pm : Value) (an : Option Addr) (cdv ct : Value) (us its ws : List Value), us.length = n → its.length = dvs.length → ws.length = ks.length →
      ∃ k, bindArgs (PySem.W.fnOf x qual params body scope (.ref T) kV doc pm an cdv ct) ⟨us, ks.zip ws⟩ = seqItems? (.ref T) >>= k ∧ k (some its.toArray) = pure (ps.zip (us ++ ws))) : KBn K fd ps n ks (fun us ws => us ++ ws) (fun vs zs => vs ++ zs) := by
  obtain ⟨oc, od, dV, kV, doc, pm, an, cdv, ct, osl, rfl, lk, hcd, hD, hK⟩ := F.ex
  rcases hD with ⟨e, _⟩ | ⟨_, T, o, its, m, rfl, lT, oT, rT⟩
  · exact absurd e hd
  · refine ⟨fun s us ws X l1 l2 => BindsTo.of_looks fun M => ?_, fun r1 r2 => r1.append r2⟩
    obtain ⟨k, e1, e2⟩ := h T kV doc pm an cdv ct us its ws l1 rT.length.symm l2
    rw [e1]
    exact looks_items X lT oT (.of_pure e2)
def tMxK (C : Addr) (m : Nat) (sp : Sp) (tk : TA) : TE := fun σ H Q => tk σ H fun zs H1 => zs.length = m ∧ ∀ a, H1 a = none → sp (.ref a :: zs) (upd H1 a (exo a C none)) (fun v H2 => v = .non ∧ Q (.ref a) H2) (fun _ _ _ => False)
section
variable {X : Cx} {CX : CXT} {x : Str} {C fI : Addr} {k : Nat} {fd : FuncData} {ps ks : List Str} {sp : Sp} {kws : List Keyword} {tk : TA} {p pos : Pos}
theorem run_mxK {pins : List (Addr × Obj)} {σ : L2.St} {H1 : Hp} {s1 : Shared} {Q : VK} {ws : List Value} {zs : List V} (T : OexC X.K C) (iC : PySem.W.findIn X.K (.ref C) "__init__" = some (some (.ref fI))) (tI : PySem.W.typeIn X.K (.ref fI) = some (.type "function"))
    (F1 : FnOk X.prog X.w X.K X.mg X.base CX k fI fd ps sp) (hr : Room (k + 1) X.A) (hb : KBn X.K fd ps 1 ks (fun us ws => us ++ ws) (fun vs zs => vs ++ zs)) (hx : Passes CX X (fun _ _ _ => False)) (I1 : Inv X pins σ H1 s1) (rz : Vals zs ws) (hz : zs.length = ks.length)
    (q1 : ∀ a, H1 a = none → sp (.ref a :: zs) (upd H1 a (exo a C none)) (fun v H2 => v = .non ∧ Q (.ref a) H2) (fun _ _ _ => False)) : wpAny (model X.prog X.w) X.A (call (.ref C) [] (ks.zip ws)) (EP X pins σ Q) X.xe s1 := by
  obtain ⟨nm, qn, N, bs, bm, sn, sub, ab, col, dd, k0, k1, k2, k3, k5, hC, hbm⟩ := T.cls
  obtain ⟨hp, g, dr, tn, os⟩ := s1
  have above : hp.objs.size ≤ hp.objs.size + 1 := Nat.le_succ _
  have run := q1 _ (I1.hok.fresh above)
  have laid : ∀ b o, hp.get? b = some o → ((hp.push (PySem.W.kdv_tup [])).push (PySem.HandSPX.excO C hp.objs.size)).get? b = some o := fun b o z => Heap.get?_push_of_some _ (Heap.get?_push_of_some _ z)
  have there : ((hp.push (PySem.W.kdv_tup [])).push (PySem.HandSPX.excO C hp.objs.size)).get? (hp.objs.size + 1) = some (PySem.HandSPX.excO C hp.objs.size) := by heap_get
  have I2 : Inv X pins σ (upd H1 (hp.objs.size + 1) (exo (hp.objs.size + 1) C none)) ⟨(hp.push (PySem.W.kdv_tup [])).push (PySem.HandSPX.excO C hp.objs.size), g, dr, tn, os⟩ := I1.laid (t' := tn) laid above (exo_ok there)
  have body := F1.run _ X.stack _ _ ⟨[Value.ref (hp.objs.size + 1)], ks.zip ws⟩ (Value.ref (hp.objs.size + 1) :: ws) (V.ref (hp.objs.size + 1) :: zs) _ (fun _ _ _ => False) (hr.make C [] (ks.zip ws)) (I2.env0.make C [] (ks.zip ws)) (hb.to _ [Value.ref (hp.objs.size + 1)] ws I2.kIn rfl (rz.length.symm.trans hz)) (Paired.cons (show RelV (V.ref _) _ from rfl) rz) run
  exact wpAny_call (Kw.called (R := fun r s' => match r with | .ok (.ret v) => EP X pins σ Q v s' | .ok _ => False | .error er => X.xe er s') F.excBase_ValueError (fun Y => PySem.HandSPX.refsVE_contains Y bm hbm) (I1.kIn _ _ hC) (PySem.W.looks_findIn I1.kIn iC) (fun self => PySem.W.bind_fn I1.kIn self tI) (Nat.zero_le _)
    (codeAny_mono body fun r s' z => by
      cases r with
      | error er => exact hx pins σ _ _ er s' I2 z
      | ok fl =>
        cases fl with
        | ret u =>
          obtain ⟨v, H2, J, rv, ev, q⟩ := I2.after z
          subst ev
          exact ⟨rv, ⟨V.ref (hp.objs.size + 1), H2, J, rfl, q⟩⟩
        | next => exact False.elim z
        | brk => exact False.elim z
        | cont => exact False.elim z))
end
/-! ### own error classes with one field -/
/-- what their __init__ keeps: self.f = y -/
def SpI (C : Addr) (f : Str) : Sp := fun vs H Q _ => ∃ a y, vs = [.ref a, y] ∧ H a = some (exo a C none) ∧ ∀ dx, H dx = none → dx ≠ a → Q .non (upd (upd H dx (exd dx [(f, y)])) a (exo a C (some dx)))
structure OwnE (K : PySem.W.Frag) (mg : Str → Option Value) (x : Str) (C : Addr) (f p : Str) : Prop where
  m : mg x = some (.ref C)
  ox : OexC K C
  ex : ∃ fI fd, PySem.W.findIn K (.ref C) "__init__" = some (some (.ref fI)) ∧ PySem.W.typeIn K (.ref fI) = some (.type "function") ∧ (∃ ds, Vals [V.non] ds ∧ Binds K fd ["self", p] ds) ∧ Binds K fd ["self", p] [] ∧
    KBn K fd ["self", p] 1 [p] (fun us ws => us ++ ws) (fun vs zs => vs ++ zs) ∧ ∀ P w base, FnOk P w K mg base CX0 1 fI fd ["self", p] (SpI C f)
/-- the reading: an error of the class at C with the field f -/
def tErr (C : Addr) (f : Str) (ta : TA) : TE := fun σ H Q => ta σ H fun vs H1 => ∃ y, vs = [y] ∧ ∀ a H2, Same H1 H2 → H1 a = none → Err H2 a C [(f, y)] → Q (.ref a) H2
theorem spi_of {C : Addr} {f : Str} {y : V} {H1 : Hp} {Q : VK} {E : XK} (h : ∀ a H2, Same H1 H2 → H1 a = none → Err H2 a C [(f, y)] → Q (.ref a) H2) (a : Addr) (na : H1 a = none) : SpI C f [.ref a, y] (upd H1 a (exo a C none)) (fun v H2 => v = .non ∧ Q (.ref a) H2) E := by
  refine ⟨a, y, rfl, upd_same, fun dx nd ne => ⟨rfl, h a _ (fun b o e => ?_) na ⟨dx, upd_same, ?_⟩⟩⟩
  · have e1 : b ≠ a := fun z => by rw [z, na] at e; cases e
    rw [upd_ne ne] at nd
    have e2 : b ≠ dx := fun z => by rw [z, nd] at e; cases e
    rw [upd_ne e1, upd_ne e2, upd_ne e1]
    exact e
  · rw [upd_ne ne, upd_same]
section
variable {X : Cx} {x f q : Str} {C : Addr} {e : Expr} {te : TE} {p pos : Pos}
theorem pe_err (O : OwnE X.K X.mg x C f q) (hr : Room 2 X.A) (hg : Gl X x) (he : PE X e te)
    (hdb : (x == ("__debug__" : Str)) = false := by decide) (hs : starEach [e] X.env = (false, eval e X.env) :: starEach [] X.env := by rfl) : PE X (.Call (.Name x p) [e] [] pos) (tErr C f (tCons te tNil)) := by
  obtain ⟨fI, fd, iC, tI, _, b1, _, ok⟩ := O.ex
  refine ⟨fun pins s σ H Q I h => wpAny_Call_Name_kw (ld_glob I hg O.m ?_ hdb)⟩
  exact PySem.W.callWith_K (h₀ := X.base) I.ok.mod.kin O.ox.kC (thn ((pa_cons he pa_nil hs).run pos pins s σ H _ I h) fun us s1 ⟨vs, H1, I1, r1, y, ey, q1⟩ => ⟨I1.kIn, by
    subst ey
    exact run_mx (vs := [y]) (dvs := []) O.ox iC tI (ok X.prog X.w X.base) hr b1 .nil pass0 I1 r1 (by simp) (fun a na => spi_of q1 a na)⟩) hs (by rfl)
theorem pe_err0 (O : OwnE X.K X.mg x C f q) (hr : Room 2 X.A) (hg : Gl X x) (hdb : (x == ("__debug__" : Str)) = false := by decide) : PE X (.Call (.Name x p) [] [] pos) (tErr C f (tCons (tC .non) tNil)) := by
  obtain ⟨fI, fd, iC, tI, ⟨ds, hd, b0⟩, _, _, ok⟩ := O.ex
  refine ⟨fun pins s σ H Q I h => wpAny_Call_Name_kw (ld_glob I hg O.m ?_ hdb)⟩
  have h' : ∃ y, [V.non] = [y] ∧ ∀ a H2, Same H H2 → H a = none → Err H2 a C [(f, y)] → Q (.ref a) H2 := h
  obtain ⟨y, ey, q1⟩ := h'
  cases ey
  exact PySem.W.callWith_K0 I.kIn O.ox.kC (run_mx (us := []) (vs := []) (dvs := [V.non]) O.ox iC tI (ok X.prog X.w X.base) hr b0 hd pass0 I .nil (by simp) (fun a na => spi_of q1 a na))
theorem pe_errK {kp : Pos} (O : OwnE X.K X.mg x C f q) (hr : Room 2 X.A) (hg : Gl X x) (he : PE X e te) (hdb : (x == ("__debug__" : Str)) = false := by decide) 
    (hall : (backToKw pos (keywordEach [⟨some q, e, kp⟩] X.env)).all (·.1.isSome) = true := by rfl) (hks : (backToKw pos (keywordEach [⟨some q, e, kp⟩] X.env)).filterMap (·.1) = [q] := by rfl)
    (hpl : ((backTo pos (starEach [] X.env)).any (·.1) || (backToKw pos (keywordEach [⟨some q, e, kp⟩] X.env)).any (·.1.isNone)) = false := by rfl) : PE X (.Call (.Name x p) [] [⟨some q, e, kp⟩] pos) (tErr C f (tCons te tNil)) := by
  obtain ⟨fI, fd, iC, tI, _, _, bk, ok⟩ := O.ex
  refine ⟨fun pins s σ H Q I h => wpAny_Call_Name_kw (ld_glob I hg O.m ?_ hdb)⟩
  refine PySem.W.callWith_KW0 (h₀ := X.base) I.ok.mod.kin O.ox.kC hall ?_ hpl
  refine thn ((pk_cons he pk_nil).run pos pins s σ H _ I h) fun ws s1 ⟨zs, H1, I1, rz, y, ey, q1⟩ => ⟨I1.kIn, ?_⟩
  subst ey
  rw [hks]
  exact run_mxK O.ox iC tI (ok X.prog X.w X.base) hr bk pass0 I1 rz rfl (fun a na => spi_of q1 a na)
end
/-- C(), C an own error class without an __init__ of its own -/
def tErr0 (C : Addr) : TE := fun _ H Q => ∀ a, H a = none → Q (.ref a) (upd H a (exo a C none))
theorem pe_bare {X : Cx} {C : Addr} {bB : List Value} {B nI iI : String} {x : Str} {p pos : Pos} (F : ExcBaseFacts B nI iI bB) (q : PySem.W.excIn X.K C bB nI = true) (gC : X.mg x = some (.ref C)) (kC : PySem.W.keepIn X.K (.ref C) = true) (hg : Gl X x)
    (hdb : (x == ("__debug__" : Str)) = false := by decide) : PE X (.Call (.Name x p) [] [] pos) (tErr0 C) := by
  refine ⟨fun pins s σ H Q I h => wpAny_Call_Name_kw (ld_glob I hg gC ?_ hdb)⟩
  refine PySem.W.callWith_K0 I.kIn kC ?_
  obtain ⟨bm, N, nm, qn, bs, hdct, sn, sub, ab, col, dd, k0, k1, k2, k3, k5, mN, hC, hN, hni, T⟩ := exc_obj I.kIn q
  refine wpAny_call_exc_subT F T hC hN hni (fun h' a hm => ?_) (Nat.zero_le _)
  have hn : H a = none := I.hok.gone hm.new
  obtain ⟨t, ht, _, _⟩ := hm.there
  exact ⟨.ref a, _, I.laidN hm.keeps hm.new hn (exo_ok ht), rfl, h a hn⟩
end TX

set_option Elab.async false
set_option linter.all false
set_option maxRecDepth 100000
set_option maxHeartbeats 4000000
/-! TR: repr of plain data; defs that ask for it (no repr is under way around them). -/
namespace TR
open PySem PySem.Spec PyProof.Rows L2

/-! ### plain data over the abstract heap -/
def keyD : Key → PyData
  | .inl i => .int i
  | .inr x => .str x
mutual
inductive DV (H : Hp) (c : Bool) : V → PyData → Prop
  | non : DV H c .non .none
  | bl (b : Bool) : DV H c (.bl b) (.bool b)
  | int (i : Int) : DV H c (.int i) (.int i)
  | str (x : Str) : DV H c (.str x) (.str x)
  | lst {a : Addr} {xs : List V} {ds : List PyData} : (c = true → a ≠ sysModules) → H a = some (.lst xs) → DVs H c xs ds → DV H c (.ref a) (.list ds)
  | tup {a : Addr} {xs : List V} {ds : List PyData} : H a = some (.tup xs) → DVs H c xs ds → DV H c (.ref a) (.tuple ds)
  | dic {a : Addr} {kvs : List (Key × V)} {ds : List (PyData × PyData)} : H a = some (.dK kvs) → DVk H c kvs ds → DV H c (.ref a) (.dict ds)
inductive DVs (H : Hp) (c : Bool) : List V → List PyData → Prop
  | nil : DVs H c [] []
  | cons {x : V} {d : PyData} {xs : List V} {ds : List PyData} : DV H c x d → DVs H c xs ds → DVs H c (x :: xs) (d :: ds)
inductive DVk (H : Hp) (c : Bool) : List (Key × V) → List (PyData × PyData) → Prop
  | nil : DVk H c [] []
  | cons {k : Key} {x : V} {d : PyData} {xs : List (Key × V)} {ds : List (PyData × PyData)} : DV H c x d → DVk H c xs ds → DVk H c ((k, x) :: xs) ((keyD k, d) :: ds)
end
mutual
theorem DV.same {H H' : Hp} {c : Bool} (h : ∀ a o, H a = some o → H' a = some o) : ∀ {x : V} {d : PyData}, DV H c x d → DV H' c x d
  | _, _, .non => .non
  | _, _, .bl b => .bl b
  | _, _, .int i => .int i
  | _, _, .str x => .str x
  | _, _, .lst z e r => .lst z (h _ _ e) (DVs.same h r)
  | _, _, .tup e r => .tup (h _ _ e) (DVs.same h r)
  | _, _, .dic e r => .dic (h _ _ e) (DVk.same h r)
theorem DVs.same {H H' : Hp} {c : Bool} (h : ∀ a o, H a = some o → H' a = some o) : ∀ {x : List V} {d : List PyData}, DVs H c x d → DVs H' c x d
  | _, _, .nil => .nil
  | _, _, .cons r t => .cons (DV.same h r) (DVs.same h t)
theorem DVk.same {H H' : Hp} {c : Bool} (h : ∀ a o, H a = some o → H' a = some o) : ∀ {x : List (Key × V)} {d : List (PyData × PyData)}, DVk H c x d → DVk H' c x d
  | _, _, .nil => .nil
  | _, _, .cons r t => .cons (DV.same h r) (DVk.same h t)
end
theorem pairs_rd {P : Program} {w : World} : ∀ {es : List DictEntry} {kvs : List (Key × V)} {vs : List (Key × Value)}, PySem.Pairs (mixKind P w) es vs → KV kvs vs →
    Paired (fun (p : Key × V) (e : DictEntry) => keyIs p.1 e.key = true ∧ RelV p.2 e.val) kvs es
  | _, _, _, .nil, .nil => .nil
  | _, _, _, .cons h1 h2 t, .cons r k => .cons ⟨by rw [r.1]; exact h1, by rw [h2]; exact r.2⟩ (pairs_rd t k)
theorem key_rd {h : Heap} {k : Key} {v : Value} (e : keyIs k v = true) : Reads h v (keyD k) [] := by
  rcases keyIs_shape e with ⟨i, t, rfl, rfl⟩ | ⟨x, t, rfl, rfl⟩
  · exact .int i t
  · exact .str x t
section
variable {P : Program} {w : World} {H : Hp} {h : Heap} {c : Bool}
mutual
theorem DV.rd (ok : HOk P w H h) : ∀ {x : V} {d : PyData} {u : Value}, DV H c x d → RelV x u → ∃ as, Reads h u d as ∧ (c = true → sysModules ∉ as)
  | _, _, _, .non, r => by cases (show _ = Value.none from r); exact ⟨_, .none, fun _ => by simp⟩
  | _, _, _, .bl b, r => by cases (show _ = Value.bool b from r); exact ⟨_, .bool b, fun _ => by simp⟩
  | _, _, _, .int i, r => by obtain ⟨t, rfl⟩ := (show ∃ t, _ = Value.int i t from r); exact ⟨_, .int i t, fun _ => by simp⟩
  | _, _, _, .str x, r => by obtain ⟨t, rfl⟩ := (show ∃ t, _ = Value.str x t from r); exact ⟨_, .str x t, fun _ => by simp⟩
  | _, _, _, @DV.lst _ _ a xs ds y e q, r => by
    cases (show _ = Value.ref a from r)
    obtain ⟨_, its, n, rv, g⟩ := (show ObjOk P w H h a (.lst xs) from ok a _ e)
    obtain ⟨as, z, zs⟩ := DVs.rd ok q rv
    exact ⟨_, .list (vs := its.toArray) g rfl rfl z, fun hc => by simpa using ⟨(y hc).symm, zs hc⟩⟩
  | _, _, _, @DV.tup _ _ a xs ds e q, r => by
    cases (show _ = Value.ref a from r)
    obtain ⟨_, its, rv, o, g, k, n, dt⟩ := (show ObjOk P w H h a (.tup xs) from ok a _ e)
    obtain ⟨as, z, zs⟩ := DVs.rd ok q rv
    exact ⟨_, .tuple (vs := its.toArray) g k dt z, zs⟩
  | _, _, _, @DV.dic _ _ a kvs ds e q, r => by
    cases (show _ = Value.ref a from r)
    obtain ⟨_, sm, vs, kv, o, es, ep, g, k, dt, _, pr, _⟩ := (show ObjOk P w H h a (.dK kvs) from ok a _ e)
    obtain ⟨as, bs, z1, z2, z3, z4⟩ := DVk.rd ok q (pairs_rd pr kv)
    exact ⟨_, .dict g k.1 dt z1 z2, fun hc => by simpa using ⟨(beq_eq_false_iff_ne.mp sm).symm, z3 hc, z4 hc⟩⟩
theorem DVs.rd (ok : HOk P w H h) : ∀ {x : List V} {d : List PyData} {u : List Value}, DVs H c x d → Vals x u → ∃ as, ReadsAll h u d as ∧ (c = true → sysModules ∉ as)
  | _, _, _, .nil, .nil => ⟨_, .nil, fun _ => by simp⟩
  | _, _, _, .cons q t, .cons r s => by
    obtain ⟨_, z, y⟩ := DV.rd ok q r
    obtain ⟨_, z', y'⟩ := DVs.rd ok t s
    exact ⟨_, .cons z z', fun hc => by simpa using ⟨y hc, y' hc⟩⟩
theorem DVk.rd (ok : HOk P w H h) : ∀ {x : List (Key × V)} {d : List (PyData × PyData)} {es : List DictEntry}, DVk H c x d → Paired (fun (p : Key × V) (e : DictEntry) => keyIs p.1 e.key = true ∧ RelV p.2 e.val) x es →
    ∃ as bs, ReadsAll h (es.map (·.key)) (d.map (·.1)) as ∧ ReadsAll h (es.map (·.val)) (d.map (·.2)) bs ∧ (c = true → sysModules ∉ as) ∧ (c = true → sysModules ∉ bs)
  | _, _, _, .nil, .nil => ⟨_, _, .nil, .nil, fun _ => by simp, fun _ => by simp⟩
  | _, _, _, .cons q t, .cons r s => by
    obtain ⟨_, z, y⟩ := DV.rd ok q r.2
    obtain ⟨_, _, z1, z2, z3, z4⟩ := DVk.rd ok t s
    exact ⟨_, _, .cons (key_rd r.1) z1, .cons z z2, fun hc => by simpa using z3 hc, fun hc => by simpa using ⟨y hc, z4 hc⟩⟩
end
end
/-- repr(x) of plain data -/
def rRepr : List V → Hp → VK → Prop := fun xs H Q => ∃ (a : Addr) (d : PyData) (c : Bool), xs = [.ref a] ∧ DV H c (.ref a) d ∧ (d.hasDict = true → c = true) ∧ d.showable = true ∧ d.depth ≤ 60 ∧ d.shown.length ≤ sizeLine ∧ Q (.str d.shown) H
theorem cr_repr {X : Cx} (hg : X.A.guards = some []) (hu : X.A.units + 64 < cLine) : CallR X (.builtin "repr") rRepr := by
  intro pins s σ H xs us Q I r h
  obtain ⟨a, d, c, rfl, hd, hc, hs, hp, hz, q⟩ := h
  obtain ⟨u, rfl, ru⟩ := r.one
  cases (show u = Value.ref a from ru)
  obtain ⟨as, rd, ap⟩ := DV.rd I.hok hd (show RelV (.ref a) (.ref a) from rfl)
  exact repr_of_reads' rd hs (fun z => ap (hc z)) hg (by omega) (fun _ _ z => z) (fun h' u tk hk => ⟨.str d.shown, H, I.kept (t' := tk) hk, ⟨u, rfl⟩, q⟩) hz

/-! ### lists whose address is known not to be the table of modules -/
def rCatN : R2 := fun x y H Q => ∃ l b xs zs, x = .ref l ∧ y = .ref b ∧ H l = some (.lst xs) ∧ H b = some (.lst zs) ∧ xs.length + zs.length ≤ sizeLine ∧ ∀ p, H p = none → p ≠ sysModules → Q (.ref p) (upd H p (.lst (xs ++ zs)))
theorem op_catN {X : Cx} : OpR X (binaryOp .Add) rCatN := by
  intro pins s σ H x y v u Q I rx ry hh
  obtain ⟨l, b, xs, zs, e1, e2, hl, hb, hz, k⟩ := hh
  subst e1 e2
  cases rx
  cases ry
  obtain ⟨_, us, n, rl, ll, gl⟩ := I.lstM hl
  obtain ⟨_, ws, m, rb, lb, gb⟩ := I.lstM hb
  refine PySem.P.add_list gl gb ?_ (by simp only [List.size_toArray]; omega)
  rw [show us.toArray ++ ws.toArray = (us ++ ws).toArray by simp]
  exact ⟨.ref _, _, I.lnew (t' := s.toks) (rl.append rb) (by simpa using hz), rfl, k _ I.fresh (Nat.ne_of_gt I.big)⟩
def rRepN : R2 := fun x y H Q => ∃ l z k, x = .ref l ∧ y = .int k ∧ H l = some (.lst [z]) ∧ 0 ≤ k ∧ k ≤ 1000 ∧ ∀ p, H p = none → p ≠ sysModules → Q (.ref p) (upd H p (.lst (List.replicate k.toNat z)))
theorem op_repN {X : Cx} : OpR X (binaryOp .Mult) rRepN := by
  intro pins s σ H x y v u Q I rx ry hh
  obtain ⟨l, z, k, e1, e2, hl, k0, k1, go⟩ := hh
  subst e1 e2
  cases rx
  obtain ⟨tk, rfl⟩ := ry
  obtain ⟨_, us, n, rl, ll, gl⟩ := I.lstM hl
  have small : us.toArray.size * k.toNat ≤ sizeLine := by
    rw [List.size_toArray, ← ll, sizeLine_eq]; simp; omega
  have cap : ¬ us.toArray.size * k.toNat > (2 ^ 63 - 1) / 8 := by
    have : (sizeLine : Nat) ≤ (2 ^ 63 - 1) / 8 := by decide
    omega
  have fits : ¬ (!Builtin.List.listFitsIndex k) = true := by
    rw [fitsIndex_both (by omega) (by omega)]; decide
  have long : ¬ Builtin.List.listTooLong (us.toArray.size * k.toNat) = true := by
    rw [notLongL small]; decide
  have all : List.foldl (fun x1 x2 => x1 ++ x2) #[] (List.replicate (if us.toArray.isEmpty = true then 0 else k.toNat) us.toArray) = (List.replicate k.toNat us).flatten.toArray := by
    have go : ∀ m : Nat, List.foldl (fun x1 x2 => x1 ++ x2) #[] (List.replicate m us.toArray) = (List.replicate m us).flatten.toArray := fun m => by
      simpa using foldl_rep us m []
    rw [go]
    cases us with
    | nil => simp
    | cons _ _ => simp
  refine wpAny_binaryOp_repeat_ref (T := "list") (U := "int") (by decide) ⟨_, gl, rfl⟩ (fun s' => typeIs_int s' k tk) noFill_list_mul F.fills_int_mul F.slot_int_rmul repeat_list F.slot_int_index.lookup ?_
  refine call_meets F.slot_int_rmul (typeIs_int s k tk) F.entry_int_rmul (F.args_int_rmul_2 _ _) (int___rmul___int_list k tk l us.toArray n) ⟨gl, rfl, ⟨_, gl, rfl⟩, ?_⟩
  refine call_meets F.slot_list_mul ⟨_, gl, rfl⟩ F.entry_list_mul (F.args_list_mul_2 _ _) (AutoListH.list___mul___list_int_3 l us.toArray n k tk fits cap long) ⟨gl, ?_⟩
  rw [all]
  have e : (List.replicate k.toNat [z]).flatten = List.replicate k.toNat z := by
    simp [List.flatten_replicate_singleton]
  have rr := rl.rep k.toNat
  rw [e] at rr
  exact ⟨.ref _, _, I.lnew (t' := s.toks) rr (by rw [List.length_replicate, sizeLine_eq]; omega), rfl, go _ I.fresh (Nat.ne_of_gt I.big)⟩

/-! ### defs around which no repr is under way -/
structure FnG (P : Program) (w : World) (K : PySem.W.Frag) (mg : Str → Option Value) (base : Heap) (CX : CXT) (k : Nat) (f : Addr) (fd : FuncData) (ps : List Str) (sp : Sp) : Prop where
  len : ∀ vs H Q E, sp vs H Q E → vs.length = ps.length
  run : ∀ (A : Around), A.guards = some [] → ∀ (outer : List Env) (s : Shared) (H : Hp) (args : Args) (us : List Value) (vs : List V) (Q : VK) (E : XK), Room k A → Env0 P w K mg base A outer s H → BindsTo s fd args (ps.zip us) → Vals vs us → sp vs H Q E →
    codeAny (model P w) A (.call (.ref f) args) (CR CX outer P w H s Q E) s
section
variable {X : Cx} {CX : CXT} {k : Nat} {f : Addr} {fd : FuncData} {ps : List Str} {sp : Sp} {ds : List Value} {dvs : List V} {E : XK} {x : Str} {e : Expr} {es : List Expr} {t : TA} {p pos : Pos}
theorem pe_callG (F : FnG X.prog X.w X.K X.mg X.base CX k f fd ps sp) (hG : X.A.guards = some []) (hr : Room k X.A) (hg : Gl X x) (hm : X.mg x = some (.ref f)) (hk : PySem.W.keepIn X.K (.ref f) = true) (hb : Binds X.K fd ps ds) (hd : Vals dvs ds) (hx : Passes CX X E)
    (ha : PA X (e :: es) t) (hdb : (x == ("__debug__" : Str)) = false := by decide) (he : starEach (e :: es) X.env = (false, eval e X.env) :: starEach es X.env := by rfl) (hpl : (backTo pos (starEach es X.env)).any (·.1) = false := by rfl) :
    PE X (.Call (.Name x p) (e :: es) [] pos) (tCall sp dvs E t) := by
  refine ⟨fun pins s σ H Q I h => wpAny_Call_Name_kw (ld_glob I hg hm ?_ hdb)⟩
  refine PySem.W.callWith_K (h₀ := X.base) I.ok.mod.kin hk (thn (ha.run pos pins s σ H _ I h) fun us s1 ⟨vs, H1, J, r, q⟩ => ⟨J.kIn, ?_⟩) he hpl
  have rr : Vals (vs ++ dvs) (us ++ ds) := r.append hd
  have bound := hb s1 us J.kIn (rr.length.symm.trans (F.len _ _ _ _ q))
  refine wpAny_call (codeAny_mono (F.run X.A hG X.stack s1 H1 ⟨us, []⟩ (us ++ ds) (vs ++ dvs) Q E hr J.env0 bound rr q) fun res s' z => ?_)
  cases res with
  | error er => exact hx pins σ H1 s1 er s' J z
  | ok fl =>
    cases fl with
    | ret u => exact J.after z
    | next => exact False.elim z
    | brk => exact False.elim z
    | cont => exact False.elim z
end
section
variable {P : Program} {w : World} {K : PySem.W.Frag} {mg : Str → Option Value} {base : Heap}
/-- a def by its body, no repr under way -/
theorem okG {x qual : Str} {st : Stmt} {f : Addr} {fd : FuncData} {N ps : List Str} {k : Nat} {sp : Sp} (F : Fun K x qual st f fd) (S : FnScope N ps (defScope st)) (len : ∀ vs H Q E, sp vs H Q E → vs.length = ps.length)
    (hbody : ∀ (cdv : Value) (A : Around) (outer : List Env) (s : Shared) (H : Hp) (vs : List V) (Q : VK) (E : XK), (A.deeper (envOfC qual (defScope st) s.heap.objs.size f cdv)).guards = some [] → Room k (A.deeper (envOfC qual (defScope st) s.heap.objs.size f cdv)) → sp vs H Q E →
      ∃ t, PSs (cxOf CX0 P w K mg base N qual (defScope st) f cdv A outer s H E).nox (defBody st) t ∧ t { nx := fun _ H' => Q .non H', rt := Q } (start N vs) H) : FnG P w K mg base CX0 (k + 1) f fd ps sp := by
  obtain ⟨oc, od, kV, doc, pm, an, cdv, ct, osl, rfl, lk, hcd⟩ := F.ex
  refine ⟨len, fun A hG outer s H args us vs Q E room e0 bound r pre => ?_⟩
  have many := len _ _ _ _ pre
  have KX : K.In s.heap := e0.mod.kin.keeps fun b o z => (e0.bs b o z).1
  have lim : s.heap.NoLimit := e0.mod.nolimit.keeps fun b o z => (e0.bs b o z).1
  have kinds : ∀ y ∈ ps.zip us, (defScope st).names.lookup y.1 = some .local ∨ ((defScope st).names.lookup y.1 = some .cell ∧ ((cellsFrom (s.heap.objs.size + 1) (defScope st).names []).lookup y.1).isSome = true) := fun y hy => by
    have mem : y.1 ∈ ps := (List.of_mem_zip (show (y.1, y.2) ∈ ps.zip us from hy)).1
    rcases S.par y.1 mem with z | z
    · exact .inl z
    · exact .inr ⟨z, PySem.W.cellsFrom_some _ _ _ (.inl z)⟩
  refine codeAny_call_function room.depth (KX _ _ lk) rfl S.co S.gen rfl (PySem.W.codeRec_of KX hcd) (bound _ _ _ _ ?_)
  refine wpAny_newFunctionEnv_cells S.kind kinds fun env henv s1 inside => ?_
  subst henv
  refine ⟨lim.keeps inside.toInCall.keep, codeAny_func ?_⟩
  obtain ⟨t, ht0, go⟩ := hbody cdv A outer s H vs Q E hG (room.deeper _) pre
  have ht := ht0.nox
  have I : Inv (cxOf CX0 P w K mg base N qual (defScope st) f cdv A outer s H E) [] (start N vs) H s1 := inv_start S room.hd e0 many r inside
  refine wpAny_mono (ht.run [] s1 (start N vs) H _ I go) (fun fl s' z => ?_) fun _ _ z => z
  have back : ∀ {σ' : L2.St} {H' : Hp} {v : V} {u : Value}, Inv (cxOf CX0 P w K mg base N qual (defScope st) f cdv A outer s H E) [] σ' H' s' → RelV v u → Q v H' → CE outer P w H s Q u s' := fun {σ' H' v u} J rv q => ⟨v, H', J.os, J.bare, J.base, J.hok, rv, q⟩
  cases fl with
  | ret u =>
    obtain ⟨v, σ', H', J, rv, q⟩ := z
    exact back J rv q
  | next =>
    obtain ⟨σ', H', J, q⟩ := z
    exact back (v := V.non) (u := Value.none) J rfl q
  | brk => exact False.elim z.choose_spec.choose_spec.2
  | cont => exact False.elim z.choose_spec.choose_spec.2
end

/-! ### the law's own def -/
section
variable {P : Program} {w : World} {K : PySem.W.Frag} {mg mb : Str → Option Value} {CX : CXT} {k : Nat} {fa a : Addr} {fd : FuncData} {x : Str} {sp : Sp} {t : Shared} {us : List Value} {ns : List Int}
/-- what the call leaves -/
abbrev Fine (t : Shared) : Result → Shared → Prop := fun r t' => r = .ok (.ret (.bool true)) ∧ OldK t.heap t'.heap ∧ t'.os = t.os ∧ AllBare t'.gens
theorem lawH (inK : K.In t.heap) (nsM : t.heap.Ns mainGlobals mg) (nsB : t.heap.Ns builtinsNs mb) (bb : ∀ y : Str, y ≠ "__name__" → mb y = bootBuiltins y) (nl : t.heap.NoLimit) (ng : t.gens = #[])
    (at_a : t.heap.get? a = some { cls := .type "list", data := .seq us.toArray }) (room : Room k callerA) (F : ∀ base : Heap, K.In base → base.Ns mainGlobals mg → FnG P w K mg base CX k fa fd [x] sp)
    (bind1 : ∀ (s : Shared) (u : Value), BindsTo s fd ⟨[u], []⟩ [(x, u)]) (noX : ∀ H e s', CX [] H t (fun _ _ _ => False) e s' → False)
    {H : Hp} (only : Only H) (pre : sp [.ref a] H (fun v _ => v = .bl true) fun _ _ _ => False) (hok : HOk P w H t.heap) (onA : ∀ b, H b ≠ none → b = a) (offK : H a ≠ none → K.lookup a = none) :
    codeAny (model P w) callerA (.call (.ref fa) ⟨[.ref a], []⟩) (Fine t) t := by
  have sees : ∀ {b : Addr} {o : Obj}, t.heap.get? b = some o → H b = none → (hidT t.heap H).get? b = some o := fun z n => hidT_get z n
  have untr : ∀ {b : Addr}, b ≠ a → H b = none := fun {b} nb => by
    cases q : H b with
    | none => rfl
    | some u => exact absurd (onA b (by rw [q]; simp)) nb
  have dictNs : ∀ {b : Addr} {m : Str → Option Value}, t.heap.Ns b m → (hidT t.heap H).Ns b m := fun {b m} ⟨o, es, ep, g, d, r⟩ => by
    refine ⟨o, es, ep, sees g (untr fun z => ?_), d, r⟩
    subst z
    rw [at_a] at g
    cases g
    exact nomatch (show Data.seq us.toArray _ = Data.dict es ep from d)
  have inB : K.In (hidT t.heap H) := fun b o z => by
    refine sees (inK b o z) ?_
    cases q : H b with
    | none => rfl
    | some u =>
      have nn : H b ≠ none := by rw [q]; simp
      have eb := onA b nn
      subst eb
      rw [offK nn] at z
      cases z
  obtain ⟨mc, l1, l2⟩ := nl
  have md : Mod K mg (hidT t.heap H) := ⟨inB, dictNs nsM, ⟨mb, dictNs nsB, bb⟩, ⟨mc, dictNs l1, l2⟩⟩
  have e0 : Env0 P w K mg (hidT t.heap H) callerA [] t H := ⟨rfl, md, fun b o z => of_hidT z, Nat.le_of_eq (hidT_size _ _), trivial, fun b z => (by cases z), hok, .of_eq ng⟩
  refine codeAny_mono ((F _ inB (dictNs nsM)).run callerA rfl [] t H ⟨[.ref a], []⟩ [.ref a] [.ref a] _ _ room e0 (bind1 t (.ref a)) (.cons rfl .nil) pre) fun r t' z => ?_
  cases r with
  | error e => exact (noX H e t' z).elim
  | ok fl =>
    cases fl with
    | next => exact False.elim z
    | brk => exact False.elim z
    | cont => exact False.elim z
    | ret u =>
      obtain ⟨v, H', os, bare, un, hok', rv, ev⟩ := z
      cases (show v = .bl true from ev)
      cases (show u = Value.bool true from rv)
      refine ⟨rfl, OldK.of_keep fun b o g => ?_, os, bare⟩
      rcases only b with n | ⟨ob, xs, z⟩
      · exact un.keep b o g n (fun q => by cases q) (fun q => by cases q)
      · have g1 := (hok b _ z).1
        have g2 := (hok' b _ (un.frzs b ob _ z)).1
        rw [g] at g1
        cases g1
        exact g2
theorem lawG (inK : K.In t.heap) (nsM : t.heap.Ns mainGlobals mg) (nsB : t.heap.Ns builtinsNs mb) (bb : ∀ y : Str, y ≠ "__name__" → mb y = bootBuiltins y) (nl : t.heap.NoLimit) (ng : t.gens = #[])
    (at_a : t.heap.get? a = some { cls := .type "list", data := .seq us.toArray }) (areInts : IntsAre us ns) (hz : ns.length ≤ sizeLine) (room : Room k callerA) (F : ∀ base : Heap, K.In base → base.Ns mainGlobals mg → FnG P w K mg base CX k fa fd [x] sp)
    (bind1 : ∀ (s : Shared) (u : Value), BindsTo s fd ⟨[u], []⟩ [(x, u)]) (noX : ∀ H e s', CX [] H t (fun _ _ _ => False) e s' → False)
    (pre : ∀ H : Hp, Only H → SqL K H a (ns.map V.int) → sp [.ref a] H (fun v _ => v = .bl true) fun _ _ _ => False) : codeAny (model P w) callerA (.call (.ref fa) ⟨[.ref a], []⟩) (Fine t) t := by
  have rv := vals_ints areInts
  have many := areInts.length
  cases own : K.lookup a with
  | some o =>
    have g := inK a o own
    rw [at_a] at g
    cases g
    have none0 : Only fun _ => none := fun _ => .inl rfl
    exact lawH inK nsM nsB bb nl ng at_a room F bind1 noX none0 (pre _ none0 (.inr ⟨_, us.toArray, _, own, rfl, rfl, rfl, by rw [List.size_toArray, many]; exact hz, by simpa using rv⟩)) (fun b u z => nomatch (show (none : Option HO) = some u from z)) (fun b z => absurd rfl z) fun z => absurd rfl z
  | none =>
    let H1 : Hp := fun b => if b = a then some (.frz { cls := .type "list", data := .seq us.toArray } (.lst (ns.map V.int))) else none
    have yes : H1 a = some (.frz { cls := .type "list", data := .seq us.toArray } (.lst (ns.map V.int))) := if_pos rfl
    have no : ∀ {b : Addr}, b ≠ a → H1 b = none := fun nb => if_neg nb
    have one : Only H1 := fun b => by
      by_cases e : b = a
      · exact .inr ⟨_, _, by rw [e]; exact yes⟩
      · exact .inl (no e)
    refine lawH inK nsM nsB bb nl ng at_a room F bind1 noX one (pre _ one (.inl (.inr ⟨_, yes⟩))) (fun b u z => ?_) (fun b z => ?_) fun _ => own
    · by_cases e : b = a
      · subst e
        rw [yes] at z
        cases z
        exact ⟨at_a, by rw [List.length_map]; exact hz, us, _, rv, at_a⟩
      · rw [no e] at z
        cases z
    · exact Decidable.byContradiction fun e => z (no e)
end
theorem walkG {l : PySem.W.OpenLaw} {n k : Nat} {q : Program} {loose : List Str} {XP : (Str → Option Value) → Heap → Prop} {YP : World → Heap → Prop} {d : DefRec} {K : Params → PySem.W.Frag} {sp : World → Sp} {x : Str}
    (hn : l.most = some n) (hz : n ≤ sizeLine) (hdf : d.params.defaults = []) (room : Room k callerA) (hY : ∀ (w : World) (h : Heap), YP w h → (K w.params).In h)
    (F : ∀ (w : World) (mg : Str → Option Value) (fa : Addr) (h : Heap), (K w.params).In h → h.Ns mainGlobals mg → mg d.name = some (.ref fa) →
      ∃ fd : FuncData, (∀ (s : Shared) (u : Value), BindsTo s fd ⟨[u], []⟩ [(x, u)]) ∧ ∀ base : Heap, (K w.params).In base → base.Ns mainGlobals mg → FnG l.prog w (K w.params) mg base CX0 k fa fd [x] (sp w))
    (pre : ∀ (w : World) (H : Hp) (a : Addr) (ns : List Int), ns.length ≤ n → Only H → SqL (K w.params) H a (ns.map V.int) → sp w [.ref a] H (fun v _ => v = .bl true) fun _ _ _ => False) :
    PySem.W.WalkO q loose XP YP l.row.toRowW d [] (fun f vs => PySem.call f vs) := by
  refine Att.attach_call hn hdf fun w t0 t mg mb fa o pm cd doc a us ns G Y ho hd hcd hmg at_a areInts many ng => ?_
  obtain ⟨fd, hb, hF⟩ := F w mg fa _ (hY w _ Y) G.T.g hmg
  exact lawG (hY w _ Y) G.T.g G.T.b G.T.builtins G.T.nolimit ng at_a areInts (Nat.le_trans many hz) room hF hb (fun _ _ _ z => z) fun H h1 h2 => pre w H a ns many h1 h2
end TR

namespace Toy
open PySem L2 TT TX TR
def top (i : Nat) : Stmt := PySem.Challenge.pw_treeturns_k01_errors.main.body.getD i (.Pass ⟨0, 0, 0, 0⟩)
def ini : Stmt → Stmt
  | .ClassDef (body := b) .. => b.headD (.Pass ⟨0, 0, 0, 0⟩)
  | s => s
abbrev i_InvalidTree : Stmt := ini (top 2)
theorem si_InvalidTree : FnScope ["self", "value"] ["self", "value"] (defScope i_InvalidTree) := ⟨rfl, rfl, rfl, by decide +kernel, rfl, by decide +kernel, by decide +kernel⟩
abbrev i_InvalidAddress : Stmt := ini (top 3)
theorem si_InvalidAddress : FnScope ["self", "value"] ["self", "value"] (defScope i_InvalidAddress) := ⟨rfl, rfl, rfl, by decide +kernel, rfl, by decide +kernel, by decide +kernel⟩
abbrev i_InvalidNumber : Stmt := ini (top 4)
theorem si_InvalidNumber : FnScope ["self", "value"] ["self", "value"] (defScope i_InvalidNumber) := ⟨rfl, rfl, rfl, by decide +kernel, rfl, by decide +kernel, by decide +kernel⟩
abbrev i_InvalidList : Stmt := ini (top 5)
theorem si_InvalidList : FnScope ["self", "value"] ["self", "value"] (defScope i_InvalidList) := ⟨rfl, rfl, rfl, by decide +kernel, rfl, by decide +kernel, by decide +kernel⟩
abbrev i_InvalidScript : Stmt := ini (top 6)
theorem si_InvalidScript : FnScope ["self", "value"] ["self", "value"] (defScope i_InvalidScript) := ⟨rfl, rfl, rfl, by decide +kernel, rfl, by decide +kernel, by decide +kernel⟩
abbrev i_InvalidMove : Stmt := ini (top 7)
theorem si_InvalidMove : FnScope ["self", "value"] ["self", "value"] (defScope i_InvalidMove) := ⟨rfl, rfl, rfl, by decide +kernel, rfl, by decide +kernel, by decide +kernel⟩
abbrev i_CannotTurn : Stmt := ini (top 8)
theorem si_CannotTurn : FnScope ["self", "place"] ["self", "place"] (defScope i_CannotTurn) := ⟨rfl, rfl, rfl, by decide +kernel, rfl, by decide +kernel, by decide +kernel⟩
abbrev i_CannotMove : Stmt := ini (top 9)
theorem si_CannotMove : FnScope ["self", "value"] ["self", "value"] (defScope i_CannotMove) := ⟨rfl, rfl, rfl, by decide +kernel, rfl, by decide +kernel, by decide +kernel⟩
abbrev i_NotCarried : Stmt := ini (top 10)
theorem si_NotCarried : FnScope ["self", "address"] ["self", "address"] (defScope i_NotCarried) := ⟨rfl, rfl, rfl, by decide +kernel, rfl, by decide +kernel, by decide +kernel⟩
abbrev i_InvalidName : Stmt := ini (top 11)
theorem si_InvalidName : FnScope ["self", "name"] ["self", "name"] (defScope i_InvalidName) := ⟨rfl, rfl, rfl, by decide +kernel, rfl, by decide +kernel, by decide +kernel⟩
abbrev i_TakenName : Stmt := ini (top 12)
theorem si_TakenName : FnScope ["self", "name"] ["self", "name"] (defScope i_TakenName) := ⟨rfl, rfl, rfl, by decide +kernel, rfl, by decide +kernel, by decide +kernel⟩
abbrev i_UnknownName : Stmt := ini (top 13)
theorem si_UnknownName : FnScope ["self", "name"] ["self", "name"] (defScope i_UnknownName) := ⟨rfl, rfl, rfl, by decide +kernel, rfl, by decide +kernel, by decide +kernel⟩
abbrev s_law_cell : Stmt := top 16
abbrev nm_law_cell : List Str := ["_law_script", "_law_index"]
theorem sc_law_cell : FnScope ["_law_script", "_law_index"] ["_law_script", "_law_index"] (defScope s_law_cell) := ⟨rfl, rfl, rfl, by decide +kernel, rfl, by decide +kernel, by decide +kernel⟩
abbrev s_law_hash : Stmt := top 17
abbrev nm_law_hash : List Str := ["_law_seed", "_law_index", "_law_mixed"]
theorem sc_law_hash : FnScope ["_law_seed", "_law_index", "_law_mixed"] ["_law_seed", "_law_index"] (defScope s_law_hash) := ⟨rfl, rfl, rfl, by decide +kernel, rfl, by decide +kernel, by decide +kernel⟩
abbrev s_law_generator : Stmt := top 18
abbrev nm_law_generator : List Str := ["_law_script", "_law_index", "_law_seed"]
theorem sc_law_generator : FnScope ["_law_script", "_law_index", "_law_seed"] ["_law_script", "_law_index"] (defScope s_law_generator) := ⟨rfl, rfl, rfl, by decide +kernel, rfl, by decide +kernel, by decide +kernel⟩
abbrev s_law_random : Stmt := top 19
abbrev nm_law_random : List Str := ["_law_generator_here", "_law_bound", "_law_drawn", "_law_turn"]
theorem sc_law_random : FnScope ["_law_generator_here", "_law_bound", "_law_drawn", "_law_turn"] ["_law_generator_here", "_law_bound"] (defScope s_law_random) := ⟨rfl, rfl, rfl, by decide +kernel, rfl, by decide +kernel, by decide +kernel⟩
abbrev s_law_kinds : Stmt := top 20
abbrev nm_law_kinds : List Str := ["_law_error", "_law_kinds_here", "_law_index"]
theorem sc_law_kinds : FnScope ["_law_error", "_law_kinds_here", "_law_index"] ["_law_error"] (defScope s_law_kinds) := ⟨rfl, rfl, rfl, by decide +kernel, rfl, by decide +kernel, by decide +kernel⟩
abbrev s_law_fields : Stmt := top 21
abbrev nm_law_fields : List Str := ["_law_errors", "_law_found", "_law_error"]
theorem sc_law_fields : FnScope ["_law_errors", "_law_found", "_law_error"] ["_law_errors"] (defScope s_law_fields) := ⟨rfl, rfl, rfl, by decide +kernel, rfl, by decide +kernel, by decide +kernel⟩
abbrev s_law_right : Stmt := top 22
abbrev nm_law_right : List Str := ["_law_errors", "_law_wanted", "_law_error", "_law_index"]
theorem sc_law_right : FnScope ["_law_errors", "_law_wanted", "_law_error", "_law_index"] ["_law_errors", "_law_wanted"] (defScope s_law_right) := ⟨rfl, rfl, rfl, by decide +kernel, rfl, by decide +kernel, by decide +kernel⟩
abbrev s_law_placed : Stmt := top 23
abbrev nm_law_placed : List Str := ["_law_given", "_law_placed_here"]
theorem sc_law_placed : FnScope ["_law_given", "_law_placed_here"] ["_law_given"] (defScope s_law_placed) := ⟨rfl, rfl, rfl, by decide +kernel, rfl, by decide +kernel, by decide +kernel⟩
abbrev s_law_given_right : Stmt := top 24
abbrev nm_law_given_right : List Str := ["_law_given", "_law_named", "_law_placed_here"]
theorem sc_law_given_right : FnScope ["_law_given", "_law_named", "_law_placed_here"] ["_law_given"] (defScope s_law_given_right) := ⟨rfl, rfl, rfl, by decide +kernel, rfl, by decide +kernel, by decide +kernel⟩
abbrev s_law : Stmt := top 25
abbrev nm_law : List Str := ["_law_script", "_law_number", "_law_kept", "_law_given", "_law_bare"]
theorem sc_law : FnScope ["_law_script", "_law_number", "_law_kept", "_law_given", "_law_bare"] ["_law_script"] (defScope s_law) := ⟨rfl, rfl, rfl, by decide +kernel, rfl, by decide +kernel, by decide +kernel⟩
abbrev veL : List Value := [.type "ValueError", .type "Exception", .type "BaseException", .type "object"]
abbrev veL0 : List Value := veL
structure Txt (K : PySem.W.Frag) (mg : Str → Option Value) where
  c_TurnError : Addr
  g_TurnError : mg "TurnError" = some (.ref c_TurnError)
  e_TurnError : ErrC K c_TurnError (.ref c_TurnError :: veL)
  c_InvalidTree : Addr
  o_InvalidTree : OwnE K mg "InvalidTree" c_InvalidTree "value" "value"
  g_InvalidTree : mg "InvalidTree" = some (.ref c_InvalidTree)
  e_InvalidTree : ErrC K c_InvalidTree (.ref c_InvalidTree :: .ref c_TurnError :: veL)
  x_InvalidTree : XfC K c_InvalidTree
  n_InvalidTree : PySem.W.findIn K (.ref c_InvalidTree) "value" = some none
  c_InvalidAddress : Addr
  o_InvalidAddress : OwnE K mg "InvalidAddress" c_InvalidAddress "value" "value"
  g_InvalidAddress : mg "InvalidAddress" = some (.ref c_InvalidAddress)
  e_InvalidAddress : ErrC K c_InvalidAddress (.ref c_InvalidAddress :: .ref c_TurnError :: veL)
  x_InvalidAddress : XfC K c_InvalidAddress
  n_InvalidAddress : PySem.W.findIn K (.ref c_InvalidAddress) "value" = some none
  c_InvalidNumber : Addr
  o_InvalidNumber : OwnE K mg "InvalidNumber" c_InvalidNumber "value" "value"
  g_InvalidNumber : mg "InvalidNumber" = some (.ref c_InvalidNumber)
  e_InvalidNumber : ErrC K c_InvalidNumber (.ref c_InvalidNumber :: .ref c_TurnError :: veL)
  x_InvalidNumber : XfC K c_InvalidNumber
  n_InvalidNumber : PySem.W.findIn K (.ref c_InvalidNumber) "value" = some none
  c_InvalidList : Addr
  o_InvalidList : OwnE K mg "InvalidList" c_InvalidList "value" "value"
  g_InvalidList : mg "InvalidList" = some (.ref c_InvalidList)
  e_InvalidList : ErrC K c_InvalidList (.ref c_InvalidList :: .ref c_TurnError :: veL)
  x_InvalidList : XfC K c_InvalidList
  n_InvalidList : PySem.W.findIn K (.ref c_InvalidList) "value" = some none
  c_InvalidScript : Addr
  o_InvalidScript : OwnE K mg "InvalidScript" c_InvalidScript "value" "value"
  g_InvalidScript : mg "InvalidScript" = some (.ref c_InvalidScript)
  e_InvalidScript : ErrC K c_InvalidScript (.ref c_InvalidScript :: .ref c_TurnError :: veL)
  x_InvalidScript : XfC K c_InvalidScript
  n_InvalidScript : PySem.W.findIn K (.ref c_InvalidScript) "value" = some none
  c_InvalidMove : Addr
  o_InvalidMove : OwnE K mg "InvalidMove" c_InvalidMove "value" "value"
  g_InvalidMove : mg "InvalidMove" = some (.ref c_InvalidMove)
  e_InvalidMove : ErrC K c_InvalidMove (.ref c_InvalidMove :: .ref c_TurnError :: veL)
  x_InvalidMove : XfC K c_InvalidMove
  n_InvalidMove : PySem.W.findIn K (.ref c_InvalidMove) "value" = some none
  c_CannotTurn : Addr
  o_CannotTurn : OwnE K mg "CannotTurn" c_CannotTurn "place" "place"
  g_CannotTurn : mg "CannotTurn" = some (.ref c_CannotTurn)
  e_CannotTurn : ErrC K c_CannotTurn (.ref c_CannotTurn :: .ref c_TurnError :: veL)
  x_CannotTurn : XfC K c_CannotTurn
  n_CannotTurn : PySem.W.findIn K (.ref c_CannotTurn) "place" = some none
  c_CannotMove : Addr
  o_CannotMove : OwnE K mg "CannotMove" c_CannotMove "value" "value"
  g_CannotMove : mg "CannotMove" = some (.ref c_CannotMove)
  e_CannotMove : ErrC K c_CannotMove (.ref c_CannotMove :: .ref c_TurnError :: veL)
  x_CannotMove : XfC K c_CannotMove
  n_CannotMove : PySem.W.findIn K (.ref c_CannotMove) "value" = some none
  c_NotCarried : Addr
  o_NotCarried : OwnE K mg "NotCarried" c_NotCarried "address" "address"
  g_NotCarried : mg "NotCarried" = some (.ref c_NotCarried)
  e_NotCarried : ErrC K c_NotCarried (.ref c_NotCarried :: .ref c_TurnError :: veL)
  x_NotCarried : XfC K c_NotCarried
  n_NotCarried : PySem.W.findIn K (.ref c_NotCarried) "address" = some none
  c_InvalidName : Addr
  o_InvalidName : OwnE K mg "InvalidName" c_InvalidName "name" "name"
  g_InvalidName : mg "InvalidName" = some (.ref c_InvalidName)
  e_InvalidName : ErrC K c_InvalidName (.ref c_InvalidName :: .ref c_TurnError :: veL)
  x_InvalidName : XfC K c_InvalidName
  n_InvalidName : PySem.W.findIn K (.ref c_InvalidName) "name" = some none
  c_TakenName : Addr
  o_TakenName : OwnE K mg "TakenName" c_TakenName "name" "name"
  g_TakenName : mg "TakenName" = some (.ref c_TakenName)
  e_TakenName : ErrC K c_TakenName (.ref c_TakenName :: .ref c_TurnError :: veL)
  x_TakenName : XfC K c_TakenName
  n_TakenName : PySem.W.findIn K (.ref c_TakenName) "name" = some none
  c_UnknownName : Addr
  o_UnknownName : OwnE K mg "UnknownName" c_UnknownName "name" "name"
  g_UnknownName : mg "UnknownName" = some (.ref c_UnknownName)
  e_UnknownName : ErrC K c_UnknownName (.ref c_UnknownName :: .ref c_TurnError :: veL)
  x_UnknownName : XfC K c_UnknownName
  n_UnknownName : PySem.W.findIn K (.ref c_UnknownName) "name" = some none
  c_NothingToUndo : Addr
  g_NothingToUndo : mg "NothingToUndo" = some (.ref c_NothingToUndo)
  e_NothingToUndo : ErrC K c_NothingToUndo (.ref c_NothingToUndo :: .ref c_TurnError :: veL)
  q_NothingToUndo : PySem.W.excIn K c_NothingToUndo veL0 "ValueError.__new__" = true
  k_NothingToUndo : PySem.W.keepIn K (.ref c_NothingToUndo) = true
  nd : [c_InvalidTree, c_InvalidAddress, c_InvalidNumber, c_InvalidList, c_InvalidScript, c_InvalidMove, c_CannotTurn, c_CannotMove, c_NotCarried, c_InvalidName, c_TakenName, c_UnknownName, c_NothingToUndo, c_TurnError].Nodup
  a_law_cell : Addr
  fd_law_cell : FuncData
  F_law_cell : Fun K "_law_cell" "_law_cell" s_law_cell a_law_cell fd_law_cell
  b_law_cell : Binds K fd_law_cell ["_law_script", "_law_index"] []
  m_law_cell : mg "_law_cell" = some (.ref a_law_cell)
  a_law_hash : Addr
  fd_law_hash : FuncData
  F_law_hash : Fun K "_law_hash" "_law_hash" s_law_hash a_law_hash fd_law_hash
  b_law_hash : Binds K fd_law_hash ["_law_seed", "_law_index"] []
  m_law_hash : mg "_law_hash" = some (.ref a_law_hash)
  a_law_generator : Addr
  fd_law_generator : FuncData
  F_law_generator : Fun K "_law_generator" "_law_generator" s_law_generator a_law_generator fd_law_generator
  b_law_generator : Binds K fd_law_generator ["_law_script", "_law_index"] []
  m_law_generator : mg "_law_generator" = some (.ref a_law_generator)
  a_law_random : Addr
  fd_law_random : FuncData
  F_law_random : Fun K "_law_random" "_law_random" s_law_random a_law_random fd_law_random
  b_law_random : Binds K fd_law_random ["_law_generator_here", "_law_bound"] []
  m_law_random : mg "_law_random" = some (.ref a_law_random)
  a_law_kinds : Addr
  fd_law_kinds : FuncData
  F_law_kinds : Fun K "_law_kinds" "_law_kinds" s_law_kinds a_law_kinds fd_law_kinds
  b_law_kinds : Binds K fd_law_kinds ["_law_error"] []
  m_law_kinds : mg "_law_kinds" = some (.ref a_law_kinds)
  a_law_fields : Addr
  fd_law_fields : FuncData
  F_law_fields : Fun K "_law_fields" "_law_fields" s_law_fields a_law_fields fd_law_fields
  b_law_fields : Binds K fd_law_fields ["_law_errors"] []
  m_law_fields : mg "_law_fields" = some (.ref a_law_fields)
  a_law_right : Addr
  fd_law_right : FuncData
  F_law_right : Fun K "_law_right" "_law_right" s_law_right a_law_right fd_law_right
  b_law_right : Binds K fd_law_right ["_law_errors", "_law_wanted"] []
  m_law_right : mg "_law_right" = some (.ref a_law_right)
  a_law_placed : Addr
  fd_law_placed : FuncData
  F_law_placed : Fun K "_law_placed" "_law_placed" s_law_placed a_law_placed fd_law_placed
  b_law_placed : Binds K fd_law_placed ["_law_given"] []
  m_law_placed : mg "_law_placed" = some (.ref a_law_placed)
  a_law_given_right : Addr
  fd_law_given_right : FuncData
  F_law_given_right : Fun K "_law_given_right" "_law_given_right" s_law_given_right a_law_given_right fd_law_given_right
  b_law_given_right : Binds K fd_law_given_right ["_law_given"] []
  m_law_given_right : mg "_law_given_right" = some (.ref a_law_given_right)
  a_law : Addr
  fd_law : FuncData
  F_law : Fun K "law" "law" s_law a_law fd_law
  b_law : Binds K fd_law ["_law_script"] []
  m_law : mg "law" = some (.ref a_law)
  z_isinstance : mg "isinstance" = none
  z_len : mg "len" = none
  z_int : mg "int" = none
  z_max : mg "max" = none
  z_range : mg "range" = none
  z_repr : mg "repr" = none
  z_list : mg "list" = none
  z_ValueError : mg "ValueError" = none
/-- a generator: its third number is at most n -/
def Keep (g : Addr) (H H' : Hp) : Prop := ∀ b o, b ≠ g → H b = some o → H' b = some o
def GenAt (H : Hp) (g : Addr) (n : Nat) : Prop := ∃ a b c : Int, H g = some (.lst [.int a, .int b, .int c]) ∧ 0 ≤ c ∧ c ≤ (n : Int)
def sp_law_cell (K : PySem.W.Frag) : Sp := fun vs H Q _ => ∃ (a : Addr) (ns : List Int) (i : Nat), vs = [.ref a, .int i] ∧ SqL K H a (ns.map V.int) ∧ Q (.int (ns.getD i 0)) H
def sp_law_hash (K : PySem.W.Frag) : Sp := fun vs H Q _ => ∃ s i : Int, vs = [.int s, .int i] ∧ 0 ≤ i ∧ i ≤ 1000000000000000 ∧ ∀ r : Int, Q (.int r) H
def sp_law_generator (K : PySem.W.Frag) : Sp := fun vs H Q _ => ∃ (a : Addr) (ns : List Int) (i : Nat), vs = [.ref a, .int i] ∧ SqL K H a (ns.map V.int) ∧ ∀ g H', H g = none → Same H H' → GenAt H' g (1000 * i) → Q (.ref g) H'
def sp_law_random (K : PySem.W.Frag) : Sp := fun vs H Q _ => ∃ (g : Addr) (b : Int) (n : Nat), vs = [.ref g, .int b] ∧ GenAt H g n ∧ n ≤ 100000000000000 ∧ 1 ≤ b ∧ b < 1000000000000000 ∧
  ∀ (r : Int) H', 0 ≤ r → r < b → Keep g H H' → GenAt H' g (n + 3) → Q (.int r) H'
/-! ### errors -/
section
variable {K : PySem.W.Frag} {mg : Str → Option Value}
def Txt.cs (T : Txt K mg) : List Addr := [T.c_InvalidTree, T.c_InvalidAddress, T.c_InvalidNumber, T.c_InvalidList, T.c_InvalidScript, T.c_InvalidMove, T.c_CannotTurn, T.c_CannotMove, T.c_NotCarried, T.c_InvalidName, T.c_TakenName, T.c_UnknownName]
def flds : List Str := ["value", "value", "value", "value", "value", "value", "place", "value", "address", "name", "name", "name"]
/-- one error of each class, all with the field y -/
def Errs (T : Txt K mg) (H : Hp) (as : List Addr) (y : V) : Prop := as.length = 12 ∧ ∀ (j : Nat) (C : Addr) (f : Str) (a : Addr), T.cs[j]? = some C → flds[j]? = some f → as[j]? = some a → Err H a C [(f, y)]
/-- a value that can be shown -/
structure Good (H : Hp) (y : V) (d : PyData) : Prop where
  dv : DV H d.hasDict y d
  sh : d.showable = true
  dp : d.depth ≤ 20
  ln : d.shown.length ≤ 1000
def sp_law_kinds (T : Txt K mg) : Sp := fun vs H Q _ => ∃ (a : Addr) (i : Nat) (C : Addr), vs = [.ref a] ∧ (T.cs ++ [T.c_NothingToUndo])[i]? = some C ∧ ((∃ fs, Err H a C fs) ∨ Err0 H a C) ∧ ∀ p H', H p = none → Same H H' → H' p = some (.lst [.int (i : Nat)]) → Q (.ref p) H'
def sp_law_fields (T : Txt K mg) : Sp := fun vs H Q _ => ∃ (l : Addr) (as : List Addr) (y : V), vs = [.ref l] ∧ H l = some (.lst (as.map V.ref)) ∧ Errs T H as y ∧ ∀ p H', p ≠ sysModules → Same H H' → H' p = some (.lst (List.replicate 12 y)) → Q (.ref p) H'
def sp_law_right (T : Txt K mg) : Sp := fun vs H Q _ => ∃ (l : Addr) (as : List Addr) (y : V) (d : PyData), vs = [.ref l, y] ∧ H l = some (.lst (as.map V.ref)) ∧ Errs T H as y ∧ Good H y d ∧ ∀ H', Same H H' → Q (.bl true) H'
def sp_law_placed (T : Txt K mg) : Sp := fun vs H Q _ => ∃ (y : V), vs = [y] ∧ ∀ p as H', H p = none → Same H H' → H' p = some (.lst (as.map V.ref)) → Errs T H' as y → Q (.ref p) H'
def sp_law_given_right (T : Txt K mg) : Sp := fun vs H Q _ => ∃ (y : V), vs = [y] ∧
  ((∃ d t, Good H y d ∧ TyX K H y t ∧ PySem.W.kitOne K t (.type "list") = some false ∧ ∀ H', Same H H' → Q (.bl true) H') ∨ (∃ a, y = .ref a ∧ H a = some (.lst [.int 1]) ∧ ∀ H', Keep a H H' → Q (.bl true) H'))
def sp_law (K : PySem.W.Frag) : Sp := fun vs H Q _ => ∃ (a : Addr) (ns : List Int), vs = [.ref a] ∧ SqL K H a (ns.map V.int) ∧ ns.length ≤ 63 ∧ ∀ H', Q (.bl true) H'
end

section
variable {P : Program} {w : World} {K : PySem.W.Frag} {mg : Str → Option Value} {base : Heap}
theorem ok_law_cell (T : Txt K mg) : FnOk P w K mg base CX0 1 T.a_law_cell T.fd_law_cell ["_law_script", "_law_index"] (sp_law_cell K) := by
  refine T.F_law_cell.ok sc_law_cell (fun vs H Q E h => ?_) (fun cdv A outer s H vs Q E hr h => ?_)
  · obtain ⟨a, ns, i, rfl, _⟩ := h; rfl
  obtain ⟨a, ns, i, rfl, ha, q⟩ := h
  refine ⟨_, (pss_cons (ps_if (pt_cmpR op_lt (pv 1) (pe_callB call_len_seq (by rfl) T.z_len PySem.boot_len (pa_cons (pv 0) pa_nil)) (nomark _)) (pss_one (ps_ret (pe_ix ix_list (pv 0) (pv 1) (fun _ _ => rfl)))) pss_nil)
    (pss_one (ps_ret pe_int))), ?_⟩
  simp only [cxOf_K, tAsg2, tYes, wipe, tSeq, tIfS, tNot, tB, tCB, tCons, tNil, tVar, tC, tTest, tOp, tAnd, tOr, tAsg, gName, tRet, tRetN, tDrop, tNext, tIf, tCall, tTup, tLst, tNotV, tAndV, tOrV, tUn, rI0, rI, rU, rEq, rNe, tM1, tM0, tBM, tBM0, tSl, tPart, tNoPart, iStr, iEnumS, iRng1, iRng2, iList, gSub, tBits, tAug, tPar, L2.start, List.map_cons, List.map_nil, List.length_cons, List.length_nil, List.getElem?_cons_zero, List.getElem?_cons_succ, List.cons_append, List.nil_append, List.append_nil, List.set_cons_zero, List.set_cons_succ, List.replicate_succ, List.replicate_zero, Option.some.injEq, exists_eq_left', V.int.injEq, V.str.injEq, V.ref.injEq, V.bl.injEq, exists_and_left, exists_eq_left, List.cons.injEq, and_true, true_and]
  refine ⟨_, .inl ha, ?_⟩
  rw [List.length_map]
  by_cases h : (i : Int) < (ns.length : Int)
  · refine ifdT h ?_
    have hi : i < ns.length := by omega
    refine ⟨a, _, (i : Int), _, rfl, rfl, ha, atI_nat (by rw [List.getElem?_map, List.getElem?_eq_getElem hi]; rfl), ?_⟩
    rw [List.getD_eq_getElem?_getD, List.getElem?_eq_getElem hi] at q
    exact q
  · refine ifdF h ?_
    rw [List.getD_eq_getElem?_getD, List.getElem?_eq_none (by omega)] at q
    exact q
theorem ok_law_hash (T : Txt K mg) : FnOk P w K mg base CX0 1 T.a_law_hash T.fd_law_hash ["_law_seed", "_law_index"] (sp_law_hash K) := by
  refine T.F_law_hash.ok sc_law_hash (fun vs H Q E h => ?_) (fun cdv A outer s H vs Q E hr h => ?_)
  · obtain ⟨a, i, rfl, _⟩ := h; rfl
  obtain ⟨a, i, rfl, h0, h1, q⟩ := h
  refine ⟨_, (pss_cons (ps_set (i := 2) sc_law_hash.nd rfl (by first | exact Or.inl rfl | exact Or.inr rfl) (pe_op op_mod (pe_callTy call_intI (by rfl) T.z_int (by decide +kernel) (pa_cons (pe_op op_add (pe_op op_add (pe_op op_add (pe_op op_mul (pv 0) pe_int) (pe_op op_mul (pe_op op_mul pe_int (pv 1)) (pv 1))) (pv 1)) pe_int) pa_nil)) pe_int))
    (pss_cons (ps_set (i := 2) sc_law_hash.nd rfl (by first | exact Or.inl rfl | exact Or.inr rfl) (pe_op op_mod (pe_callTy call_intI (by rfl) T.z_int (by decide +kernel) (pa_cons (pe_op op_add (pe_op op_mul (pv 2) (pv 2)) pe_int) pa_nil)) pe_int))
    (pss_one (ps_ret (pe_op op_mod (pe_callTy call_intI (by rfl) T.z_int (by decide +kernel) (pa_cons (pe_op op_mul (pv 2) pe_int) pa_nil)) pe_int))))), ?_⟩
  simp only [cxOf_K, tAsg2, tYes, wipe, tSeq, tIfS, tNot, tB, tCB, tCons, tNil, tVar, tC, tTest, tOp, tAnd, tOr, tAsg, gName, tRet, tRetN, tDrop, tNext, tIf, tCall, tTup, tLst, tNotV, tAndV, tOrV, tUn, rI0, rI, rU, rEq, rNe, tM1, tM0, tBM, tBM0, tSl, tPart, tNoPart, iStr, iEnumS, iRng1, iRng2, iList, gSub, tBits, tAug, tPar, L2.start, List.map_cons, List.map_nil, List.length_cons, List.length_nil, List.getElem?_cons_zero, List.getElem?_cons_succ, List.cons_append, List.nil_append, List.append_nil, List.set_cons_zero, List.set_cons_succ, List.replicate_succ, List.replicate_zero, Option.some.injEq, exists_eq_left', V.int.injEq, V.str.injEq, V.ref.injEq, V.bl.injEq, exists_and_left, exists_eq_left, List.cons.injEq, and_true, true_and]
  refine ⟨cmulR (by decide), cmulL (by decide), cmulR (by omega), by decide, cmulR (cmod _ (by decide) (by decide)), by decide, cmulR (by decide), by decide, q _⟩
theorem ok_law_generator (T : Txt K mg) : FnOk P w K mg base CX0 2 T.a_law_generator T.fd_law_generator ["_law_script", "_law_index"] (sp_law_generator K) := by
  refine T.F_law_generator.ok sc_law_generator (fun vs H Q E h => ?_) (fun cdv A outer s H vs Q E hr h => ?_)
  · obtain ⟨a, ns, i, rfl, _⟩ := h; rfl
  obtain ⟨a, ns, i, rfl, ha, q⟩ := h
  refine ⟨_, (pss_cons (ps_set (i := 2) sc_law_generator.nd rfl (by first | exact Or.inl rfl | exact Or.inr rfl) (pe_call (ok_law_cell T) (hr.mono (by first | decide | omega)) (by rfl) T.m_law_cell T.F_law_cell.kp T.b_law_cell .nil pass0 (pa_cons (pv 0) (pa_cons (pv 1) pa_nil))))
    (pss_one (ps_ret (pe_lst (pa_cons (pe_op op_mod (pe_callTy call_intI (by rfl) T.z_int (by decide +kernel) (pa_cons (pe_callB (call_max2 rfl) (by rfl) T.z_max (by decide +kernel) (pa_cons (pe_op op_sub (pv 2) (pe_op op_powB pe_int pe_int)) (pa_cons pe_int pa_nil))) pa_nil)) (pe_op op_powB (pe_op op_powB pe_int pe_int) pe_int)) (pa_cons (pe_op op_mod (pe_callTy call_intI (by rfl) T.z_int (by decide +kernel) (pa_cons (pv 2) pa_nil)) pe_int) (pa_cons (pe_op op_mul pe_int (pv 1)) pa_nil))))))), ?_⟩
  simp only [cxOf_K, tAsg2, tYes, wipe, tSeq, tIfS, tNot, tB, tCB, tCons, tNil, tVar, tC, tTest, tOp, tAnd, tOr, tAsg, gName, tRet, tRetN, tDrop, tNext, tIf, tCall, tTup, tLst, tNotV, tAndV, tOrV, tUn, rI0, rI, rU, rEq, rNe, tM1, tM0, tBM, tBM0, tSl, tPart, tNoPart, iStr, iEnumS, iRng1, iRng2, iList, gSub, tBits, tAug, tPar, L2.start, List.map_cons, List.map_nil, List.length_cons, List.length_nil, List.getElem?_cons_zero, List.getElem?_cons_succ, List.cons_append, List.nil_append, List.append_nil, List.set_cons_zero, List.set_cons_succ, List.replicate_succ, List.replicate_zero, Option.some.injEq, exists_eq_left', V.int.injEq, V.str.injEq, V.ref.injEq, V.bl.injEq, exists_and_left, exists_eq_left, List.cons.injEq, and_true, true_and]
  refine ⟨a, ns, i, rfl, ha, ?_⟩
  simp only [cxOf_K, tAsg2, tYes, wipe, tSeq, tIfS, tNot, tB, tCB, tCons, tNil, tVar, tC, tTest, tOp, tAnd, tOr, tAsg, gName, tRet, tRetN, tDrop, tNext, tIf, tCall, tTup, tLst, tNotV, tAndV, tOrV, tUn, rI0, rI, rU, rEq, rNe, tM1, tM0, tBM, tBM0, tSl, tPart, tNoPart, iStr, iEnumS, iRng1, iRng2, iList, gSub, tBits, tAug, tPar, L2.start, List.map_cons, List.map_nil, List.length_cons, List.length_nil, List.getElem?_cons_zero, List.getElem?_cons_succ, List.cons_append, List.nil_append, List.append_nil, List.set_cons_zero, List.set_cons_succ, List.replicate_succ, List.replicate_zero, Option.some.injEq, exists_eq_left', V.int.injEq, V.str.injEq, V.ref.injEq, V.bl.injEq, exists_and_left, exists_eq_left, List.cons.injEq, and_true, true_and]
  refine ⟨⟨by decide, by decide +kernel⟩, _, _, ⟨rfl, rfl⟩, ⟨by decide, by decide +kernel⟩, ⟨by decide, by decide +kernel⟩, by decide +kernel, by decide, cmulL (by decide), by decide, fun g hg => ?_⟩
  exact q g _ hg ((L2.Same.refl H).new hg _) ⟨_, _, _, upd_same, by omega, by omega⟩
theorem ok_law_random (T : Txt K mg) : FnOk P w K mg base CX0 2 T.a_law_random T.fd_law_random ["_law_generator_here", "_law_bound"] (sp_law_random K) := by
  refine T.F_law_random.ok sc_law_random (fun vs H Q E h => ?_) (fun cdv A outer s H vs Q E hr h => ?_)
  · obtain ⟨g, b, n, rfl, _⟩ := h; rfl
  obtain ⟨g, b, n, rfl, ⟨x, y, z, hg, z0, z1⟩, hn, b0, b1, q⟩ := h
  refine ⟨_, (pss_cons (ps_if (pt_cmpR op_gt (pe_ix ix_list (pv 0) pe_int (fun _ _ => rfl)) pe_int (nomark _)) (pss_cons (ps_set (i := 2) sc_law_random.nd rfl (by first | exact Or.inl rfl | exact Or.inr rfl) (pe_op op_mod (pe_callTy call_intI (by rfl) T.z_int (by decide +kernel) (pa_cons (pe_ix ix_list (pv 0) pe_int (fun _ _ => rfl)) pa_nil)) (pv 1)))
    (pss_cons (ps_asg (pe_op op_fdivW (pe_ix ix_list (pv 0) pe_int (fun _ _ => rfl)) (pv 1)) (pg_sub (pv 0) pe_int set_list))
    (pss_one (ps_ret (pv 2))))) pss_nil)
    (pss_cons (ps_set (i := 2) sc_law_random.nd rfl (by first | exact Or.inl rfl | exact Or.inr rfl) pe_int)
    (pss_cons (ps_for PassesOwn.never rfl (pi_range1 rfl T.z_range (pa_cons (pe_op op_add pe_int (pe_op op_fdivW (pe_bits (pv 1)) pe_int)) pa_nil)) (pg_name (i := 3) sc_law_random.nd rfl (by first | exact Or.inl rfl | exact Or.inr rfl)) (pss_cons (ps_asg (pe_op op_add (pe_ix ix_list (pv 0) pe_int (fun _ _ => rfl)) pe_int) (pg_sub (pv 0) pe_int set_list))
    (pss_one (ps_set (i := 2) sc_law_random.nd rfl (by first | exact Or.inl rfl | exact Or.inr rfl) (pe_op op_add (pe_op op_mul (pv 2) pe_int) (pe_call (ok_law_hash T) (hr.mono (by first | decide | omega)) (by rfl) T.m_law_hash T.F_law_hash.kp T.b_law_hash .nil pass0 (pa_cons (pe_ix ix_list (pv 0) pe_int (fun _ _ => rfl)) (pa_cons (pe_ix ix_list (pv 0) pe_int (fun _ _ => rfl)) pa_nil))))))))
    (pss_one (ps_ret (pe_op op_mod (pe_callTy call_intI (by rfl) T.z_int (by decide +kernel) (pa_cons (pv 2) pa_nil)) (pv 1))))))), ?_⟩
  simp only [cxOf_K, tAsg2, tYes, wipe, tSeq, tIfS, tNot, tB, tCB, tCons, tNil, tVar, tC, tTest, tOp, tAnd, tOr, tAsg, gName, tRet, tRetN, tDrop, tNext, tIf, tCall, tTup, tLst, tNotV, tAndV, tOrV, tUn, rI0, rI, rU, rEq, rNe, tM1, tM0, tBM, tBM0, tSl, tPart, tNoPart, iStr, iEnumS, iRng1, iRng2, iList, gSub, tBits, tAug, tPar, L2.start, List.map_cons, List.map_nil, List.length_cons, List.length_nil, List.getElem?_cons_zero, List.getElem?_cons_succ, List.cons_append, List.nil_append, List.append_nil, List.set_cons_zero, List.set_cons_succ, List.replicate_succ, List.replicate_zero, Option.some.injEq, exists_eq_left', V.int.injEq, V.str.injEq, V.ref.injEq, V.bl.injEq, exists_and_left, exists_eq_left, List.cons.injEq, and_true, true_and]
  refine ⟨g, _, 0, .int x, rfl, rfl, SqL.of hg, rfl, ?_⟩
  simp only [cxOf_K, tAsg2, tYes, wipe, tSeq, tIfS, tNot, tB, tCB, tCons, tNil, tVar, tC, tTest, tOp, tAnd, tOr, tAsg, gName, tRet, tRetN, tDrop, tNext, tIf, tCall, tTup, tLst, tNotV, tAndV, tOrV, tUn, rI0, rI, rU, rEq, rNe, tM1, tM0, tBM, tBM0, tSl, tPart, tNoPart, iStr, iEnumS, iRng1, iRng2, iList, gSub, tBits, tAug, tPar, L2.start, List.map_cons, List.map_nil, List.length_cons, List.length_nil, List.getElem?_cons_zero, List.getElem?_cons_succ, List.cons_append, List.nil_append, List.append_nil, List.set_cons_zero, List.set_cons_succ, List.replicate_succ, List.replicate_zero, Option.some.injEq, exists_eq_left', V.int.injEq, V.str.injEq, V.ref.injEq, V.bl.injEq, exists_and_left, exists_eq_left, List.cons.injEq, and_true, true_and]
  by_cases hx : 0 < x
  · refine ifdT hx ⟨g, _, 0, .int x, rfl, rfl, SqL.of hg, rfl, ?_⟩
    simp only [cxOf_K, tAsg2, tYes, wipe, tSeq, tIfS, tNot, tB, tCB, tCons, tNil, tVar, tC, tTest, tOp, tAnd, tOr, tAsg, gName, tRet, tRetN, tDrop, tNext, tIf, tCall, tTup, tLst, tNotV, tAndV, tOrV, tUn, rI0, rI, rU, rEq, rNe, tM1, tM0, tBM, tBM0, tSl, tPart, tNoPart, iStr, iEnumS, iRng1, iRng2, iList, gSub, tBits, tAug, tPar, L2.start, List.map_cons, List.map_nil, List.length_cons, List.length_nil, List.getElem?_cons_zero, List.getElem?_cons_succ, List.cons_append, List.nil_append, List.append_nil, List.set_cons_zero, List.set_cons_succ, List.replicate_succ, List.replicate_zero, Option.some.injEq, exists_eq_left', V.int.injEq, V.str.injEq, V.ref.injEq, V.bl.injEq, exists_and_left, exists_eq_left, List.cons.injEq, and_true, true_and]
    refine ⟨by omega, g, _, 0, .int x, rfl, rfl, SqL.of hg, rfl, ?_⟩
    simp only [cxOf_K, tAsg2, tYes, wipe, tSeq, tIfS, tNot, tB, tCB, tCons, tNil, tVar, tC, tTest, tOp, tAnd, tOr, tAsg, gName, tRet, tRetN, tDrop, tNext, tIf, tCall, tTup, tLst, tNotV, tAndV, tOrV, tUn, rI0, rI, rU, rEq, rNe, tM1, tM0, tBM, tBM0, tSl, tPart, tNoPart, iStr, iEnumS, iRng1, iRng2, iList, gSub, tBits, tAug, tPar, L2.start, List.map_cons, List.map_nil, List.length_cons, List.length_nil, List.getElem?_cons_zero, List.getElem?_cons_succ, List.cons_append, List.nil_append, List.append_nil, List.set_cons_zero, List.set_cons_succ, List.replicate_succ, List.replicate_zero, Option.some.injEq, exists_eq_left', V.int.injEq, V.str.injEq, V.ref.injEq, V.bl.injEq, exists_and_left, exists_eq_left, List.cons.injEq, and_true, true_and]
    refine ⟨cdivW b0 b1, g, _, 0, 0, rfl, rfl, hg, rfl, ?_⟩
    exact q _ _ (Int.emod_nonneg _ (by omega)) (Int.emod_lt_of_pos _ (by omega)) (fun p o hp ho => by rw [upd_ne hp]; exact ho) ⟨_, _, _, upd_same, z0, by omega⟩
  · refine ifdF hx ?_
    have hb : (Builtin.Int.intBits b : Int) ≤ 50 := by
      have : Builtin.Int.intBits b ≤ 50 := PyProof.Rows.intBits_le (by omega)
      omega
    have hj0 : (0 : Int) ≤ 1 + (Builtin.Int.intBits b : Int) / 30 := by omega
    have hj1 : (1 : Int) + (Builtin.Int.intBits b : Int) / 30 ≤ 2 := by omega
    refine ⟨_, rfl, _, rfl, _, _, rfl, rfl, cdivW (by decide) (by decide), _, _, rfl, rfl, _, rfl, by omega, by omega, for_range (fun i σ H' => ∃ (d : Int) (a3 : Option V) (z' : Int), σ = [some (.ref g), some (.int b), some (.int d), a3] ∧ Keep g H H' ∧ H' g = some (.lst [.int x, .int y, .int z']) ∧ z' = z + i)
      ⟨0, none, z, rfl, fun p o _ ho => ho, hg, by simp⟩ ?_ ?_⟩
    · rintro i σ H' hi ⟨d, a3, z', rfl, k0, hg', rfl⟩
      simp only [cxOf_K, tAsg2, tYes, wipe, tSeq, tIfS, tNot, tB, tCB, tCons, tNil, tVar, tC, tTest, tOp, tAnd, tOr, tAsg, gName, tRet, tRetN, tDrop, tNext, tIf, tCall, tTup, tLst, tNotV, tAndV, tOrV, tUn, rI0, rI, rU, rEq, rNe, tM1, tM0, tBM, tBM0, tSl, tPart, tNoPart, iStr, iEnumS, iRng1, iRng2, iList, gSub, tBits, tAug, tPar, L2.start, List.map_cons, List.map_nil, List.length_cons, List.length_nil, List.getElem?_cons_zero, List.getElem?_cons_succ, List.cons_append, List.nil_append, List.append_nil, List.set_cons_zero, List.set_cons_succ, List.replicate_succ, List.replicate_zero, Option.some.injEq, exists_eq_left', V.int.injEq, V.str.injEq, V.ref.injEq, V.bl.injEq, exists_and_left, exists_eq_left, List.cons.injEq, and_true, true_and]
      refine ⟨g, _, 2, .int (z + i), rfl, rfl, SqL.of hg', rfl, ?_⟩
      simp only [cxOf_K, tAsg2, tYes, wipe, tSeq, tIfS, tNot, tB, tCB, tCons, tNil, tVar, tC, tTest, tOp, tAnd, tOr, tAsg, gName, tRet, tRetN, tDrop, tNext, tIf, tCall, tTup, tLst, tNotV, tAndV, tOrV, tUn, rI0, rI, rU, rEq, rNe, tM1, tM0, tBM, tBM0, tSl, tPart, tNoPart, iStr, iEnumS, iRng1, iRng2, iList, gSub, tBits, tAug, tPar, L2.start, List.map_cons, List.map_nil, List.length_cons, List.length_nil, List.getElem?_cons_zero, List.getElem?_cons_succ, List.cons_append, List.nil_append, List.append_nil, List.set_cons_zero, List.set_cons_succ, List.replicate_succ, List.replicate_zero, Option.some.injEq, exists_eq_left', V.int.injEq, V.str.injEq, V.ref.injEq, V.bl.injEq, exists_and_left, exists_eq_left, List.cons.injEq, and_true, true_and]
      refine ⟨g, _, 2, 2, rfl, rfl, hg', rfl, ?_⟩
      refine ⟨cmulR (by decide), g, _, 1, .int y, rfl, rfl, SqL.of upd_same, rfl, ?_⟩
      refine ⟨g, _, 2, .int (z + i + 1), rfl, rfl, SqL.of upd_same, rfl, ?_⟩
      refine ⟨y, z + i + 1, rfl, by omega, by omega, fun r => ?_⟩
      simp only [cxOf_K, tAsg2, tYes, wipe, tSeq, tIfS, tNot, tB, tCB, tCons, tNil, tVar, tC, tTest, tOp, tAnd, tOr, tAsg, gName, tRet, tRetN, tDrop, tNext, tIf, tCall, tTup, tLst, tNotV, tAndV, tOrV, tUn, rI0, rI, rU, rEq, rNe, tM1, tM0, tBM, tBM0, tSl, tPart, tNoPart, iStr, iEnumS, iRng1, iRng2, iList, gSub, tBits, tAug, tPar, L2.start, List.map_cons, List.map_nil, List.length_cons, List.length_nil, List.getElem?_cons_zero, List.getElem?_cons_succ, List.cons_append, List.nil_append, List.append_nil, List.set_cons_zero, List.set_cons_succ, List.replicate_succ, List.replicate_zero, Option.some.injEq, exists_eq_left', V.int.injEq, V.str.injEq, V.ref.injEq, V.bl.injEq, exists_and_left, exists_eq_left, List.cons.injEq, and_true, true_and]
      exact ⟨_, _, ⟨rfl, rfl⟩, fun p o hp ho => by rw [upd_ne hp]; exact k0 p o hp ho, z + i + 1, by rw [upd_same], by omega⟩
    · rintro σ H' ⟨d, a3, z', rfl, k0, hg', rfl⟩
      simp only [cxOf_K, tAsg2, tYes, wipe, tSeq, tIfS, tNot, tB, tCB, tCons, tNil, tVar, tC, tTest, tOp, tAnd, tOr, tAsg, gName, tRet, tRetN, tDrop, tNext, tIf, tCall, tTup, tLst, tNotV, tAndV, tOrV, tUn, rI0, rI, rU, rEq, rNe, tM1, tM0, tBM, tBM0, tSl, tPart, tNoPart, iStr, iEnumS, iRng1, iRng2, iList, gSub, tBits, tAug, tPar, L2.start, List.map_cons, List.map_nil, List.length_cons, List.length_nil, List.getElem?_cons_zero, List.getElem?_cons_succ, List.cons_append, List.nil_append, List.append_nil, List.set_cons_zero, List.set_cons_succ, List.replicate_succ, List.replicate_zero, Option.some.injEq, exists_eq_left', V.int.injEq, V.str.injEq, V.ref.injEq, V.bl.injEq, exists_and_left, exists_eq_left, List.cons.injEq, and_true, true_and]
      exact ⟨by omega, q _ _ (Int.emod_nonneg _ (by omega)) (Int.emod_lt_of_pos _ (by omega)) k0 ⟨_, _, _, hg', by omega, by omega⟩⟩

theorem Txt.nd13 (T : Txt K mg) : (T.cs ++ [T.c_NothingToUndo]).Nodup ∧ T.c_TurnError ∉ T.cs ++ [T.c_NothingToUndo] := by
  have h : (T.cs ++ [T.c_NothingToUndo] ++ [T.c_TurnError]).Nodup := T.nd
  rw [List.nodup_append] at h
  exact ⟨h.1, fun z => h.2.2 _ z _ (by simp) rfl⟩
theorem Txt.ec (T : Txt K mg) : ∀ (i : Nat) (C : Addr), (T.cs ++ [T.c_NothingToUndo])[i]? = some C → ErrC K C (.ref C :: .ref T.c_TurnError :: veL)
  | 0, _, h => by cases h; exact T.e_InvalidTree
  | 1, _, h => by cases h; exact T.e_InvalidAddress
  | 2, _, h => by cases h; exact T.e_InvalidNumber
  | 3, _, h => by cases h; exact T.e_InvalidList
  | 4, _, h => by cases h; exact T.e_InvalidScript
  | 5, _, h => by cases h; exact T.e_InvalidMove
  | 6, _, h => by cases h; exact T.e_CannotTurn
  | 7, _, h => by cases h; exact T.e_CannotMove
  | 8, _, h => by cases h; exact T.e_NotCarried
  | 9, _, h => by cases h; exact T.e_InvalidName
  | 10, _, h => by cases h; exact T.e_TakenName
  | 11, _, h => by cases h; exact T.e_UnknownName
  | 12, _, h => by cases h; exact T.e_NothingToUndo
  | n + 13, _, h => by cases h
theorem is13 (T : Txt K mg) {a C D : Addr} {H : Hp} {Q : VK} {i : Nat} (hC : (T.cs ++ [T.c_NothingToUndo])[i]? = some C) (he : (∃ fs, Err H a C fs) ∨ Err0 H a C) (j : Nat) (hD : (T.cs ++ [T.c_NothingToUndo])[j]? = some D)
    (q : Q (.bl (decide (i = j))) H) : rIsX K [.ref a, .ref D] H Q := by
  obtain ⟨nd, nt⟩ := T.nd13
  have k := kit_own (T.ec i C hC) (T.ec j D hD)
  have e1 : (Value.ref T.c_TurnError :: veL).contains (.ref D) = false := by
    have : D ≠ T.c_TurnError := fun z => nt (z ▸ List.mem_of_getElem? hD)
    rw [List.contains_cons, show ((Value.ref D) == (Value.ref T.c_TurnError)) = false from beq_eq_false_iff_ne.mpr fun z => this (Value.ref.inj z)]
    rfl
  rw [e1, Bool.or_false] at k
  have e2 : decide (C = D) = decide (i = j) := by
    by_cases h : i = j
    · subst h
      rw [hC] at hD
      cases hD
      simp
    · have : C ≠ D := fun z => by
        subst z
        obtain ⟨hi, ei⟩ := List.getElem?_eq_some_iff.mp hC
        obtain ⟨hj, ej⟩ := List.getElem?_eq_some_iff.mp hD
        exact h ((List.getElem_inj nd).mp (ei.trans ej.symm))
      simp [h, this]
  rw [e2] at k
  rcases he with ⟨fs, he⟩ | he
  · exact ⟨a, C, fs, _, _, _, rfl, (T.ec i C hC).ec, .inl he, .own D, k, q⟩
  · exact ⟨a, C, [], _, _, _, rfl, (T.ec i C hC).ec, .inr he, .own D, k, q⟩
theorem isTE (T : Txt K mg) {a C : Addr} {H : Hp} {Q : VK} {i : Nat} (hC : (T.cs ++ [T.c_NothingToUndo])[i]? = some C) (he : (∃ fs, Err H a C fs) ∨ Err0 H a C) (q : Q (.bl true) H) : rIsX K [.ref a, .ref T.c_TurnError] H Q := by
  have k := kit_own (T.ec i C hC) T.e_TurnError
  rw [List.contains_cons, show ((Value.ref T.c_TurnError) == (Value.ref T.c_TurnError)) = true from beq_self_eq_true _, Bool.true_or, Bool.or_true] at k
  rcases he with ⟨fs, he⟩ | he
  · exact ⟨a, C, fs, _, _, _, rfl, (T.ec i C hC).ec, .inl he, .own _, k, q⟩
  · exact ⟨a, C, [], _, _, _, rfl, (T.ec i C hC).ec, .inr he, .own _, k, q⟩
theorem isVE (T : Txt K mg) {a C : Addr} {H : Hp} {Q : VK} {i : Nat} (hC : (T.cs ++ [T.c_NothingToUndo])[i]? = some C) (he : (∃ fs, Err H a C fs) ∨ Err0 H a C) (q : Q (.bl true) H) : rIsX K [.ref a, .ty "ValueError"] H Q := by
  have k := kit_ve (T.ec i C hC) rfl
  have e1 : (Value.ref C :: Value.ref T.c_TurnError :: veL).contains (.type "ValueError") = true := by
    rw [List.contains_cons, List.contains_cons]
    rfl
  rw [e1] at k
  rcases he with ⟨fs, he⟩ | he
  · exact ⟨a, C, fs, _, _, _, rfl, (T.ec i C hC).ec, .inl he, .ty _, k, q⟩
  · exact ⟨a, C, [], _, _, _, rfl, (T.ec i C hC).ec, .inr he, .ty _, k, q⟩
theorem he_same {a C : Addr} {H H' : Hp} (he : (∃ fs, Err H a C fs) ∨ Err0 H a C) (h : Same H H') : (∃ fs, Err H' a C fs) ∨ Err0 H' a C := by
  rcases he with ⟨fs, he⟩ | he
  · exact .inl ⟨fs, he.same h⟩
  · exact .inr (h _ _ he)
theorem ok_law_kinds (T : Txt K mg) : FnOk P w K mg base CX0 1 T.a_law_kinds T.fd_law_kinds ["_law_error"] (sp_law_kinds T) := by
  refine T.F_law_kinds.ok sc_law_kinds (fun vs H Q E h => ?_) (fun cdv A outer s H vs Q E hr h => ?_)
  · obtain ⟨a, i, C, rfl, _⟩ := h; rfl
  obtain ⟨a, i, C, rfl, hC, he, q⟩ := h
  have hi : i < 13 := (List.getElem?_eq_some_iff.mp hC).1
  refine ⟨_, (pss_cons (ps_set (i := 1) sc_law_kinds.nd rfl (by first | exact Or.inl rfl | exact Or.inr rfl) (pe_lst (pa_cons (pe_callB call_isX (by rfl) T.z_isinstance (by decide +kernel) (pa_cons (pv 0) (pa_cons (pe_glob (v := .ref T.c_InvalidTree) (by rfl) T.g_InvalidTree rfl) pa_nil))) (pa_cons (pe_callB call_isX (by rfl) T.z_isinstance (by decide +kernel) (pa_cons (pv 0) (pa_cons (pe_glob (v := .ref T.c_InvalidAddress) (by rfl) T.g_InvalidAddress rfl) pa_nil))) (pa_cons (pe_callB call_isX (by rfl) T.z_isinstance (by decide +kernel) (pa_cons (pv 0) (pa_cons (pe_glob (v := .ref T.c_InvalidNumber) (by rfl) T.g_InvalidNumber rfl) pa_nil))) pa_nil)))))
    (pss_cons (ps_set (i := 1) sc_law_kinds.nd rfl (by first | exact Or.inl rfl | exact Or.inr rfl) (pe_op op_cat (pv 1) (pe_lst (pa_cons (pe_callB call_isX (by rfl) T.z_isinstance (by decide +kernel) (pa_cons (pv 0) (pa_cons (pe_glob (v := .ref T.c_InvalidList) (by rfl) T.g_InvalidList rfl) pa_nil))) (pa_cons (pe_callB call_isX (by rfl) T.z_isinstance (by decide +kernel) (pa_cons (pv 0) (pa_cons (pe_glob (v := .ref T.c_InvalidScript) (by rfl) T.g_InvalidScript rfl) pa_nil))) (pa_cons (pe_callB call_isX (by rfl) T.z_isinstance (by decide +kernel) (pa_cons (pv 0) (pa_cons (pe_glob (v := .ref T.c_InvalidMove) (by rfl) T.g_InvalidMove rfl) pa_nil))) pa_nil))))))
    (pss_cons (ps_set (i := 1) sc_law_kinds.nd rfl (by first | exact Or.inl rfl | exact Or.inr rfl) (pe_op op_cat (pv 1) (pe_lst (pa_cons (pe_callB call_isX (by rfl) T.z_isinstance (by decide +kernel) (pa_cons (pv 0) (pa_cons (pe_glob (v := .ref T.c_CannotTurn) (by rfl) T.g_CannotTurn rfl) pa_nil))) (pa_cons (pe_callB call_isX (by rfl) T.z_isinstance (by decide +kernel) (pa_cons (pv 0) (pa_cons (pe_glob (v := .ref T.c_CannotMove) (by rfl) T.g_CannotMove rfl) pa_nil))) (pa_cons (pe_callB call_isX (by rfl) T.z_isinstance (by decide +kernel) (pa_cons (pv 0) (pa_cons (pe_glob (v := .ref T.c_NotCarried) (by rfl) T.g_NotCarried rfl) pa_nil))) pa_nil))))))
    (pss_cons (ps_set (i := 1) sc_law_kinds.nd rfl (by first | exact Or.inl rfl | exact Or.inr rfl) (pe_op op_cat (pv 1) (pe_lst (pa_cons (pe_callB call_isX (by rfl) T.z_isinstance (by decide +kernel) (pa_cons (pv 0) (pa_cons (pe_glob (v := .ref T.c_InvalidName) (by rfl) T.g_InvalidName rfl) pa_nil))) (pa_cons (pe_callB call_isX (by rfl) T.z_isinstance (by decide +kernel) (pa_cons (pv 0) (pa_cons (pe_glob (v := .ref T.c_TakenName) (by rfl) T.g_TakenName rfl) pa_nil))) (pa_cons (pe_callB call_isX (by rfl) T.z_isinstance (by decide +kernel) (pa_cons (pv 0) (pa_cons (pe_glob (v := .ref T.c_UnknownName) (by rfl) T.g_UnknownName rfl) pa_nil))) pa_nil))))))
    (pss_cons (ps_expr (pe_bm PySem.F.plainAttrs_list PySem.F.slot_list_append PySem.F.type_list_append mt_append (pv 1) (pa_cons (pe_callB call_isX (by rfl) T.z_isinstance (by decide +kernel) (pa_cons (pv 0) (pa_cons (pe_glob (v := .ref T.c_NothingToUndo) (by rfl) T.g_NothingToUndo rfl) pa_nil))) pa_nil)))
    (pss_cons (ps_if (pw_or (pt_not (pt_val (pe_callB call_isX (by rfl) T.z_isinstance (by decide +kernel) (pa_cons (pv 0) (pa_cons (pe_glob (v := .ref T.c_TurnError) (by rfl) T.g_TurnError rfl) pa_nil))))) (pw_or1 (pt_not (pt_val (pe_callB call_isX (by rfl) T.z_isinstance (by decide +kernel) (pa_cons (pv 0) (pa_cons (pe_bltn (v := .ty "ValueError") (by rfl) T.z_ValueError (by decide +kernel) rfl) pa_nil))))))).pt (pss_one (ps_ret (pe_lst pa_nil))) pss_nil)
    (pss_one (ps_ret (pe_lc (own := [("_law_index", 2)]) rfl sc_law_kinds.nd (pi_range1 rfl T.z_range (pa_cons pe_int pa_nil)) (blkOk_by (own := [("_law_index", 2)]) (N := nm_law_kinds) (sc := defScope s_law_kinds) (by decide +kernel)) (fun _ _ _ _ _ => by exact (pg_name (i := 2) sc_law_kinds.nd rfl (by first | exact Or.inl rfl | exact Or.inr rfl))) (fun _ _ _ _ _ => by exact (pts_one (pt_val (show PE _ _ (tOp (rIxL K) _ _) from (pe_ix ix_list (pv 1) (pv 2) (fun _ _ => rfl)))))) (fun _ _ _ _ _ => by exact (pv 2))))))))))), ?_⟩
  simp only [cxOf_K, tAsg2, tYes, wipe, tSeq, tIfS, tNot, tB, tCB, tCons, tNil, tVar, tC, tTest, tOp, tAnd, tOr, tAsg, gName, tRet, tRetN, tDrop, tNext, tIf, tCall, tTup, tLst, tNotV, tAndV, tOrV, tUn, rI0, rI, rU, rEq, rNe, tM1, tM0, tBM, tBM0, tSl, tPart, tNoPart, iStr, iEnumS, iRng1, iRng2, iList, gSub, tBits, tAug, tPar, L2.start, List.map_cons, List.map_nil, List.length_cons, List.length_nil, List.getElem?_cons_zero, List.getElem?_cons_succ, List.cons_append, List.nil_append, List.append_nil, List.set_cons_zero, List.set_cons_succ, List.replicate_succ, List.replicate_zero, Option.some.injEq, exists_eq_left', V.int.injEq, V.str.injEq, V.ref.injEq, V.bl.injEq, exists_and_left, exists_eq_left, List.cons.injEq, and_true, true_and]
  refine is13 T hC he 0 rfl (is13 T hC he 1 rfl (is13 T hC he 2 rfl ⟨by decide, fun p hp => ?_⟩))
  have s1 := (L2.Same.refl H).new hp (.lst [.bl (decide (i = 0)), .bl (decide (i = 1)), .bl (decide (i = 2))])
  have he1 := he_same he s1
  refine is13 T hC he1 3 rfl (is13 T hC he1 4 rfl (is13 T hC he1 5 rfl ⟨by decide, fun p2 hp2 => ?_⟩))
  have n2 : p ≠ p2 := ne_of_none (upd_same (H := H)) hp2
  refine ⟨p, p2, _, _, rfl, rfl, by rw [upd_ne n2]; exact upd_same, upd_same, small5 (by simp), fun p3 hp3 => ?_⟩
  generalize hH3 : upd (upd (upd H p _) p2 _) p3 _ = H3
  have s2 := s1.new (s1.free hp2) (.lst [.bl (decide (i = 3)), .bl (decide (i = 4)), .bl (decide (i = 5))])
  have s3 : Same H H3 := by
    rw [← hH3]
    exact s2.new (s2.free hp3) _
  have h3 : H3 p3 = some (.lst ((List.range 6).map fun j => V.bl (decide (i = j)))) := by rw [← hH3]; exact upd_same
  have he3 := he_same he s3
  clear hH3
  refine is13 T hC he3 6 rfl (is13 T hC he3 7 rfl (is13 T hC he3 8 rfl ⟨by decide, fun p4 hp4 => ?_⟩))
  have n4 : p3 ≠ p4 := ne_of_none h3 hp4
  refine ⟨p3, p4, _, _, rfl, rfl, by rw [upd_ne n4]; exact h3, upd_same, small5 (by simp), fun p5 hp5 => ?_⟩
  generalize hH5 : upd (upd H3 p4 _) p5 _ = H5
  have s4 := s3.new (s3.free hp4) (.lst [.bl (decide (i = 6)), .bl (decide (i = 7)), .bl (decide (i = 8))])
  have s5 : Same H H5 := by
    rw [← hH5]
    exact s4.new (s4.free hp5) _
  have h5 : H5 p5 = some (.lst ((List.range 9).map fun j => V.bl (decide (i = j)))) := by rw [← hH5]; exact upd_same
  have he5 := he_same he s5
  clear hH5
  refine is13 T hC he5 9 rfl (is13 T hC he5 10 rfl (is13 T hC he5 11 rfl ⟨by decide, fun p6 hp6 => ?_⟩))
  have n6 : p5 ≠ p6 := ne_of_none h5 hp6
  refine ⟨p5, p6, _, _, rfl, rfl, by rw [upd_ne n6]; exact h5, upd_same, small5 (by simp), fun p7 hp7 => ?_⟩
  generalize hH7 : upd (upd H5 p6 _) p7 _ = H7
  have s6 := s5.new (s5.free hp6) (.lst [.bl (decide (i = 9)), .bl (decide (i = 10)), .bl (decide (i = 11))])
  have hp70 : H p7 = none := s6.free hp7
  have s7 : Same H H7 := by
    rw [← hH7]
    exact s6.new hp70 _
  have h7 : H7 p7 = some (.lst ((List.range 12).map fun j => V.bl (decide (i = j)))) := by rw [← hH7]; exact upd_same
  have he7 := he_same he s7
  clear hH7
  refine ⟨tyV_lst h7, is13 T hC he7 12 rfl ⟨p7, _, _, rfl, rfl, h7, small5' (by simp), ?_⟩⟩
  generalize hH8 : upd H7 p7 _ = H8
  have s8 : Same H H8 := by
    rw [← hH8]
    exact s7.new hp70 _
  have h8 : H8 p7 = some (.lst ((List.range 13).map fun j => V.bl (decide (i = j)))) := by rw [← hH8]; exact upd_same
  have he8 := he_same he s8
  clear hH8
  refine isTE T hC he8 ⟨true, rfl, ?_⟩
  rw [if_neg (by decide)]
  refine isVE T hC he8 ⟨true, rfl, ?_⟩
  rw [if_neg (by decide)]
  refine ⟨_, rfl, by omega, by omega, fun D hD => lc_range (fun k H' => Same H8 H' ∧ H' D = some (.lst (if i < k then [.int (i : Nat)] else []))) ⟨(L2.Same.refl H8).new hD _, upd_same⟩ ?_ ?_⟩
  · rintro k H' hk ⟨s9, hd⟩
    have hp7D : p7 ≠ D := ne_of_none h8 hD
    simp only [cxOf_K, tAsg2, tYes, wipe, tSeq, tIfS, tNot, tB, tCB, tCons, tNil, tVar, tC, tTest, tOp, tAnd, tOr, tAsg, gName, tRet, tRetN, tDrop, tNext, tIf, tCall, tTup, tLst, tNotV, tAndV, tOrV, tUn, rI0, rI, rU, rEq, rNe, tM1, tM0, tBM, tBM0, tSl, tPart, tNoPart, iStr, iEnumS, iRng1, iRng2, iList, gSub, tBits, tAug, tPar, L2.start, List.map_cons, List.map_nil, List.length_cons, List.length_nil, List.getElem?_cons_zero, List.getElem?_cons_succ, List.cons_append, List.nil_append, List.append_nil, List.set_cons_zero, List.set_cons_succ, List.replicate_succ, List.replicate_zero, Option.some.injEq, exists_eq_left', V.int.injEq, V.str.injEq, V.ref.injEq, V.bl.injEq, exists_and_left, exists_eq_left, List.cons.injEq, and_true, true_and]
    refine ⟨p7, _, _, _, rfl, rfl, SqL.of (s9 _ _ h8), by rw [Int.zero_add]; exact atI_nat (by rw [List.getElem?_map, List.getElem?_range (by omega)]; rfl), decide (i = k), rfl, ?_⟩
    by_cases e : i = k
    · rw [if_pos (by simpa using e)]
      subst e
      rw [if_neg (by omega)] at hd
      refine ⟨[], hd, by decide, s9.new hD _, ?_⟩
      rw [upd_same, if_pos (by omega), Int.zero_add]
      rfl
    · rw [if_neg (by simpa using e)]
      refine ⟨s9, ?_⟩
      rw [hd]
      by_cases l : i < k
      · rw [if_pos l, if_pos (by omega)]
      · rw [if_neg l, if_neg (by omega)]
  · rintro H' ⟨s9, hd⟩
    refine q D H' (s8.free hD) (s8.trans s9) ?_
    rw [hd, if_pos (by simpa using hi)]

theorem len12 : ∀ {as : List Addr}, as.length = 12 → ∃ a0 a1 a2 a3 a4 a5 a6 a7 a8 a9 a10 a11, as = [a0, a1, a2, a3, a4, a5, a6, a7, a8, a9, a10, a11]
  | [_, _, _, _, _, _, _, _, _, _, _, _], _ => ⟨_, _, _, _, _, _, _, _, _, _, _, _, rfl⟩
theorem Txt.xf (T : Txt K mg) : ∀ (j : Nat) (C : Addr) (f : Str), T.cs[j]? = some C → flds[j]? = some f → XfC K C ∧ PySem.W.findIn K (.ref C) f = some none
  | 0, _, _, h, g => by cases h; cases g; exact ⟨T.x_InvalidTree, T.n_InvalidTree⟩
  | 1, _, _, h, g => by cases h; cases g; exact ⟨T.x_InvalidAddress, T.n_InvalidAddress⟩
  | 2, _, _, h, g => by cases h; cases g; exact ⟨T.x_InvalidNumber, T.n_InvalidNumber⟩
  | 3, _, _, h, g => by cases h; cases g; exact ⟨T.x_InvalidList, T.n_InvalidList⟩
  | 4, _, _, h, g => by cases h; cases g; exact ⟨T.x_InvalidScript, T.n_InvalidScript⟩
  | 5, _, _, h, g => by cases h; cases g; exact ⟨T.x_InvalidMove, T.n_InvalidMove⟩
  | 6, _, _, h, g => by cases h; cases g; exact ⟨T.x_CannotTurn, T.n_CannotTurn⟩
  | 7, _, _, h, g => by cases h; cases g; exact ⟨T.x_CannotMove, T.n_CannotMove⟩
  | 8, _, _, h, g => by cases h; cases g; exact ⟨T.x_NotCarried, T.n_NotCarried⟩
  | 9, _, _, h, g => by cases h; cases g; exact ⟨T.x_InvalidName, T.n_InvalidName⟩
  | 10, _, _, h, g => by cases h; cases g; exact ⟨T.x_TakenName, T.n_TakenName⟩
  | 11, _, _, h, g => by cases h; cases g; exact ⟨T.x_UnknownName, T.n_UnknownName⟩
  | n + 12, _, _, h, _ => by cases h
theorem Errs.same {T : Txt K mg} {H H' : Hp} {as : List Addr} {y : V} (e : Errs T H as y) (s : Same H H') : Errs T H' as y := ⟨e.1, fun j C f a h1 h2 h3 => (e.2 j C f a h1 h2 h3).same s⟩
theorem Errs.c {T : Txt K mg} {H : Hp} {as : List Addr} {y : V} {j : Nat} (e : Errs T H as y) (hj : j < 12) : ∃ C, T.cs[j]? = some C := ⟨T.cs[j]'(show j < T.cs.length from hj), List.getElem?_eq_getElem (show j < T.cs.length from hj)⟩
theorem fxJ {T : Txt K mg} {H : Hp} {as : List Addr} {y : V} {B : V → Prop} (e : Errs T H as y) (j : Nat) {a : Addr} {f : Str} (ha : as[j]? = some a) (hf : flds[j]? = some f) (q : B y) :
    ∃ a', V.ref a = .ref a' ∧ ∃ C, XfC K C ∧ PySem.W.findIn K (.ref C) f = some none ∧ ∃ fs, Err H a' C fs ∧ ∃ v, fs.lookup f = some v ∧ B v := by
  have hj : j < 12 := e.1 ▸ (List.getElem?_eq_some_iff.mp ha).1
  obtain ⟨C, hC⟩ := e.c hj
  obtain ⟨x, n⟩ := T.xf j C f hC hf
  exact ⟨a, rfl, C, x, n, _, e.2 j C f a hC hf ha, y, by simp [List.lookup], q⟩
theorem getT {as : List Addr} {n i : Nat} {x : V} (h : ((as.take n).map V.ref)[i]? = some x) : ∃ a, as[i]? = some a ∧ x = .ref a ∧ i < n := by
  rw [List.getElem?_map, List.getElem?_take] at h
  by_cases l : i < n
  · rw [if_pos l] at h
    obtain ⟨a, ha, rfl⟩ := Option.map_eq_some_iff.mp h
    exact ⟨a, ha, rfl, l⟩
  · rw [if_neg l] at h
    cases h
theorem getD {as : List Addr} {n i : Nat} {x : V} (h : ((as.drop n).map V.ref)[i]? = some x) : ∃ a, as[n + i]? = some a ∧ x = .ref a ∧ i < as.length - n := by
  rw [List.getElem?_map, List.getElem?_drop] at h
  obtain ⟨a, ha, rfl⟩ := Option.map_eq_some_iff.mp h
  have := (List.getElem?_eq_some_iff.mp ha).1
  exact ⟨a, ha, rfl, by omega⟩
theorem fv6 : ∀ i < 6, flds[i]? = some ("value" : Str) := by decide
theorem fn3 : ∀ i < 3, flds[9 + i]? = some ("name" : Str) := by decide
theorem ok_law_fields (T : Txt K mg) : FnOk P w K mg base CX0 1 T.a_law_fields T.fd_law_fields ["_law_errors"] (sp_law_fields T) := by
  refine T.F_law_fields.ok sc_law_fields (fun vs H Q E h => ?_) (fun cdv A outer s H vs Q E hr h => ?_)
  · obtain ⟨l, as, y, rfl, _⟩ := h; rfl
  obtain ⟨l, as, y, rfl, hl, he, q⟩ := h
  obtain ⟨a0, a1, a2, a3, a4, a5, a6, a7, a8, a9, a10, a11, rfl⟩ := len12 he.1
  refine ⟨_, (pss_cons (ps_set (i := 1) sc_law_fields.nd rfl (by first | exact Or.inl rfl | exact Or.inr rfl) (pe_op op_catN (pe_lc (own := [("_law_error", 2)]) rfl sc_law_fields.nd (pi_list (pe_slice sl_list (pv 0) po_none (po_some pe_int))) (blkOk_by (own := [("_law_error", 2)]) (N := nm_law_fields) (sc := defScope s_law_fields) (by decide +kernel)) (fun _ _ _ _ _ => by exact (pg_name (i := 2) sc_law_fields.nd rfl (by first | exact Or.inl rfl | exact Or.inr rfl))) (fun _ _ _ _ _ => by exact pts_nil) (fun _ _ _ _ _ => by exact (show PE _ _ (tFx K "value" _) from (pe_fx (pv 2))))) (pe_lst (pa_cons (pe_fx (pe_ix ix_list (pv 0) pe_int (fun _ _ => rfl))) (pa_cons (pe_fx (pe_ix ix_list (pv 0) pe_int (fun _ _ => rfl))) (pa_cons (pe_fx (pe_ix ix_list (pv 0) pe_int (fun _ _ => rfl))) pa_nil))))))
    (pss_one (ps_ret (pe_op op_catN (pv 1) (pe_lc (own := [("_law_error", 2)]) rfl sc_law_fields.nd (pi_list (pe_slice sl_list (pv 0) (po_some pe_int) po_none)) (blkOk_by (own := [("_law_error", 2)]) (N := nm_law_fields) (sc := defScope s_law_fields) (by decide +kernel)) (fun _ _ _ _ _ => by exact (pg_name (i := 2) sc_law_fields.nd rfl (by first | exact Or.inl rfl | exact Or.inr rfl))) (fun _ _ _ _ _ => by exact pts_nil) (fun _ _ _ _ _ => by exact (show PE _ _ (tFx K "name" _) from (pe_fx (pv 2))))))))), ?_⟩
  simp only [cxOf_K, tAsg2, tYes, wipe, tSeq, tIfS, tNot, tB, tCB, tCons, tNil, tVar, tC, tTest, tOp, tAnd, tOr, tAsg, gName, tRet, tRetN, tDrop, tNext, tIf, tCall, tTup, tLst, tNotV, tAndV, tOrV, tUn, rI0, rI, rU, rEq, rNe, tM1, tM0, tBM, tBM0, tSl, tPart, tNoPart, iStr, iEnumS, iRng1, iRng2, iList, gSub, tBits, tAug, tPar, L2.start, List.map_cons, List.map_nil, List.length_cons, List.length_nil, List.getElem?_cons_zero, List.getElem?_cons_succ, List.cons_append, List.nil_append, List.append_nil, List.set_cons_zero, List.set_cons_succ, List.replicate_succ, List.replicate_zero, Option.some.injEq, exists_eq_left', V.int.injEq, V.str.injEq, V.ref.injEq, V.bl.injEq, exists_and_left, exists_eq_left, List.cons.injEq, and_true, true_and]
  refine ⟨_, rfl, 6, rfl, l, _, rfl, SqL.of hl, fun c hc => ⟨c, rfl, ⟨_, SqL.of upd_same⟩, fun D hD => ?_⟩⟩
  have sc := (L2.Same.refl H).new hc (.lst (cutV (List.map V.ref [a0, a1, a2, a3, a4, a5, a6, a7, a8, a9, a10, a11]) none (some 6)))
  generalize hH1 : upd H c _ = H1 at hD sc ⊢
  have hc1 : H1 c = some (.lst [.ref a0, .ref a1, .ref a2, .ref a3, .ref a4, .ref a5]) := by rw [← hH1]; exact upd_same
  clear hH1
  refine lc_list (K := K) (a := c) (xs := [.ref a0, .ref a1, .ref a2, .ref a3, .ref a4, .ref a5]) (fun i H' => Same H1 H' ∧ H' D = some (.lst (List.replicate i y))) ⟨(L2.Same.refl H1).new hD _, upd_same⟩ (fun i H' _ hp => SqL.of (hp.1 _ _ hc1)) ?_ ?_
  · rintro i x H' hi ⟨s0, hd⟩
    have e' := he.same (sc.trans s0)
    have hi6 : i < 6 := (List.getElem?_eq_some_iff.mp hi).1
    have fin : ∃ acc, H' D = some (.lst acc) ∧ acc.length < sizeLine ∧ Same H1 (upd H' D (.lst (acc ++ [y]))) ∧ upd H' D (.lst (acc ++ [y])) D = some (.lst (List.replicate (i + 1) y)) := by
      refine ⟨_, hd, by rw [List.length_replicate]; exact small5' (by omega), s0.new hD _, ?_⟩
      rw [upd_same, List.replicate_succ']
    simp only [tFx, cxOf_K, tAsg2, tYes, wipe, tSeq, tIfS, tNot, tB, tCB, tCons, tNil, tVar, tC, tTest, tOp, tAnd, tOr, tAsg, gName, tRet, tRetN, tDrop, tNext, tIf, tCall, tTup, tLst, tNotV, tAndV, tOrV, tUn, rI0, rI, rU, rEq, rNe, tM1, tM0, tBM, tBM0, tSl, tPart, tNoPart, iStr, iEnumS, iRng1, iRng2, iList, gSub, tBits, tAug, tPar, L2.start, List.map_cons, List.map_nil, List.length_cons, List.length_nil, List.getElem?_cons_zero, List.getElem?_cons_succ, List.cons_append, List.nil_append, List.append_nil, List.set_cons_zero, List.set_cons_succ, List.replicate_succ, List.replicate_zero, Option.some.injEq, exists_eq_left', V.int.injEq, V.str.injEq, V.ref.injEq, V.bl.injEq, exists_and_left, exists_eq_left, List.cons.injEq, and_true, true_and]
    rw [if_pos True.intro]
    obtain ⟨a, ha, rfl, _⟩ := getT (as := [a0, a1, a2, a3, a4, a5, a6, a7, a8, a9, a10, a11]) (n := 6) hi
    refine fxJ e' i ha (fv6 i hi6) ?_
    exact fin
  · rintro H2 ⟨s0, hd⟩
    have s2 := sc.trans s0
    have e2 := he.same s2
    have hl2 := s2 _ _ hl
    simp only [tFx, cxOf_K, tAsg2, tYes, wipe, tSeq, tIfS, tNot, tB, tCB, tCons, tNil, tVar, tC, tTest, tOp, tAnd, tOr, tAsg, gName, tRet, tRetN, tDrop, tNext, tIf, tCall, tTup, tLst, tNotV, tAndV, tOrV, tUn, rI0, rI, rU, rEq, rNe, tM1, tM0, tBM, tBM0, tSl, tPart, tNoPart, iStr, iEnumS, iRng1, iRng2, iList, gSub, tBits, tAug, tPar, L2.start, List.map_cons, List.map_nil, List.length_cons, List.length_nil, List.getElem?_cons_zero, List.getElem?_cons_succ, List.cons_append, List.nil_append, List.append_nil, List.set_cons_zero, List.set_cons_succ, List.replicate_succ, List.replicate_zero, Option.some.injEq, exists_eq_left', V.int.injEq, V.str.injEq, V.ref.injEq, V.bl.injEq, exists_and_left, exists_eq_left, List.cons.injEq, and_true, true_and]
    refine ⟨l, _, 6, _, rfl, rfl, SqL.of hl2, rfl, ?_⟩
    refine fxJ e2 6 rfl rfl ?_
    refine ⟨l, _, 7, _, rfl, rfl, SqL.of hl2, rfl, ?_⟩
    refine fxJ e2 7 rfl rfl ?_
    refine ⟨l, _, 8, _, rfl, rfl, SqL.of hl2, rfl, ?_⟩
    refine fxJ e2 8 rfl rfl ⟨by decide, fun p hp => ?_⟩
    have nDp : D ≠ p := ne_of_none hd hp
    refine ⟨D, p, _, _, rfl, rfl, by rw [upd_ne nDp]; exact hd, upd_same, small5 (by simp), fun p3 hp3 n3 => ?_⟩
    generalize hH3 : upd (upd H2 p _) p3 _ = H3
    have s3' := s2.new (s2.free hp) (.lst [y, y, y])
    have s3 : Same H H3 := by rw [← hH3]; exact s3'.new (s3'.free hp3) _
    have h3 : H3 p3 = some (.lst (List.replicate 9 y)) := by rw [← hH3]; exact upd_same
    have e3 := he.same s3
    have hl3 := s3 _ _ hl
    clear hH3
    refine ⟨_, rfl, 9, rfl, l, _, rfl, SqL.of hl3, fun c2 hc2 => ⟨c2, rfl, ⟨_, SqL.of upd_same⟩, fun D2 hD2 => ?_⟩⟩
    have s4' : Same H3 (upd H3 c2 (.lst (cutV (List.map V.ref [a0, a1, a2, a3, a4, a5, a6, a7, a8, a9, a10, a11]) (some 9) none))) := (L2.Same.refl H3).new hc2 _
    generalize hH4 : upd H3 c2 _ = H4 at hD2 s4' ⊢
    have h4 : H4 c2 = some (.lst [.ref a9, .ref a10, .ref a11]) := by rw [← hH4]; exact upd_same
    clear hH4
    refine lc_list (K := K) (a := c2) (xs := [.ref a9, .ref a10, .ref a11]) (fun i H' => Same H4 H' ∧ H' D2 = some (.lst (List.replicate i y))) ⟨(L2.Same.refl H4).new hD2 _, upd_same⟩ (fun i H' _ hp => SqL.of (hp.1 _ _ h4)) ?_ ?_
    · rintro i x H' hi ⟨s5, hd5⟩
      have e' := e3.same (s4'.trans s5)
      have hi6 : i < 3 := (List.getElem?_eq_some_iff.mp hi).1
      have fin : ∃ acc, H' D2 = some (.lst acc) ∧ acc.length < sizeLine ∧ Same H4 (upd H' D2 (.lst (acc ++ [y]))) ∧ upd H' D2 (.lst (acc ++ [y])) D2 = some (.lst (List.replicate (i + 1) y)) := by
        refine ⟨_, hd5, by rw [List.length_replicate]; exact small5' (by omega), s5.new hD2 _, ?_⟩
        rw [upd_same, List.replicate_succ']
      simp only [tFx, cxOf_K, tAsg2, tYes, wipe, tSeq, tIfS, tNot, tB, tCB, tCons, tNil, tVar, tC, tTest, tOp, tAnd, tOr, tAsg, gName, tRet, tRetN, tDrop, tNext, tIf, tCall, tTup, tLst, tNotV, tAndV, tOrV, tUn, rI0, rI, rU, rEq, rNe, tM1, tM0, tBM, tBM0, tSl, tPart, tNoPart, iStr, iEnumS, iRng1, iRng2, iList, gSub, tBits, tAug, tPar, L2.start, List.map_cons, List.map_nil, List.length_cons, List.length_nil, List.getElem?_cons_zero, List.getElem?_cons_succ, List.cons_append, List.nil_append, List.append_nil, List.set_cons_zero, List.set_cons_succ, List.replicate_succ, List.replicate_zero, Option.some.injEq, exists_eq_left', V.int.injEq, V.str.injEq, V.ref.injEq, V.bl.injEq, exists_and_left, exists_eq_left, List.cons.injEq, and_true, true_and]
      rw [if_pos True.intro]
      obtain ⟨a, ha, rfl, _⟩ := getD (as := [a0, a1, a2, a3, a4, a5, a6, a7, a8, a9, a10, a11]) (n := 9) hi
      refine fxJ e' (9 + i) ha (fn3 i hi6) ?_
      exact fin
    · rintro H5 ⟨s5, hd5⟩
      refine ⟨p3, D2, _, _, rfl, rfl, s5 _ _ (s4' _ _ h3), hd5, small5 (by simp), fun p6 hp6 n6 => q p6 _ n6 ?_ ?_⟩
      · exact (s3.trans (s4'.trans s5)).new ((s3.trans (s4'.trans s5)).free hp6) _
      · rw [upd_same]
        rfl

/-! ### lists of one thing -/
theorem tf_le {B : Nat} : ∀ (ts : List Str) (k : Nat) (acc : Str), (∀ t ∈ ts, t.length ≤ B) → (textFrom k acc ts).length ≤ acc.length + ts.length * (B + 2)
  | [], k, acc, _ => by show acc.length ≤ acc.length + 0 * (B + 2); omega
  | t :: r, k, acc, h => by
    have ih := tf_le r (k + 1) (acc ++ (if k > 0 then ", " else "" : String) ++ t) fun x hx => h x (List.mem_cons_of_mem _ hx)
    have ht := h t List.mem_cons_self
    have e : ((if k > 0 then ", " else "" : String) : Str).length ≤ 2 := by
      by_cases hk : k > 0
      · rw [if_pos hk]; exact Nat.le_refl _
      · rw [if_neg hk]; exact Nat.zero_le _
    show (textFrom (k + 1) (acc ++ (if k > 0 then ", " else "" : String) ++ t) r).length ≤ _
    rw [strLen_append, strLen_append] at ih
    rw [List.length_cons, Nat.succ_mul]
    omega
theorem shownRep (d : PyData) : ∀ n : Nat, PyData.shownAll (List.replicate n d) = List.replicate n d.shown
  | 0 => by simp [PyData.shownAll]
  | n + 1 => by rw [List.replicate_succ, List.replicate_succ]; simp only [PyData.shownAll]; rw [shownRep d n]
theorem depthRep (d : PyData) : ∀ n : Nat, PyData.depthAll (List.replicate n d) ≤ d.depth
  | 0 => by simp [PyData.depthAll]
  | n + 1 => by rw [List.replicate_succ]; simp only [PyData.depthAll]; have := depthRep d n; omega
theorem dictRep (d : PyData) : ∀ n : Nat, PyData.hasDictAll (List.replicate n d) = true → d.hasDict = true
  | 0, h => by simp [PyData.hasDictAll] at h
  | n + 1, h => by
    rw [List.replicate_succ] at h
    simp only [PyData.hasDictAll, Bool.or_eq_true] at h
    exact h.elim id (dictRep d n)
theorem showRep (d : PyData) (hs : d.showable = true) : ∀ n : Nat, PyData.showableAll (List.replicate n d) = true
  | 0 => by simp [PyData.showableAll]
  | n + 1 => by rw [List.replicate_succ]; simp only [PyData.showableAll]; rw [hs, showRep d hs n]; rfl
theorem dvsRep {H : Hp} {c : Bool} {y : V} {d : PyData} (h : DV H c y d) : ∀ n : Nat, DVs H c (List.replicate n y) (List.replicate n d)
  | 0 => .nil
  | n + 1 => by rw [List.replicate_succ, List.replicate_succ]; exact .cons h (dvsRep h n)
theorem Good.same {H H' : Hp} {y : V} {d : PyData} (g : Good H y d) (s : Same H H') : Good H' y d := ⟨g.dv.same s, g.sh, g.dp, g.ln⟩
theorem reprRep {H : Hp} {y : V} {d : PyData} {p : Addr} {Q : VK} (g : Good H y d) (hp : H p = some (.lst (List.replicate 12 y))) (np : p ≠ sysModules) (q : Q (.str (PyData.list (List.replicate 12 d)).shown) H) : rRepr [.ref p] H Q := by
  have gd := depthRep d 12
  have g3 := g.dp
  refine ⟨p, .list (List.replicate 12 d), d.hasDict, rfl, .lst (fun _ => np) hp (dvsRep g.dv 12), fun h => dictRep d 12 (by simpa only [PyData.hasDict] using h), by simpa only [PyData.showable] using showRep d g.sh 12, ?_, ?_, q⟩
  · simp only [PyData.depth]; omega
  · simp only [PyData.shown]
    rw [shownRep]
    have z := tf_le (B := 1000) (List.replicate 12 d.shown) 0 "[" (fun t ht => by rw [List.eq_of_mem_replicate ht]; exact g.ln)
    have e1 : ((("[" : String)) : Str).length = 1 := rfl
    have e2 : ((("]" : String)) : Str).length = 1 := rfl
    unfold listText
    rw [strLen_append, sizeLine_eq, e2]
    rw [List.length_replicate, e1] at z
    omega
/-! ### lists of lists of their own number -/
def Rows (H : Hp) (D : Addr) (n : Nat) : Prop := ∃ ps : List Addr, ps.length = n ∧ H D = some (.lst (ps.map V.ref)) ∧ ∀ j p, ps[j]? = some p → H p = some (.lst [.int (j : Nat)])
theorem row_ne {H : Hp} {D p : Addr} {ps : List Addr} {k : Int} (hD : H D = some (.lst (ps.map V.ref))) (hp : H p = some (.lst [.int k])) : p ≠ D := fun e => by
  rw [e, hD] at hp
  cases ps with
  | nil => cases hp
  | cons _ _ => cases hp
theorem Rows.push {H : Hp} {D p : Addr} {n : Nat} (r : Rows H D n) (hn : n ≤ 1000) (hp : H p = some (.lst [.int (n : Nat)])) {M : Hp → Prop} (hM : ∀ o, M (upd H D o)) :
    ∃ acc, H D = some (.lst acc) ∧ acc.length < sizeLine ∧ M (upd H D (.lst (acc ++ [V.ref p]))) ∧ Rows (upd H D (.lst (acc ++ [V.ref p]))) D (n + 1) := by
  obtain ⟨ps, hl, hD, h⟩ := r
  refine ⟨_, hD, by rw [List.length_map, hl]; exact small5' (by omega), hM _, ps ++ [p], by simp [hl], by rw [upd_same]; simp, fun j p' hj => ?_⟩
  by_cases l : j < ps.length
  · rw [List.getElem?_append_left l] at hj
    have z := h j p' hj
    rw [upd_ne (row_ne hD z)]
    exact z
  · rw [List.getElem?_append_right (by omega)] at hj
    obtain ⟨hj1, hj2⟩ := List.getElem?_eq_some_iff.mp hj
    have ej : j = n := by simp at hj1; omega
    subst ej
    have ep : p' = p := by simpa [hl] using hj2.symm
    subst ep
    rw [upd_ne (row_ne hD hp)]
    exact hp
theorem Rows.same {H H' : Hp} {D : Addr} {n : Nat} (r : Rows H D n) (s : Same H H') : Rows H' D n := by
  obtain ⟨ps, hl, hD, h⟩ := r
  exact ⟨ps, hl, s _ _ hD, fun j p hj => s _ _ (h j p hj)⟩
abbrev rowsD : PyData := .list ((List.range 12).map fun j => PyData.list [.int (j : Nat)])
theorem Rows.dp {H : Hp} {D : Addr} (r : Rows H D 12) : Dp K H (.ref D) rowsD := by
  obtain ⟨ps, hl, hD, h⟩ := r
  obtain ⟨a0, a1, a2, a3, a4, a5, a6, a7, a8, a9, a10, a11, rfl⟩ := len12 hl
  have one : ∀ (j : Nat) (p : Addr), [a0, a1, a2, a3, a4, a5, a6, a7, a8, a9, a10, a11][j]? = some p → Dp K H (.ref p) (.list [.int (j : Nat)]) := fun j p hj => .lst (SqL.of (h j p hj)) (.cons (.int _) .nil)
  exact .lst (SqL.of hD) (.cons (one 0 _ rfl) (.cons (one 1 _ rfl) (.cons (one 2 _ rfl) (.cons (one 3 _ rfl) (.cons (one 4 _ rfl) (.cons (one 5 _ rfl) (.cons (one 6 _ rfl) (.cons (one 7 _ rfl) (.cons (one 8 _ rfl) (.cons (one 9 _ rfl) (.cons (one 10 _ rfl) (.cons (one 11 _ rfl) .nil))))))))))))
theorem ok_law_right (T : Txt K mg) : FnG P w K mg base CX0 3 T.a_law_right T.fd_law_right ["_law_errors", "_law_wanted"] (sp_law_right T) := by
  refine okG T.F_law_right sc_law_right (fun vs H Q E h => ?_) (fun cdv A outer s H vs Q E hG hr h => ?_)
  · obtain ⟨l, as, y, d, rfl, _⟩ := h; rfl
  obtain ⟨l, as, y, d, rfl, hl, he, gd, q⟩ := h
  have hru := hr.units
  refine ⟨_, (pss_cons (ps_if (pt_cmpR (op_neD hru) (pe_lc (own := [("_law_error", 2)]) rfl sc_law_right.nd (pi_list (pv 0)) (blkOk_by (own := [("_law_error", 2)]) (N := nm_law_right) (sc := defScope s_law_right) (by decide +kernel)) (fun _ _ _ _ _ => by exact (pg_name (i := 2) sc_law_right.nd rfl (by first | exact Or.inl rfl | exact Or.inr rfl))) (fun _ _ _ _ _ => by exact pts_nil) (fun _ _ _ _ _ => by exact (pe_call (ok_law_kinds T) (hr.mono (by first | decide | omega)) (by rfl) T.m_law_kinds T.F_law_kinds.kp T.b_law_kinds .nil pass0 (pa_cons (pv 2) pa_nil)))) (pe_lc (own := [("_law_index", 3)]) rfl sc_law_right.nd (pi_range1 rfl T.z_range (pa_cons pe_int pa_nil)) (blkOk_by (own := [("_law_index", 3)]) (N := nm_law_right) (sc := defScope s_law_right) (by decide +kernel)) (fun _ _ _ _ _ => by exact (pg_name (i := 3) sc_law_right.nd rfl (by first | exact Or.inl rfl | exact Or.inr rfl))) (fun _ _ _ _ _ => by exact pts_nil) (fun _ _ _ _ _ => by exact (pe_lst (pa_cons (pv 3) pa_nil)))) (nomark _)) (pss_one (ps_ret pe_bl)) pss_nil)
    (pss_one (ps_ret (pe_cmpR op_eq (pe_callB (cr_repr hG hru) (by rfl) T.z_repr (by decide +kernel) (pa_cons (pe_call (ok_law_fields T) (hr.mono (by first | decide | omega)) (by rfl) T.m_law_fields T.F_law_fields.kp T.b_law_fields .nil pass0 (pa_cons (pv 0) pa_nil)) pa_nil)) (pe_callB (cr_repr hG hru) (by rfl) T.z_repr (by decide +kernel) (pa_cons (pe_op op_repN (pe_lst (pa_cons (pv 1) pa_nil)) pe_int) pa_nil)) (nomark _))))), ?_⟩
  simp only [cxOf_K, tAsg2, tYes, wipe, tSeq, tIfS, tNot, tB, tCB, tCons, tNil, tVar, tC, tTest, tOp, tAnd, tOr, tAsg, gName, tRet, tRetN, tDrop, tNext, tIf, tCall, tTup, tLst, tNotV, tAndV, tOrV, tUn, rI0, rI, rU, rEq, rNe, tM1, tM0, tBM, tBM0, tSl, tPart, tNoPart, iStr, iEnumS, iRng1, iRng2, iList, gSub, tBits, tAug, tPar, L2.start, List.map_cons, List.map_nil, List.length_cons, List.length_nil, List.getElem?_cons_zero, List.getElem?_cons_succ, List.cons_append, List.nil_append, List.append_nil, List.set_cons_zero, List.set_cons_succ, List.replicate_succ, List.replicate_zero, Option.some.injEq, exists_eq_left', V.int.injEq, V.str.injEq, V.ref.injEq, V.bl.injEq, exists_and_left, exists_eq_left, List.cons.injEq, and_true, true_and]
  refine ⟨_, rfl, l, rfl, ⟨_, SqL.of hl⟩, fun D hD => lc_list (K := K) (a := l) (xs := as.map V.ref) (fun i H' => Same H H' ∧ Rows H' D i) ⟨(L2.Same.refl H).new hD _, [], rfl, upd_same, fun j p hj => by cases hj⟩ (fun i H' _ hp => SqL.of (hp.1 _ _ hl)) ?_ ?_⟩
  · rintro i x H' hi ⟨s0, hd⟩
    have hi12 : i < 12 := by
      have := (List.getElem?_eq_some_iff.mp hi).1
      rw [List.length_map, he.1] at this
      exact this
    rw [List.getElem?_map] at hi
    obtain ⟨a, ha, rfl⟩ := Option.map_eq_some_iff.mp hi
    obtain ⟨C, hC⟩ := he.c hi12
    obtain ⟨f, hf⟩ : ∃ f, flds[i]? = some f := ⟨_, List.getElem?_eq_getElem (show i < flds.length from hi12)⟩
    simp only [cxOf_K, tAsg2, tYes, wipe, tSeq, tIfS, tNot, tB, tCB, tCons, tNil, tVar, tC, tTest, tOp, tAnd, tOr, tAsg, gName, tRet, tRetN, tDrop, tNext, tIf, tCall, tTup, tLst, tNotV, tAndV, tOrV, tUn, rI0, rI, rU, rEq, rNe, tM1, tM0, tBM, tBM0, tSl, tPart, tNoPart, iStr, iEnumS, iRng1, iRng2, iList, gSub, tBits, tAug, tPar, L2.start, List.map_cons, List.map_nil, List.length_cons, List.length_nil, List.getElem?_cons_zero, List.getElem?_cons_succ, List.cons_append, List.nil_append, List.append_nil, List.set_cons_zero, List.set_cons_succ, List.replicate_succ, List.replicate_zero, Option.some.injEq, exists_eq_left', V.int.injEq, V.str.injEq, V.ref.injEq, V.bl.injEq, exists_and_left, exists_eq_left, List.cons.injEq, and_true, true_and]
    rw [if_pos True.intro]
    refine ⟨a, i, C, rfl, ?_, .inl ⟨_, (he.2 i C f a hC hf ha).same s0⟩, fun p H2 np s2 hp => ?_⟩
    · rw [List.getElem?_append_left (show i < T.cs.length from hi12)]; exact hC
    exact (hd.same s2).push (by omega) hp (M := fun Z => Same H Z) fun o => (s0.trans s2).new hD _
  · rintro H1 ⟨s1, r1⟩
    rw [List.length_map, he.1] at r1
    refine ⟨_, rfl, by decide, by decide, fun D2 hD2 => lc_range (fun i H' => Same H1 H' ∧ Rows H' D2 i) ⟨(L2.Same.refl H1).new hD2 _, [], rfl, upd_same, fun j p hj => by cases hj⟩ ?_ ?_⟩
    · rintro i H' hi ⟨s0, hd⟩
      have hi12 : i < 12 := hi
      simp only [cxOf_K, tAsg2, tYes, wipe, tSeq, tIfS, tNot, tB, tCB, tCons, tNil, tVar, tC, tTest, tOp, tAnd, tOr, tAsg, gName, tRet, tRetN, tDrop, tNext, tIf, tCall, tTup, tLst, tNotV, tAndV, tOrV, tUn, rI0, rI, rU, rEq, rNe, tM1, tM0, tBM, tBM0, tSl, tPart, tNoPart, iStr, iEnumS, iRng1, iRng2, iList, gSub, tBits, tAug, tPar, L2.start, List.map_cons, List.map_nil, List.length_cons, List.length_nil, List.getElem?_cons_zero, List.getElem?_cons_succ, List.cons_append, List.nil_append, List.append_nil, List.set_cons_zero, List.set_cons_succ, List.replicate_succ, List.replicate_zero, Option.some.injEq, exists_eq_left', V.int.injEq, V.str.injEq, V.ref.injEq, V.bl.injEq, exists_and_left, exists_eq_left, List.cons.injEq, and_true, true_and]
      rw [if_pos True.intro]
      refine ⟨by decide, fun p hp => ?_⟩
      have s2 := (L2.Same.refl H').new hp (.lst [V.int (0 + (i : Nat))])
      exact (hd.same s2).push (by omega) (by rw [upd_same, Int.zero_add]) (M := fun Z => Same H1 Z) fun o => (s0.trans s2).new hD2 _
    · rintro H2 ⟨s2, r2⟩
      refine ⟨rowsD, rowsD, (r1.same s2).dp, Rows.dp r2, by decide +kernel, by decide +kernel, false, by rw [show PyData.eqv rowsD rowsD = true by decide +kernel]; rfl, ?_⟩
      rw [if_neg Bool.false_ne_true]
      have s12 := s1.trans s2
      refine ⟨l, as, y, rfl, s12 _ _ hl, he.same s12, fun p H3 np s3 hp => ?_⟩
      have t3 := s12.trans s3
      refine reprRep (gd.same t3) hp np ⟨by decide, fun p4 hp4 => ?_⟩
      have t4 := t3.new (t3.free hp4) (.lst [y])
      refine ⟨p4, y, 12, rfl, rfl, upd_same, by decide, by decide, fun p5 hp5 np5 => ?_⟩
      have t5 := t4.new (t4.free hp5) (.lst (List.replicate (Int.toNat 12) y))
      refine reprRep (gd.same t5) upd_same np5 ⟨rfl, ?_⟩
      rw [decide_eq_true rfl]
      exact q _ t5

theorem Errs.mk12 {T : Txt K mg} {H : Hp} {y : V} {a0 a1 a2 a3 a4 a5 a6 a7 a8 a9 a10 a11 : Addr} (e0 : Err H a0 T.c_InvalidTree [("value", y)]) (e1 : Err H a1 T.c_InvalidAddress [("value", y)]) (e2 : Err H a2 T.c_InvalidNumber [("value", y)]) (e3 : Err H a3 T.c_InvalidList [("value", y)])
    (e4 : Err H a4 T.c_InvalidScript [("value", y)]) (e5 : Err H a5 T.c_InvalidMove [("value", y)]) (e6 : Err H a6 T.c_CannotTurn [("place", y)]) (e7 : Err H a7 T.c_CannotMove [("value", y)]) (e8 : Err H a8 T.c_NotCarried [("address", y)]) (e9 : Err H a9 T.c_InvalidName [("name", y)])
    (e10 : Err H a10 T.c_TakenName [("name", y)]) (e11 : Err H a11 T.c_UnknownName [("name", y)]) : Errs T H [a0, a1, a2, a3, a4, a5, a6, a7, a8, a9, a10, a11] y := ⟨rfl, fun j C f a h1 h2 h3 =>
  match j, h1, h2, h3 with
  | 0, h1, h2, h3 => by cases h1; cases h2; cases h3; exact e0
  | 1, h1, h2, h3 => by cases h1; cases h2; cases h3; exact e1
  | 2, h1, h2, h3 => by cases h1; cases h2; cases h3; exact e2
  | 3, h1, h2, h3 => by cases h1; cases h2; cases h3; exact e3
  | 4, h1, h2, h3 => by cases h1; cases h2; cases h3; exact e4
  | 5, h1, h2, h3 => by cases h1; cases h2; cases h3; exact e5
  | 6, h1, h2, h3 => by cases h1; cases h2; cases h3; exact e6
  | 7, h1, h2, h3 => by cases h1; cases h2; cases h3; exact e7
  | 8, h1, h2, h3 => by cases h1; cases h2; cases h3; exact e8
  | 9, h1, h2, h3 => by cases h1; cases h2; cases h3; exact e9
  | 10, h1, h2, h3 => by cases h1; cases h2; cases h3; exact e10
  | 11, h1, h2, h3 => by cases h1; cases h2; cases h3; exact e11
  | n + 12, h1, _, _ => by cases h1⟩
theorem ok_law_placed (T : Txt K mg) : FnOk P w K mg base CX0 3 T.a_law_placed T.fd_law_placed ["_law_given"] (sp_law_placed T) := by
  refine T.F_law_placed.ok sc_law_placed (fun vs H Q E h => ?_) (fun cdv A outer s H vs Q E hr h => ?_)
  · obtain ⟨y, rfl, _⟩ := h; rfl
  obtain ⟨y, rfl, q⟩ := h
  refine ⟨_, (pss_cons (ps_set (i := 1) sc_law_placed.nd rfl (by first | exact Or.inl rfl | exact Or.inr rfl) (pe_lst (pa_cons (pe_err T.o_InvalidTree (hr.mono (by first | decide | omega)) (by rfl) (pv 0)) (pa_cons (pe_err T.o_InvalidAddress (hr.mono (by first | decide | omega)) (by rfl) (pv 0)) (pa_cons (pe_err T.o_InvalidNumber (hr.mono (by first | decide | omega)) (by rfl) (pv 0)) (pa_cons (pe_err T.o_InvalidList (hr.mono (by first | decide | omega)) (by rfl) (pv 0)) pa_nil))))))
    (pss_cons (ps_set (i := 1) sc_law_placed.nd rfl (by first | exact Or.inl rfl | exact Or.inr rfl) (pe_op op_cat (pv 1) (pe_lst (pa_cons (pe_err T.o_InvalidScript (hr.mono (by first | decide | omega)) (by rfl) (pv 0)) (pa_cons (pe_err T.o_InvalidMove (hr.mono (by first | decide | omega)) (by rfl) (pv 0)) (pa_cons (pe_err T.o_CannotTurn (hr.mono (by first | decide | omega)) (by rfl) (pv 0)) (pa_cons (pe_err T.o_CannotMove (hr.mono (by first | decide | omega)) (by rfl) (pv 0)) pa_nil)))))))
    (pss_one (ps_ret (pe_op op_cat (pv 1) (pe_lst (pa_cons (pe_err T.o_NotCarried (hr.mono (by first | decide | omega)) (by rfl) (pv 0)) (pa_cons (pe_err T.o_InvalidName (hr.mono (by first | decide | omega)) (by rfl) (pv 0)) (pa_cons (pe_err T.o_TakenName (hr.mono (by first | decide | omega)) (by rfl) (pv 0)) (pa_cons (pe_err T.o_UnknownName (hr.mono (by first | decide | omega)) (by rfl) (pv 0)) pa_nil)))))))))), ?_⟩
  simp only [cxOf_K, tAsg2, tYes, wipe, tSeq, tIfS, tNot, tB, tCB, tCons, tNil, tVar, tC, tTest, tOp, tAnd, tOr, tAsg, gName, tRet, tRetN, tDrop, tNext, tIf, tCall, tTup, tLst, tNotV, tAndV, tOrV, tUn, rI0, rI, rU, rEq, rNe, tM1, tM0, tBM, tBM0, tSl, tPart, tNoPart, iStr, iEnumS, iRng1, iRng2, iList, gSub, tBits, tAug, tPar, L2.start, List.map_cons, List.map_nil, List.length_cons, List.length_nil, List.getElem?_cons_zero, List.getElem?_cons_succ, List.cons_append, List.nil_append, List.append_nil, List.set_cons_zero, List.set_cons_succ, List.replicate_succ, List.replicate_zero, Option.some.injEq, exists_eq_left', V.int.injEq, V.str.injEq, V.ref.injEq, V.bl.injEq, exists_and_left, exists_eq_left, List.cons.injEq, and_true, true_and, tErr, tErr0, tFx, tFor, tDisp, tPairs, tLc]
  refine fun a0 H0 s0 _ e0 a1 H1 s1 _ e1 a2 H2 s2 _ e2 a3 H3 s3 _ e3 => ⟨by decide, fun p np => ?_⟩
  have t3 : Same H H3 := s0.trans (s1.trans (s2.trans s3))
  have l0 := e0.same (s1.trans (s2.trans s3))
  have l1 := e1.same (s2.trans s3)
  have l2 := e2.same s3
  have u3 := (L2.Same.refl H3).new np (.lst [V.ref a0, .ref a1, .ref a2, .ref a3])
  refine fun a4 H4 s4 _ e4 a5 H5 s5 _ e5 a6 H6 s6 _ e6 a7 H7 s7 _ e7 => ⟨by decide, fun p2 np2 => ?_⟩
  have t7' := s4.trans (s5.trans (s6.trans s7))
  have t7 : Same H3 H7 := u3.trans t7'
  have hp := t7' p _ upd_same
  have n2 : p ≠ p2 := ne_of_none hp np2
  have m4 := e4.same (s5.trans (s6.trans s7))
  have m5 := e5.same (s6.trans s7)
  have m6 := e6.same s7
  refine ⟨p, p2, _, _, rfl, rfl, by rw [upd_ne n2]; exact hp, upd_same, by simp only [List.length_cons, List.length_nil]; decide, fun p3 np3 => ?_⟩
  generalize hH8 : upd (upd H7 p2 _) p3 _ = H8
  have s8' := (L2.Same.refl H7).new np2 (.lst [V.ref a4, .ref a5, .ref a6, .ref a7])
  have s8 : Same H7 H8 := by rw [← hH8]; exact s8'.new (s8'.free np3) _
  have h8 : H8 p3 = some (.lst [V.ref a0, .ref a1, .ref a2, .ref a3, .ref a4, .ref a5, .ref a6, .ref a7]) := by rw [← hH8]; exact upd_same
  clear hH8
  refine fun a8 H9 s9 _ e8 a9 H10 s10 _ e9 a10 H11 s11 _ e10 a11 H12 s12 _ e11 => ⟨by decide, fun p4 np4 => ?_⟩
  have t12 := s9.trans (s10.trans (s11.trans s12))
  have h12 := t12 _ _ h8
  have n4 : p3 ≠ p4 := ne_of_none h12 np4
  refine ⟨p3, p4, _, _, rfl, rfl, by rw [upd_ne n4]; exact h12, upd_same, by simp only [List.length_cons, List.length_nil]; decide, fun p5 np5 => ?_⟩
  have s13' := (L2.Same.refl H12).new np4 (.lst [V.ref a8, .ref a9, .ref a10, .ref a11])
  have s13 := s13'.new (s13'.free np5) (.lst ([V.ref a0, .ref a1, .ref a2, .ref a3, .ref a4, .ref a5, .ref a6, .ref a7] ++ [V.ref a8, .ref a9, .ref a10, .ref a11]))
  have all : Same H H12 := t3.trans (t7.trans (s8.trans t12))
  have z7 := s8.trans (t12.trans s13)
  have z3 := t7.trans z7
  refine q p5 [a0, a1, a2, a3, a4, a5, a6, a7, a8, a9, a10, a11] _ ((all.trans s13').free np5) (all.trans s13) upd_same ?_
  exact Errs.mk12 (l0.same z3) (l1.same z3) (l2.same z3) (e3.same z3) (m4.same z7) (m5.same z7) (m6.same z7) (e7.same z7) (e8.same ((s10.trans (s11.trans s12)).trans s13)) (e9.same ((s11.trans s12).trans s13)) (e10.same (s12.trans s13)) (e11.same s13)

theorem good_list {H : Hp} {a : Addr} {xs : List V} {ds : List PyData} (h : H a = some (.lst xs)) (z : DVs H false xs ds) (nd : PyData.hasDictAll ds = false) (sh : PyData.showableAll ds = true) (dp : PyData.depthAll ds ≤ 5) (ln : (PyData.list ds).shown.length ≤ 1000) : Good H (.ref a) (.list ds) := by
  have e : (PyData.list ds).hasDict = false := by simpa only [PyData.hasDict] using nd
  refine ⟨by rw [e]; exact .lst (fun c => by cases c) h z, by simpa only [PyData.showable] using sh, by simp only [PyData.depth]; omega, ln⟩
theorem good1 {H : Hp} {a : Addr} (h : H a = some (.lst [.int 1])) : Good H (.ref a) (.list [.int 1]) :=
  good_list h (.cons (.int 1) .nil) (by decide +kernel) (by decide +kernel) (by decide +kernel) (by decide +kernel)
theorem good2 {H : Hp} {a : Addr} (h : H a = some (.lst [.int 1, .str "more"])) : Good H (.ref a) (.list [.int 1, .str "more"]) :=
  good_list h (.cons (.int 1) (.cons (.str "more") .nil)) (by decide +kernel) (by decide +kernel) (by decide +kernel) (by decide +kernel)
theorem Err.upd {H : Hp} {a e C : Addr} {fs : List (Str × V)} {xs : List V} {o : HO} (x : Err H e C fs) (ha : H a = some (.lst xs)) : Err (upd H a o) e C fs := by
  obtain ⟨d, h1, h2⟩ := x
  refine ⟨d, ?_, ?_⟩
  · rw [upd_ne (ne_of h1 ha fun z => by have z' : HO.ext _ = HO.lst _ := z; cases z')]; exact h1
  · rw [upd_ne (ne_of h2 ha fun z => by have z' : HO.ext _ = HO.lst _ := z; cases z')]; exact h2
theorem Errs.upd {T : Txt K mg} {H : Hp} {a : Addr} {as : List Addr} {y : V} {xs : List V} {o : HO} (x : Errs T H as y) (ha : H a = some (.lst xs)) : Errs T (L2.upd H a o) as y := ⟨x.1, fun j C f b h1 h2 h3 => Err.upd (x.2 j C f b h1 h2 h3) ha⟩
theorem tyX_same {H H' : Hp} {x : V} {t : Value} (h : TyX K H x t) (s : Same H H') : TyX K H' x t := by
  cases h with
  | base h =>
    cases h with
    | non => exact .base .non
    | bl b => exact .base (.bl b)
    | int i => exact .base (.int i)
    | str z => exact .base (.str z)
    | flt z => exact .base (.flt z)
    | lst e => exact .base (.lst (s _ _ e))
    | frz e => exact .base (.frz (s _ _ e))
    | tup e => exact .base (.tup (s _ _ e))
    | dK e => exact .base (.dK (s _ _ e))
    | dT e => exact .base (.dT (s _ _ e))
    | ins e cl a b c d => exact .base (.ins (s _ _ e) cl a b c d)
  | byt b => exact .byt b
  | set e => exact .set (s _ _ e)
  | kList e c => exact .kList e c
  | kTuple e c => exact .kTuple e c
  | kDict e c => exact .kDict e c
  | fTuple e => exact .fTuple (s _ _ e)
  | fDict e => exact .fDict (s _ _ e)
theorem ok_law_given_right (T : Txt K mg) : FnG P w K mg base CX0 4 T.a_law_given_right T.fd_law_given_right ["_law_given"] (sp_law_given_right T) := by
  refine okG T.F_law_given_right sc_law_given_right (fun vs H Q E h => ?_) (fun cdv A outer s H vs Q E hG hr h => ?_)
  · obtain ⟨y, rfl, _⟩ := h; rfl
  obtain ⟨y, rfl, h⟩ := h
  have hru := hr.units
  refine ⟨_, (pss_cons (ps_set (i := 1) sc_law_given_right.nd rfl (by first | exact Or.inl rfl | exact Or.inr rfl) (pe_lst (pa_cons (pe_errK T.o_InvalidTree (hr.mono (by first | decide | omega)) (by rfl) (pv 0)) (pa_cons (pe_errK T.o_InvalidAddress (hr.mono (by first | decide | omega)) (by rfl) (pv 0)) (pa_cons (pe_errK T.o_InvalidNumber (hr.mono (by first | decide | omega)) (by rfl) (pv 0)) pa_nil)))))
    (pss_cons (ps_set (i := 1) sc_law_given_right.nd rfl (by first | exact Or.inl rfl | exact Or.inr rfl) (pe_op op_cat (pv 1) (pe_lst (pa_cons (pe_errK T.o_InvalidList (hr.mono (by first | decide | omega)) (by rfl) (pv 0)) (pa_cons (pe_errK T.o_InvalidScript (hr.mono (by first | decide | omega)) (by rfl) (pv 0)) (pa_cons (pe_errK T.o_InvalidMove (hr.mono (by first | decide | omega)) (by rfl) (pv 0)) pa_nil))))))
    (pss_cons (ps_set (i := 1) sc_law_given_right.nd rfl (by first | exact Or.inl rfl | exact Or.inr rfl) (pe_op op_cat (pv 1) (pe_lst (pa_cons (pe_errK T.o_CannotTurn (hr.mono (by first | decide | omega)) (by rfl) (pv 0)) (pa_cons (pe_errK T.o_CannotMove (hr.mono (by first | decide | omega)) (by rfl) (pv 0)) (pa_cons (pe_errK T.o_NotCarried (hr.mono (by first | decide | omega)) (by rfl) (pv 0)) pa_nil))))))
    (pss_cons (ps_set (i := 1) sc_law_given_right.nd rfl (by first | exact Or.inl rfl | exact Or.inr rfl) (pe_op op_cat (pv 1) (pe_lst (pa_cons (pe_errK T.o_InvalidName (hr.mono (by first | decide | omega)) (by rfl) (pv 0)) (pa_cons (pe_errK T.o_TakenName (hr.mono (by first | decide | omega)) (by rfl) (pv 0)) (pa_cons (pe_errK T.o_UnknownName (hr.mono (by first | decide | omega)) (by rfl) (pv 0)) pa_nil))))))
    (pss_cons (ps_set (i := 2) sc_law_given_right.nd rfl (by first | exact Or.inl rfl | exact Or.inr rfl) (pe_call (ok_law_placed T) (hr.mono (by first | decide | omega)) (by rfl) T.m_law_placed T.F_law_placed.kp T.b_law_placed .nil pass0 (pa_cons (pv 0) pa_nil)))
    (pss_cons (ps_if (pw_or (pt_not (pt_val (pe_callG (ok_law_right T) hG (hr.mono (by first | decide | omega)) (by rfl) T.m_law_right T.F_law_right.kp T.b_law_right .nil pass0 (pa_cons (pv 1) (pa_cons (pv 0) pa_nil))))) (pw_or1 (pt_not (pt_val (pe_callG (ok_law_right T) hG (hr.mono (by first | decide | omega)) (by rfl) T.m_law_right T.F_law_right.kp T.b_law_right .nil pass0 (pa_cons (pv 2) (pa_cons (pv 0) pa_nil))))))).pt (pss_one (ps_ret pe_bl)) pss_nil)
    (pss_cons (ps_if (pt_val (pe_callB call_isi (by rfl) T.z_isinstance (by decide +kernel) (pa_cons (pv 0) (pa_cons (pe_bltn (v := .ty "list") (by rfl) T.z_list (by decide +kernel) rfl) pa_nil)))) (pss_one (ps_expr (pe_bm PySem.F.plainAttrs_list PySem.F.slot_list_append PySem.F.type_list_append mt_append (pv 0) (pa_cons pe_str pa_nil)))) pss_nil)
    (pss_one (ps_ret (pe_and (pe_callG (ok_law_right T) hG (hr.mono (by first | decide | omega)) (by rfl) T.m_law_right T.F_law_right.kp T.b_law_right .nil pass0 (pa_cons (pv 1) (pa_cons (pv 0) pa_nil))) (pe_one (pe_callG (ok_law_right T) hG (hr.mono (by first | decide | omega)) (by rfl) T.m_law_right T.F_law_right.kp T.b_law_right .nil pass0 (pa_cons (pv 2) (pa_cons (pv 0) pa_nil)))))))))))))), ?_⟩
  simp only [cxOf_K, tAsg2, tYes, wipe, tSeq, tIfS, tNot, tB, tCB, tCons, tNil, tVar, tC, tTest, tOp, tAnd, tOr, tAsg, gName, tRet, tRetN, tDrop, tNext, tIf, tCall, tTup, tLst, tNotV, tAndV, tOrV, tUn, rI0, rI, rU, rEq, rNe, tM1, tM0, tBM, tBM0, tSl, tPart, tNoPart, iStr, iEnumS, iRng1, iRng2, iList, gSub, tBits, tAug, tPar, L2.start, List.map_cons, List.map_nil, List.length_cons, List.length_nil, List.getElem?_cons_zero, List.getElem?_cons_succ, List.cons_append, List.nil_append, List.append_nil, List.set_cons_zero, List.set_cons_succ, List.replicate_succ, List.replicate_zero, Option.some.injEq, exists_eq_left', V.int.injEq, V.str.injEq, V.ref.injEq, V.bl.injEq, exists_and_left, exists_eq_left, List.cons.injEq, and_true, true_and, tErr, tErr0, tFx, tFor, tDisp, tPairs, tLc]
  have gd : ∃ d, Good H y d := by
    rcases h with ⟨d, _, g, _⟩ | ⟨a, rfl, ha, _⟩
    · exact ⟨d, g⟩
    · exact ⟨_, good1 ha⟩
  obtain ⟨d, gd⟩ := gd
  refine fun a0 H0 s0 _ e0 a1 H1 s1 _ e1 a2 H2 s2 _ e2 => ⟨by decide, fun p np => ?_⟩
  have t2 : Same H H2 := s0.trans (s1.trans s2)
  have l0 := e0.same (s1.trans s2)
  have l1 := e1.same s2
  have u2 := (L2.Same.refl H2).new np (.lst [V.ref a0, .ref a1, .ref a2])
  refine fun a3 H3 s3 _ e3 a4 H4 s4 _ e4 a5 H5 s5 _ e5 => ⟨by decide, fun p2 np2 => ?_⟩
  have t5' := s3.trans (s4.trans s5)
  have hp := t5' p _ upd_same
  have n2 : p ≠ p2 := ne_of_none hp np2
  have m3 := e3.same (s4.trans s5)
  have m4 := e4.same s5
  refine ⟨p, p2, _, _, rfl, rfl, by rw [upd_ne n2]; exact hp, upd_same, by simp only [List.length_cons, List.length_nil]; decide, fun p3 np3 => ?_⟩
  generalize hH6 : upd (upd H5 p2 _) p3 _ = H6
  have s6' := (L2.Same.refl H5).new np2 (.lst [V.ref a3, .ref a4, .ref a5])
  have s6 : Same H5 H6 := by rw [← hH6]; exact s6'.new (s6'.free np3) _
  have h6 : H6 p3 = some (.lst [V.ref a0, .ref a1, .ref a2, .ref a3, .ref a4, .ref a5]) := by rw [← hH6]; exact upd_same
  clear hH6
  refine fun a6 H7 s7 _ e6 a7 H8 s8 _ e7 a8 H9 s9 _ e8 => ⟨by decide, fun p4 np4 => ?_⟩
  have t9' := s7.trans (s8.trans s9)
  have h9 := t9' _ _ h6
  have n4 : p3 ≠ p4 := ne_of_none h9 np4
  refine ⟨p3, p4, _, _, rfl, rfl, by rw [upd_ne n4]; exact h9, upd_same, by simp only [List.length_cons, List.length_nil]; decide, fun p5 np5 => ?_⟩
  generalize hH10 : upd (upd H9 p4 _) p5 _ = H10
  have s10' := (L2.Same.refl H9).new np4 (.lst [V.ref a6, .ref a7, .ref a8])
  have s10 : Same H9 H10 := by rw [← hH10]; exact s10'.new (s10'.free np5) _
  have h10 : H10 p5 = some (.lst [V.ref a0, .ref a1, .ref a2, .ref a3, .ref a4, .ref a5, .ref a6, .ref a7, .ref a8]) := by rw [← hH10]; exact upd_same
  clear hH10
  refine fun a9 H11 s11 _ e9 a10 H12 s12 _ e10 a11 H13 s13 _ e11 => ⟨by decide, fun p6 np6 => ?_⟩
  have t13' := s11.trans (s12.trans s13)
  have h13 := t13' _ _ h10
  have n6 : p5 ≠ p6 := ne_of_none h13 np6
  refine ⟨p5, p6, _, _, rfl, rfl, by rw [upd_ne n6]; exact h13, upd_same, by simp only [List.length_cons, List.length_nil]; decide, fun p7 np7 => ?_⟩
  generalize hH14 : upd (upd H13 p6 _) p7 _ = H14
  have s14' := (L2.Same.refl H13).new np6 (.lst [V.ref a9, .ref a10, .ref a11])
  have s14 : Same H13 H14 := by rw [← hH14]; exact s14'.new (s14'.free np7) _
  have h14 : H14 p7 = some (.lst ([a0, a1, a2, a3, a4, a5, a6, a7, a8, a9, a10, a11].map V.ref)) := by rw [← hH14]; exact upd_same
  clear hH14
  have z13 := t13'.trans s14
  have z9 := s10.trans z13
  have z6 := t9'.trans z9
  have z5 := s6.trans z6
  have z2 := (u2.trans t5').trans z5
  have zz : Same H H14 := t2.trans z2
  have en : Errs T H14 [a0, a1, a2, a3, a4, a5, a6, a7, a8, a9, a10, a11] y :=
    Errs.mk12 (l0.same z2) (l1.same z2) (e2.same z2) (m3.same z5) (m4.same z5) (e5.same z5) (e6.same ((s8.trans s9).trans z9)) (e7.same (s9.trans z9)) (e8.same z9) (e9.same ((s12.trans s13).trans s14)) (e10.same (s13.trans s14)) (e11.same s14)
  generalize [a0, a1, a2, a3, a4, a5, a6, a7, a8, a9, a10, a11] = asN at h14 en
  clear z13 z9 z6 z5 z2 l0 l1 e2 m3 m4 e5 e6 e7 e8 e9 e10 e11
  refine ⟨y, rfl, fun pp asP H15 npp s15 h15 eP => ?_⟩
  have k15 := zz.trans s15
  refine ⟨p7, asN, y, d, rfl, s15 _ _ h14, en.same s15, gd.same k15, fun H16 s16 => ?_⟩
  have k16 := k15.trans s16
  refine ⟨true, rfl, ?_⟩
  rw [if_neg (by decide)]
  refine ⟨pp, asP, y, d, rfl, s16 _ _ h15, eP.same s16, gd.same k16, fun H17 s17 => ⟨true, rfl, ?_⟩⟩
  rw [if_neg (by decide)]
  have k17 := k16.trans s17
  have h17 := s17 _ _ (s16 _ _ (s15 _ _ h14))
  have i17 := s17 _ _ (s16 _ _ h15)
  have en17 := en.same (s15.trans (s16.trans s17))
  have ep17 := eP.same (s16.trans s17)
  rcases h with ⟨d', t, g, ht, hk, q⟩ | ⟨a, rfl, ha, q⟩
  · refine ⟨y, _, t, _, false, rfl, .ty _, tyX_same ht k17, hk, false, rfl, ?_⟩
    rw [if_neg (by decide)]
    refine ⟨p7, asN, y, d, rfl, h17, en17, gd.same k17, fun H18 s18 => ⟨true, rfl, ?_⟩⟩
    rw [if_pos rfl]
    exact ⟨pp, asP, y, d, rfl, s18 _ _ i17, ep17.same s18, gd.same (k17.trans s18), fun H19 s19 => q _ (k17.trans (s18.trans s19))⟩
  · have a17 := k17 _ _ ha
    refine ⟨_, _, _, _, true, rfl, .ty _, .base (.lst a17), kit_ty (by decide +kernel), true, rfl, ?_⟩
    rw [if_pos rfl]
    refine ⟨tyV_lst a17, a, _, _, rfl, rfl, a17, by decide, ?_⟩
    have g18 : Good (L2.upd H17 a (.lst ([V.int 1] ++ [V.str "more"]))) (.ref a) (.list [.int 1, .str "more"]) := good2 upd_same
    have n7 := row_ne h17 a17
    have nP := row_ne i17 a17
    refine ⟨p7, asN, .ref a, _, rfl, by rw [upd_ne n7.symm]; exact h17, Errs.upd en17 a17, g18, fun H18 s18 => ⟨true, rfl, ?_⟩⟩
    rw [if_pos rfl]
    refine ⟨pp, asP, .ref a, _, rfl, s18 _ _ (by rw [upd_ne nP.symm]; exact i17), (Errs.upd ep17 a17).same s18, g18.same s18, fun H19 s19 => q _ fun b o nb hb => ?_⟩
    exact s19 _ _ (s18 _ _ (by rw [upd_ne nb]; exact k17 _ _ hb))

theorem intLen {r : Int} (h : r.natAbs < 10 ^ 12) : (Str.ofString (toString r)).length ≤ 13 := by
  rw [ofString_length]
  exact int_text_length_le10 (by decide) h
theorem good_int {H : Hp} {r : Int} (h : r.natAbs < 10 ^ 12) : Good H (.int r) (.int r) := by
  refine ⟨.int r, ?_, by simp [PyData.depth], ?_⟩
  · have : r.natAbs.log2 < 40 := by
      by_cases z : r.natAbs = 0
      · rw [z]; decide
      · exact (Nat.log2_lt z).mpr (Nat.lt_of_lt_of_le h (by decide))
    simp only [PyData.showable]
    exact decide_eq_true (by omega)
  · simp only [PyData.shown]
    have := intLen h
    omega
theorem good_dic {H : Hp} {a : Addr} {r : Int} (h : r.natAbs < 10 ^ 12) (ha : H a = some (.dK [(.inr "a", .int r)])) : Good H (.ref a) (.dict [(.str "a", .int r)]) := by
  have g := good_int (H := H) h
  refine ⟨.dic ha (.cons (k := .inr "a") (.int r) .nil), ?_, by simp [PyData.depth, PyData.depthKv], ?_⟩
  · have := g.sh
    simp only [PyData.showable] at this
    simp only [PyData.showable, PyData.showableKv]
    rw [this]; rfl
  · have := intLen h
    simp only [PyData.shown, PyData.shownKv, dictText, Str.join]
    rw [strLen_append, strLen_append, strLen_append, strLen_append]
    have e1 : ("{" : Str).length = 1 := rfl
    have e2 : (("}" : String) : Str).length = 1 := rfl
    have e3 : (reprText "a").length = 3 := by decide +kernel
    have e4 : ((": " : String) : Str).length = 2 := rfl
    omega
theorem Err.keep {H H' : Hp} {q e C : Addr} {fs : List (Str × V)} {xs : List V} (x : Err H e C fs) (k : Keep q H H') (ha : H q = some (.lst xs)) : Err H' e C fs := by
  obtain ⟨d, h1, h2⟩ := x
  exact ⟨d, k _ _ (ne_of h1 ha fun z => by have z' : HO.ext _ = HO.lst _ := z; cases z') h1, k _ _ (ne_of h2 ha fun z => by have z' : HO.ext _ = HO.lst _ := z; cases z') h2⟩
theorem Errs.keep {T : Txt K mg} {H H' : Hp} {q : Addr} {as : List Addr} {y : V} {xs : List V} (x : Errs T H as y) (k : Keep q H H') (ha : H q = some (.lst xs)) : Errs T H' as y := ⟨x.1, fun j C f b h1 h2 h3 => Err.keep (x.2 j C f b h1 h2 h3) k ha⟩
theorem ok_law (T : Txt K mg) : FnG P w K mg base CX0 5 T.a_law T.fd_law ["_law_script"] (sp_law K) := by
  refine okG T.F_law sc_law (fun vs H Q E h => ?_) (fun cdv A outer s H vs Q E hG hr h => ?_)
  · obtain ⟨a, ns, rfl, _⟩ := h; rfl
  obtain ⟨a, ns, rfl, ha, hl, q⟩ := h
  have hru := hr.units
  refine ⟨_, (pss_cons (ps_set (i := 1) sc_law.nd rfl (by first | exact Or.inl rfl | exact Or.inr rfl) (pe_call (ok_law_random T) (hr.mono (by first | decide | omega)) (by rfl) T.m_law_random T.F_law_random.kp T.b_law_random .nil pass0 (pa_cons (pe_call (ok_law_generator T) (hr.mono (by first | decide | omega)) (by rfl) T.m_law_generator T.F_law_generator.kp T.b_law_generator .nil pass0 (pa_cons (pv 0) (pa_cons pe_int pa_nil))) (pa_cons (pe_op op_powB pe_int pe_int) pa_nil))))
    (pss_cons (ps_set (i := 2) sc_law.nd rfl (by first | exact Or.inl rfl | exact Or.inr rfl) (pe_lst (pa_cons (pe_call (ok_law_placed T) (hr.mono (by first | decide | omega)) (by rfl) T.m_law_placed T.F_law_placed.kp T.b_law_placed .nil pass0 (pa_cons (pv 1) pa_nil)) (pa_cons (pe_call (ok_law_placed T) (hr.mono (by first | decide | omega)) (by rfl) T.m_law_placed T.F_law_placed.kp T.b_law_placed .nil pass0 (pa_cons pe_str pa_nil)) pa_nil))))
    (pss_cons (ps_for PassesOwn.never rfl (pi_list (pe_lst (pa_cons (pv 1) (pa_cons (pe_op op_sub pe_int (pv 1)) (pa_cons (pe_tup (pa_cons pe_str (pa_cons pe_str pa_nil))) (pa_cons (pe_tup pa_nil) (pa_cons (pe_tup (pa_cons pe_int (pa_cons pe_int (pa_cons pe_int pa_nil)))) (pa_cons (pe_lst (pa_cons pe_int pa_nil)) (pa_cons pe_dnewK (pa_cons pe_str (pa_cons pe_str (pa_cons pe_bl (pa_cons pe_non (pa_cons (pe_disp (pps_cons pe_str (pv 1) pps_nil) rfl rfl (by simp) (by decide)) pa_nil)))))))))))))) (pg_name (i := 3) sc_law.nd rfl (by first | exact Or.inl rfl | exact Or.inr rfl)) (pss_one (ps_if (pt_not (pt_val (pe_callG (ok_law_given_right T) hG (hr.mono (by first | decide | omega)) (by rfl) T.m_law_given_right T.F_law_given_right.kp T.b_law_given_right .nil pass0 (pa_cons (pv 3) pa_nil)))) (pss_one (ps_ret pe_bl)) pss_nil)))
    (pss_cons (ps_set (i := 4) sc_law.nd rfl (by first | exact Or.inl rfl | exact Or.inr rfl) (pe_lst (pa_cons (pe_err0 T.o_InvalidTree (hr.mono (by first | decide | omega)) (by rfl)) (pa_cons (pe_err0 T.o_InvalidAddress (hr.mono (by first | decide | omega)) (by rfl)) (pa_cons (pe_err0 T.o_InvalidNumber (hr.mono (by first | decide | omega)) (by rfl)) (pa_cons (pe_err0 T.o_InvalidList (hr.mono (by first | decide | omega)) (by rfl)) (pa_cons (pe_err0 T.o_InvalidScript (hr.mono (by first | decide | omega)) (by rfl)) (pa_cons (pe_err0 T.o_InvalidMove (hr.mono (by first | decide | omega)) (by rfl)) pa_nil))))))))
    (pss_cons (ps_set (i := 4) sc_law.nd rfl (by first | exact Or.inl rfl | exact Or.inr rfl) (pe_op op_cat (pv 4) (pe_lst (pa_cons (pe_err0 T.o_CannotTurn (hr.mono (by first | decide | omega)) (by rfl)) (pa_cons (pe_err0 T.o_CannotMove (hr.mono (by first | decide | omega)) (by rfl)) (pa_cons (pe_err0 T.o_NotCarried (hr.mono (by first | decide | omega)) (by rfl)) (pa_cons (pe_err0 T.o_InvalidName (hr.mono (by first | decide | omega)) (by rfl)) (pa_cons (pe_err0 T.o_TakenName (hr.mono (by first | decide | omega)) (by rfl)) (pa_cons (pe_err0 T.o_UnknownName (hr.mono (by first | decide | omega)) (by rfl)) pa_nil)))))))))
    (pss_cons (ps_if (pw_or (pt_not (pt_val (pe_callG (ok_law_right T) hG (hr.mono (by first | decide | omega)) (by rfl) T.m_law_right T.F_law_right.kp T.b_law_right .nil pass0 (pa_cons (pe_ix ix_list (pv 2) pe_int (fun _ _ => rfl)) (pa_cons (pv 1) pa_nil))))) (pw_or1 (pt_not (pt_val (pe_callG (ok_law_right T) hG (hr.mono (by first | decide | omega)) (by rfl) T.m_law_right T.F_law_right.kp T.b_law_right .nil pass0 (pa_cons (pe_ix ix_list (pv 2) pe_int (fun _ _ => rfl)) (pa_cons pe_str pa_nil))))))).pt (pss_one (ps_ret pe_bl)) pss_nil)
    (pss_one (ps_ret (pe_and (pe_callG (ok_law_right T) hG (hr.mono (by first | decide | omega)) (by rfl) T.m_law_right T.F_law_right.kp T.b_law_right .nil pass0 (pa_cons (pv 4) (pa_cons pe_non pa_nil))) (pe_one (pe_cmpR (op_eqD hru) (pe_call (ok_law_kinds T) (hr.mono (by first | decide | omega)) (by rfl) T.m_law_kinds T.F_law_kinds.kp T.b_law_kinds .nil pass0 (pa_cons (pe_bare PySem.F.excBase_ValueError T.q_NothingToUndo T.g_NothingToUndo T.k_NothingToUndo (by rfl)) pa_nil)) (pe_lst (pa_cons pe_int pa_nil)) (nomark _)))))))))))), ?_⟩
  simp only [tErr, tErr0, tDisp, tPairs, tDNewK, cxOf_K, tAsg2, tYes, wipe, tSeq, tIfS, tNot, tB, tCB, tCons, tNil, tVar, tC, tTest, tOp, tAnd, tOr, tAsg, gName, tRet, tRetN, tDrop, tNext, tIf, tCall, tTup, tLst, tNotV, tAndV, tOrV, tUn, rI0, rI, rU, rEq, rNe, tM1, tM0, tBM, tBM0, tSl, tPart, tNoPart, iStr, iEnumS, iRng1, iRng2, iList, gSub, tBits, tAug, tPar, L2.start, List.map_cons, List.map_nil, List.length_cons, List.length_nil, List.getElem?_cons_zero, List.getElem?_cons_succ, List.cons_append, List.nil_append, List.append_nil, List.set_cons_zero, List.set_cons_succ, List.replicate_succ, List.replicate_zero, Option.some.injEq, exists_eq_left', V.int.injEq, V.str.injEq, V.ref.injEq, V.bl.injEq, exists_and_left, exists_eq_left, List.cons.injEq, and_true, true_and]
  refine ⟨a, ns, 0, rfl, ha, fun g Hg ng sg gg => ⟨⟨by decide, by decide +kernel⟩, g, _, 0, rfl, gg, by omega, by decide, by decide, fun r H1 r0 r1 k1 g1 => ?_⟩⟩
  have hr12 : r < 1000000000000 := r1
  refine ⟨.int r, rfl, fun pA asA H2 nA sA hA eA => ⟨.str "kept", rfl, fun pB asB H3 nB sB hB eB => ?_⟩⟩
  have hA3 := sB _ _ hA
  have eA3 := eA.same sB
  clear g1 k1 gg ng sg
  refine ⟨by decide, fun p np => ?_⟩
  have hp : upd H3 p (.lst [V.ref pA, V.ref pB]) p = some _ := upd_same
  have sp := (L2.Same.refl H3).new np (.lst [V.ref pA, V.ref pB])
  generalize upd H3 p _ = H4 at sp hp ⊢
  refine ⟨_, rfl, _, rfl, 0, r, rfl, rfl, by decide, fun q1 n1 => ?_⟩
  have h1 : upd H4 q1 (.tup [V.str "a", V.str "b"]) q1 = some _ := upd_same
  have s1 := (L2.Same.refl H4).new n1 (.tup [V.str "a", V.str "b"])
  generalize upd H4 q1 _ = H5 at s1 h1 ⊢
  refine ⟨by decide, fun q2 n2 => ?_⟩
  have h2 : upd H5 q2 (.tup []) q2 = some _ := upd_same
  have s2 := (L2.Same.refl H5).new n2 (.tup [])
  generalize upd H5 q2 _ = H6 at s2 h2 ⊢
  refine ⟨by decide, fun q3 n3 => ?_⟩
  have h3 : upd H6 q3 (.tup [V.int 1, .int 2, .int 3]) q3 = some _ := upd_same
  have s3 := (L2.Same.refl H6).new n3 (.tup [V.int 1, .int 2, .int 3])
  generalize upd H6 q3 _ = H7 at s3 h3 ⊢
  refine ⟨by decide, fun q4 n4 => ?_⟩
  have h4 : upd H7 q4 (.lst [V.int 1]) q4 = some _ := upd_same
  have s4 := (L2.Same.refl H7).new n4 (.lst [V.int 1])
  generalize upd H7 q4 _ = H8 at s4 h4 ⊢
  refine fun q5 n5 => ?_
  have h5 : upd H8 q5 (.dK []) q5 = some _ := upd_same
  have s5 := (L2.Same.refl H8).new n5 (.dK [])
  generalize upd H8 q5 _ = H9 at s5 h5 ⊢
  refine fun q6 n6 => ⟨_, rfl, upd_same, [(.inr "a", .int r)], rfl, by simp, small5 (by simp), fun q7 n7 => ?_⟩
  rw [upd_upd] at n7 ⊢
  have h6 : upd H9 q6 (.dK (mergeK [] [(Sum.inr "a", V.int r)])) q6 = some (.dK [(.inr "a", .int r)]) := upd_same
  have s6 := (L2.Same.refl H9).new n6 (.dK (mergeK [] [(Sum.inr "a", V.int r)]))
  generalize upd H9 q6 _ = H10 at s6 h6 n7 ⊢
  have h7 : upd H10 q7 (.lst [.int r, .int (0 - r), .ref q1, .ref q2, .ref q3, .ref q4, .ref q5, .str "a b", .str "", .bl true, .non, .ref q6]) q7 = some _ := upd_same
  have s7 := (L2.Same.refl H10).new n7 (.lst [.int r, .int (0 - r), .ref q1, .ref q2, .ref q3, .ref q4, .ref q5, .str "a b", .str "", .bl true, .non, .ref q6])
  generalize upd H10 q7 _ = HL at s7 h7 ⊢
  have z6 := s7
  have z5 := s6.trans z6
  have z4 := s5.trans z5
  have z3 := s4.trans z4
  have z2 := s3.trans z3
  have z1 := s2.trans z2
  have z0 := s1.trans z1
  have w1 := z1 _ _ h1
  have w2 := z2 _ _ h2
  have w3 := z3 _ _ h3
  have w4 := z4 _ _ h4
  have w5 := z5 _ _ h5
  have w6 := z6 _ _ h6
  have wp := z0 _ _ hp
  have wA := z0 _ _ (sp _ _ hA3)
  have wB := z0 _ _ (sp _ _ hB)
  have fA := eA3.same (sp.trans z0)
  have fB := eB.same (sp.trans z0)
  clear s1 s2 s3 s4 s5 s6 s7 h1 h2 h3 h4 h5 h6 z0 z1 z2 z3 z4 z5 z6 sp hp hA3 hB eA3 eB n1 n2 n3 n4 n5 n6 n7
  refine ⟨q7, rfl, ⟨_, SqL.of h7⟩, for_list (K := K) (a := q7) (xs := [.int r, .int (0 - r), .ref q1, .ref q2, .ref q3, .ref q4, .ref q5, .str "a b", .str "", .bl true, .non, .ref q6])
    (fun i σ H' => ∃ x3, σ = [some (.ref a), some (.int r), some (.ref p), x3, none] ∧ Keep q4 HL H' ∧ (i ≤ 5 → H' q4 = some (.lst [.int 1]))) ⟨none, rfl, fun b o _ hb => hb, fun _ => w4⟩ ?_ ?_ ?_⟩
  · rintro i σ H' hi ⟨x3, rfl, k, _⟩
    exact SqL.of (k _ _ (ne_of h7 w4 fun z => by cases z) h7)
  · rintro i x σ H' hi ⟨x3, rfl, k, e4⟩
    have tupN : ∀ {b : Addr} {xs : List V}, HL b = some (.tup xs) → H' b = some (.tup xs) := fun h => k _ _ (ne_of h w4 fun z => by cases z) h
    have dicN : ∀ {b : Addr} {xs : List (Key × V)}, HL b = some (.dK xs) → H' b = some (.dK xs) := fun h => k _ _ (ne_of h w4 fun z => by cases z) h
    have gv : (∃ d t, Good H' x d ∧ TyX K H' x t ∧ PySem.W.kitOne K t (.type "list") = some false) ∨ (x = .ref q4 ∧ H' q4 = some (.lst [.int 1]) ∧ 5 ≤ i) :=
      match i, hi, e4 with
      | 0, hi, _ => by cases hi; exact .inl ⟨_, _, good_int (by omega), .base (.int _), kit_ty (by decide +kernel)⟩
      | 1, hi, _ => by cases hi; exact .inl ⟨_, _, good_int (by omega), .base (.int _), kit_ty (by decide +kernel)⟩
      | 2, hi, _ => by cases hi; exact .inl ⟨.tuple [.str "a", .str "b"], _, ⟨.tup (tupN w1) (.cons (.str _) (.cons (.str _) .nil)), by decide +kernel, by decide +kernel, by decide +kernel⟩, .base (.tup (tupN w1)), kit_ty (by decide +kernel)⟩
      | 3, hi, _ => by cases hi; exact .inl ⟨.tuple [], _, ⟨.tup (tupN w2) .nil, by decide +kernel, by decide +kernel, by decide +kernel⟩, .base (.tup (tupN w2)), kit_ty (by decide +kernel)⟩
      | 4, hi, _ => by cases hi; exact .inl ⟨.tuple [.int 1, .int 2, .int 3], _, ⟨.tup (tupN w3) (.cons (.int _) (.cons (.int _) (.cons (.int _) .nil))), by decide +kernel, by decide +kernel, by decide +kernel⟩, .base (.tup (tupN w3)), kit_ty (by decide +kernel)⟩
      | 5, hi, e => by cases hi; exact .inr ⟨rfl, e (by decide), by decide⟩
      | 6, hi, _ => by cases hi; exact .inl ⟨.dict [], _, ⟨.dic (dicN w5) .nil, by decide +kernel, by decide +kernel, by decide +kernel⟩, .base (.dK (dicN w5)), kit_ty (by decide +kernel)⟩
      | 7, hi, _ => by cases hi; exact .inl ⟨.str "a b", _, ⟨.str _, by decide +kernel, by decide +kernel, by decide +kernel⟩, .base (.str _), kit_ty (by decide +kernel)⟩
      | 8, hi, _ => by cases hi; exact .inl ⟨.str "", _, ⟨.str _, by decide +kernel, by decide +kernel, by decide +kernel⟩, .base (.str _), kit_ty (by decide +kernel)⟩
      | 9, hi, _ => by cases hi; exact .inl ⟨.bool true, _, ⟨.bl _, by decide +kernel, by decide +kernel, by decide +kernel⟩, .base (.bl _), kit_ty (by decide +kernel)⟩
      | 10, hi, _ => by cases hi; exact .inl ⟨.none, _, ⟨.non, by decide +kernel, by decide +kernel, by decide +kernel⟩, .base .non, kit_ty (by decide +kernel)⟩
      | 11, hi, _ => by cases hi; exact .inl ⟨_, _, good_dic (by omega) (dicN w6), .base (.dK (dicN w6)), kit_ty (by decide +kernel)⟩
      | n + 12, hi, _ => by cases hi
    simp only [cxOf_K, tAsg2, tYes, wipe, tSeq, tIfS, tNot, tB, tCB, tCons, tNil, tVar, tC, tTest, tOp, tAnd, tOr, tAsg, gName, tRet, tRetN, tDrop, tNext, tIf, tCall, tTup, tLst, tNotV, tAndV, tOrV, tUn, rI0, rI, rU, rEq, rNe, tM1, tM0, tBM, tBM0, tSl, tPart, tNoPart, iStr, iEnumS, iRng1, iRng2, iList, gSub, tBits, tAug, tPar, L2.start, List.map_cons, List.map_nil, List.length_cons, List.length_nil, List.getElem?_cons_zero, List.getElem?_cons_succ, List.cons_append, List.nil_append, List.append_nil, List.set_cons_zero, List.set_cons_succ, List.replicate_succ, List.replicate_zero, Option.some.injEq, exists_eq_left', V.int.injEq, V.str.injEq, V.ref.injEq, V.bl.injEq, exists_and_left, exists_eq_left, List.cons.injEq, and_true, true_and]
    rcases gv with ⟨d, t, g, ty, kt⟩ | ⟨rfl, e, l5⟩
    · refine ⟨x, rfl, .inl ⟨d, t, g, ty, kt, fun H2 s2 => ⟨true, rfl, ?_⟩⟩⟩
      rw [if_neg (by decide)]
      exact ⟨fun b o nb hb => s2 _ _ (k b o nb hb), fun l => s2 _ _ (e4 (by omega))⟩
    · refine ⟨.ref q4, rfl, .inr ⟨q4, rfl, e, fun H2 k2 => ⟨true, rfl, ?_⟩⟩⟩
      rw [if_neg (by decide)]
      exact ⟨fun b o nb hb => k2 b o nb (k b o nb hb), fun l => by omega⟩
  · rintro σ HE ⟨x3, rfl, k, _⟩
    have eAE : Errs T HE asA (.int r) := fA.keep k w4
    have eBE : Errs T HE asB (.str "kept") := fB.keep k w4
    have pE := k _ _ (ne_of wp w4 fun z => by cases z) wp
    have aE := k _ _ (row_ne wA w4).symm wA
    have bE := k _ _ (row_ne wB w4).symm wB
    clear w1 w2 w3 w4 w5 w6 wp wA wB fA fB h7 k
    simp only [tErr, tErr0, cxOf_K, tAsg2, tYes, wipe, tSeq, tIfS, tNot, tB, tCB, tCons, tNil, tVar, tC, tTest, tOp, tAnd, tOr, tAsg, gName, tRet, tRetN, tDrop, tNext, tIf, tCall, tTup, tLst, tNotV, tAndV, tOrV, tUn, rI0, rI, rU, rEq, rNe, tM1, tM0, tBM, tBM0, tSl, tPart, tNoPart, iStr, iEnumS, iRng1, iRng2, iList, gSub, tBits, tAug, tPar, L2.start, List.map_cons, List.map_nil, List.length_cons, List.length_nil, List.getElem?_cons_zero, List.getElem?_cons_succ, List.cons_append, List.nil_append, List.append_nil, List.set_cons_zero, List.set_cons_succ, List.replicate_succ, List.replicate_zero, Option.some.injEq, exists_eq_left', V.int.injEq, V.str.injEq, V.ref.injEq, V.bl.injEq, exists_and_left, exists_eq_left, List.cons.injEq, and_true, true_and]
    refine fun a0 H0 s0 _ e0 a1 H1 s1 _ e1 a2 H2 s2 _ e2 a3 H3 s3 _ e3 a4 H4 s4 _ e4 a5 H5 s5 _ e5 => ⟨by decide, fun p1 np1 => ?_⟩
    have u5 := (L2.Same.refl H5).new np1 (.lst [V.ref a0, .ref a1, .ref a2, .ref a3, .ref a4, .ref a5])
    refine fun a6 H6 s6 _ e6 a7 H7 s7 _ e7 a8 H8 s8 _ e8 a9 H9 s9 _ e9 a10 H10 s10 _ e10 a11 H11 s11 _ e11 => ⟨by decide, fun p2 np2 => ?_⟩
    have t11 := s6.trans (s7.trans (s8.trans (s9.trans (s10.trans s11))))
    have hp1 := t11 p1 _ upd_same
    have n2 : p1 ≠ p2 := ne_of_none hp1 np2
    refine ⟨p1, p2, _, _, rfl, rfl, by rw [upd_ne n2]; exact hp1, upd_same, by simp only [List.length_cons, List.length_nil]; decide, fun p3 np3 => ?_⟩
    generalize hH12 : upd (upd H11 p2 _) p3 _ = H12
    have s12' := (L2.Same.refl H11).new np2 (.lst [V.ref a6, .ref a7, .ref a8, .ref a9, .ref a10, .ref a11])
    have s12 : Same H11 H12 := by rw [← hH12]; exact s12'.new (s12'.free np3) _
    have h12 : H12 p3 = some (.lst ([a0, a1, a2, a3, a4, a5, a6, a7, a8, a9, a10, a11].map V.ref)) := by rw [← hH12]; exact upd_same
    clear hH12
    have z11 := s12
    have z10 := s11.trans z11
    have z9 := s10.trans z10
    have z8 := s9.trans z9
    have z7 := s8.trans z8
    have z6 := s7.trans z7
    have z5 := (u5.trans s6).trans z6
    have z4 := s5.trans z5
    have z3 := s4.trans z4
    have z2 := s3.trans z3
    have z1 := s2.trans z2
    have z0 := s1.trans z1
    have zz : Same HE H12 := s0.trans z0
    have en : Errs T H12 [a0, a1, a2, a3, a4, a5, a6, a7, a8, a9, a10, a11] .non := Errs.mk12 (e0.same z0) (e1.same z1) (e2.same z2) (e3.same z3) (e4.same z4) (e5.same z5) (e6.same z6) (e7.same z7) (e8.same z8) (e9.same z9) (e10.same z10) (e11.same z11)
    generalize [a0, a1, a2, a3, a4, a5, a6, a7, a8, a9, a10, a11] = asN at h12 en
    have eA2 := eAE.same zz
    have eB2 := eBE.same zz
    have p2E := zz _ _ pE
    have a2E := zz _ _ aE
    have b2E := zz _ _ bE
    clear z0 z1 z2 z3 z4 z5 z6 z7 z8 z9 z10 z11 e0 e1 e2 e3 e4 e5 e6 e7 e8 e9 e10 e11
    refine ⟨p, _, 0, .ref pA, rfl, rfl, SqL.of p2E, rfl, ?_⟩
    refine ⟨pA, asA, .int r, _, rfl, a2E, eA2, good_int (by omega), fun H13 s13 => ⟨true, rfl, ?_⟩⟩
    rw [if_neg (by decide)]
    refine ⟨p, _, 1, .ref pB, rfl, rfl, SqL.of (s13 _ _ p2E), rfl, ?_⟩
    refine ⟨pB, asB, .str "kept", .str "kept", rfl, s13 _ _ b2E, eB2.same s13, ⟨.str _, by decide +kernel, by decide +kernel, by decide +kernel⟩, fun H14 s14 => ⟨true, rfl, ?_⟩⟩
    rw [if_neg (by decide)]
    have s34 := s13.trans s14
    refine ⟨p3, asN, .non, .none, rfl, s34 _ _ h12, en.same s34, ⟨.non, by decide +kernel, by decide +kernel, by decide +kernel⟩, fun H15 s15 => ⟨true, rfl, ?_⟩⟩
    rw [if_pos rfl]
    intro eN nN
    refine ⟨eN, 12, T.c_NothingToUndo, rfl, rfl, .inr upd_same, fun pk H16 nk sk hk => ⟨by decide, fun pz nz => ?_⟩⟩
    have hk2 : upd H16 pz (.lst [V.int 12]) pk = some (.lst [.int 12]) := by rw [upd_ne (ne_of_none hk nz)]; exact hk
    refine ⟨.list [.int 12], .list [.int 12], .lst (SqL.of hk2) (.cons (.int 12) .nil), .lst (SqL.of upd_same) (.cons (.int 12) .nil), by decide +kernel, by decide +kernel, ?_⟩
    rw [show PyData.eqv (.list [.int 12]) (.list [.int 12]) = true by decide +kernel]
    exact q _

/-! ### what the classes must say -/
section
variable {K : PySem.W.Frag} {mg : Str → Option Value} {h : Heap} {C : Addr} {bm : List Value} {nm q : Str} {N : Addr} {bs : List Value} {sn : List Str} {sub : List Value} {ab : Bool} {col : Option Bool} {dd : Option Addr} {k0 k1 k2 k3 k5 : Option Value}
theorem cls_mk (l : K.lookup C = some (excClassObj nm q C N bs bm true sn sub ab col dd k0 k1 k2 k3 k5 "ValueError.__new__")) (r : PySem.HandSPX.refsVE bm = true) (ga : PySem.W.findIn K (.ref C) "__getattribute__" = some (some (.builtin "BaseException.__getattribute__"))) (gg : PySem.W.findIn K (.ref C) "__getattr__" = some none)
    (ha : PySem.W.findIn K (.ref C) "__class__" = some (some (.builtin "object.__class__"))) (hn : PySem.W.specialIn K (.builtin "object.__class__") "__get__" = some (some (.builtin "getset_descriptor.__get__"))) (ht : PySem.W.takesIn K (.builtin "object.__class__") = some true) :
    ErrC K C (.ref C :: bm) ∧ XfC K C := by
  have c : PySem.W.clsIn K C = some { name := nm, bases := bs, mro := .ref C :: bm, ns := N, qualname := q, hasDict := true, slotNames := sn, subclasses := sub, abstract := ab, collection := col, hasDel := false } := by unfold PySem.W.clsIn; rw [l] <;> rfl
  have sub : ∀ Y : String, PySem.HandSPX.veTail.contains (.type Y) = true → PySem.W.mroIn K C (.type Y) = some true := fun Y z => by
    unfold PySem.W.mroIn
    rw [c, Option.bind_some, List.contains_cons, PySem.HandSPX.refsVE_contains Y bm r, z, Bool.or_true]
    rfl
  have hd : PySem.W.hasDictIn K C = true := by unfold PySem.W.hasDictIn; rw [c]; rfl
  have sb : PySem.W.subIn K (.ref C) (.type "BaseException") = some true := sub "BaseException" (by decide +kernel)
  have ty : PySem.W.typeIn K (.ref C) = some (.type "type") := by show (K.lookup C).map (·.cls) = _; rw [l] <;> rfl
  exact ⟨⟨by rw [c]; rfl, ty, ⟨ga, gg, sb, hd, ha, hn, ht, sub "object" (by decide +kernel)⟩⟩, ⟨ga, gg, sb, hd⟩⟩
theorem oex_mk (l : K.lookup C = some (excClassObj nm q C N bs bm true sn sub ab col dd k0 k1 k2 k3 k5 "ValueError.__new__")) (r : PySem.HandSPX.refsVE bm = true) (sa : PySem.W.findIn K (.ref C) "__setattr__" = some (some (.builtin "object.__setattr__"))) (kC : PySem.W.keepIn K (.ref C) = true)
    (e : ErrC K C (.ref C :: bm)) : OexC K C := ⟨⟨_, _, _, _, _, _, _, _, _, _, _, _, _, _, _, l, r⟩, sa, e.ec.hs, e.ty, kC⟩
variable {st : Stmt} {fI TT0 : Addr} {od td : Option Addr} {kV doc pm cdv ct tc : Value} {an : Option Addr} {osl ts : Array (Option Value)} {n : Nat} {qual : Str}
theorem fund_mk (l : K.lookup fI = some ⟨.type "function", od, .func (PySem.W.fnOf "__init__" qual (defArgs st) (defBody st) (defScope st) (.ref TT0) kV doc pm an cdv ct), osl⟩) (c : PySem.W.codeIn K cdv qual = true) (lT : K.lookup TT0 = some ⟨tc, td, .seq #[.none] n, ts⟩) :
    FunD K "__init__" qual (defArgs st) (defBody st) (defScope st) [.non] [] fI (PySem.W.fnOf "__init__" qual (defArgs st) (defBody st) (defScope st) (.ref TT0) kV doc pm an cdv ct) :=
  ⟨⟨_, od, _, kV, doc, pm, an, cdv, ct, osl, rfl, l, c, .inr ⟨by simp, TT0, _, [.none], n, rfl, lT, rfl, .cons rfl .nil⟩, .inl rfl⟩, by unfold PySem.W.keepIn; dsimp only; rw [l] <;> rfl⟩
theorem fty (l : K.lookup fI = some ⟨.type "function", od, .func (PySem.W.fnOf "__init__" qual (defArgs st) (defBody st) (defScope st) (.ref TT0) kV doc pm an cdv ct), osl⟩) : PySem.W.typeIn K (.ref fI) = some (.type "function") := by
  show (K.lookup fI).map (·.cls) = _
  rw [l] <;> rfl
end
theorem own_InvalidTree {h : Heap} {C fI : Addr} {fd : FuncData} (X : K.In h) (G : h.Ns mainGlobals mg) (m : PySem.W.nsIn K mainGlobals "InvalidTree" = some (some (.ref C))) (ox : OexC K C) (no : PySem.W.findIn K (.ref C) "value" = some none)
    (iC : PySem.W.findIn K (.ref C) "__init__" = some (some (.ref fI))) (tI : PySem.W.typeIn K (.ref fI) = some (.type "function")) (F : FunD K "__init__" "InvalidTree.__init__" (defArgs i_InvalidTree) (defBody i_InvalidTree) (defScope i_InvalidTree) [.non] [] fI fd) : OwnE K mg "InvalidTree" C "value" "value" := by
  refine ⟨PySem.W.mg_of X G m, ox, fI, fd, iC, tI, F.binds1 1 0 (by simp) rfl (fun _ _ _ _ _ _ _ us its h1 h2 => match us, its, h1, h2 with | [_], [_], _, _ => ⟨_, rfl, rfl⟩), ?_, kbinds1 F (by simp) (fun _ _ _ _ _ _ _ us its ws h1 h2 h3 => match us, its, ws, h1, h2, h3 with | [_], [_], [_], _, _, _ => ⟨_, rfl, rfl⟩), fun P w base => ?_⟩
  · obtain ⟨ds, hd, b⟩ := F.binds1 (ps := ["self", "value"]) 2 1 (by simp) rfl (fun _ _ _ _ _ _ _ us its h1 h2 => match us, its, h1, h2 with | [_, _], [_], _, _ => ⟨_, rfl, rfl⟩)
    cases hd
    exact b
  · refine FunD.ok F si_InvalidTree (fun vs H Q E h => ?_) (fun cdv A outer s H vs Q E hr h => ?_)
    · obtain ⟨a, y, rfl, _⟩ := h; rfl
    obtain ⟨a, y, rfl, ha, q⟩ := h
    refine ⟨_, pss_one (ps_ost (pv 0) (pv 1)), ?_⟩
    simp only [tOst, cxOf_K, tAsg2, tYes, wipe, tSeq, tIfS, tNot, tB, tCB, tCons, tNil, tVar, tC, tTest, tOp, tAnd, tOr, tAsg, gName, tRet, tRetN, tDrop, tNext, tIf, tCall, tTup, tLst, tNotV, tAndV, tOrV, tUn, rI0, rI, rU, rEq, rNe, tM1, tM0, tBM, tBM0, tSl, tPart, tNoPart, iStr, iEnumS, iRng1, iRng2, iList, gSub, tBits, tAug, tPar, L2.start, List.map_cons, List.map_nil, List.length_cons, List.length_nil, List.getElem?_cons_zero, List.getElem?_cons_succ, List.cons_append, List.nil_append, List.append_nil, List.set_cons_zero, List.set_cons_succ, List.replicate_succ, List.replicate_zero, Option.some.injEq, exists_eq_left', V.int.injEq, V.str.injEq, V.ref.injEq, V.bl.injEq, exists_and_left, exists_eq_left, List.cons.injEq, and_true, true_and]
    exact ⟨C, ox, no, .inl ⟨ha, q⟩⟩
theorem own_InvalidAddress {h : Heap} {C fI : Addr} {fd : FuncData} (X : K.In h) (G : h.Ns mainGlobals mg) (m : PySem.W.nsIn K mainGlobals "InvalidAddress" = some (some (.ref C))) (ox : OexC K C) (no : PySem.W.findIn K (.ref C) "value" = some none)
    (iC : PySem.W.findIn K (.ref C) "__init__" = some (some (.ref fI))) (tI : PySem.W.typeIn K (.ref fI) = some (.type "function")) (F : FunD K "__init__" "InvalidAddress.__init__" (defArgs i_InvalidAddress) (defBody i_InvalidAddress) (defScope i_InvalidAddress) [.non] [] fI fd) : OwnE K mg "InvalidAddress" C "value" "value" := by
  refine ⟨PySem.W.mg_of X G m, ox, fI, fd, iC, tI, F.binds1 1 0 (by simp) rfl (fun _ _ _ _ _ _ _ us its h1 h2 => match us, its, h1, h2 with | [_], [_], _, _ => ⟨_, rfl, rfl⟩), ?_, kbinds1 F (by simp) (fun _ _ _ _ _ _ _ us its ws h1 h2 h3 => match us, its, ws, h1, h2, h3 with | [_], [_], [_], _, _, _ => ⟨_, rfl, rfl⟩), fun P w base => ?_⟩
  · obtain ⟨ds, hd, b⟩ := F.binds1 (ps := ["self", "value"]) 2 1 (by simp) rfl (fun _ _ _ _ _ _ _ us its h1 h2 => match us, its, h1, h2 with | [_, _], [_], _, _ => ⟨_, rfl, rfl⟩)
    cases hd
    exact b
  · refine FunD.ok F si_InvalidAddress (fun vs H Q E h => ?_) (fun cdv A outer s H vs Q E hr h => ?_)
    · obtain ⟨a, y, rfl, _⟩ := h; rfl
    obtain ⟨a, y, rfl, ha, q⟩ := h
    refine ⟨_, pss_one (ps_ost (pv 0) (pv 1)), ?_⟩
    simp only [tOst, cxOf_K, tAsg2, tYes, wipe, tSeq, tIfS, tNot, tB, tCB, tCons, tNil, tVar, tC, tTest, tOp, tAnd, tOr, tAsg, gName, tRet, tRetN, tDrop, tNext, tIf, tCall, tTup, tLst, tNotV, tAndV, tOrV, tUn, rI0, rI, rU, rEq, rNe, tM1, tM0, tBM, tBM0, tSl, tPart, tNoPart, iStr, iEnumS, iRng1, iRng2, iList, gSub, tBits, tAug, tPar, L2.start, List.map_cons, List.map_nil, List.length_cons, List.length_nil, List.getElem?_cons_zero, List.getElem?_cons_succ, List.cons_append, List.nil_append, List.append_nil, List.set_cons_zero, List.set_cons_succ, List.replicate_succ, List.replicate_zero, Option.some.injEq, exists_eq_left', V.int.injEq, V.str.injEq, V.ref.injEq, V.bl.injEq, exists_and_left, exists_eq_left, List.cons.injEq, and_true, true_and]
    exact ⟨C, ox, no, .inl ⟨ha, q⟩⟩
theorem own_InvalidNumber {h : Heap} {C fI : Addr} {fd : FuncData} (X : K.In h) (G : h.Ns mainGlobals mg) (m : PySem.W.nsIn K mainGlobals "InvalidNumber" = some (some (.ref C))) (ox : OexC K C) (no : PySem.W.findIn K (.ref C) "value" = some none)
    (iC : PySem.W.findIn K (.ref C) "__init__" = some (some (.ref fI))) (tI : PySem.W.typeIn K (.ref fI) = some (.type "function")) (F : FunD K "__init__" "InvalidNumber.__init__" (defArgs i_InvalidNumber) (defBody i_InvalidNumber) (defScope i_InvalidNumber) [.non] [] fI fd) : OwnE K mg "InvalidNumber" C "value" "value" := by
  refine ⟨PySem.W.mg_of X G m, ox, fI, fd, iC, tI, F.binds1 1 0 (by simp) rfl (fun _ _ _ _ _ _ _ us its h1 h2 => match us, its, h1, h2 with | [_], [_], _, _ => ⟨_, rfl, rfl⟩), ?_, kbinds1 F (by simp) (fun _ _ _ _ _ _ _ us its ws h1 h2 h3 => match us, its, ws, h1, h2, h3 with | [_], [_], [_], _, _, _ => ⟨_, rfl, rfl⟩), fun P w base => ?_⟩
  · obtain ⟨ds, hd, b⟩ := F.binds1 (ps := ["self", "value"]) 2 1 (by simp) rfl (fun _ _ _ _ _ _ _ us its h1 h2 => match us, its, h1, h2 with | [_, _], [_], _, _ => ⟨_, rfl, rfl⟩)
    cases hd
    exact b
  · refine FunD.ok F si_InvalidNumber (fun vs H Q E h => ?_) (fun cdv A outer s H vs Q E hr h => ?_)
    · obtain ⟨a, y, rfl, _⟩ := h; rfl
    obtain ⟨a, y, rfl, ha, q⟩ := h
    refine ⟨_, pss_one (ps_ost (pv 0) (pv 1)), ?_⟩
    simp only [tOst, cxOf_K, tAsg2, tYes, wipe, tSeq, tIfS, tNot, tB, tCB, tCons, tNil, tVar, tC, tTest, tOp, tAnd, tOr, tAsg, gName, tRet, tRetN, tDrop, tNext, tIf, tCall, tTup, tLst, tNotV, tAndV, tOrV, tUn, rI0, rI, rU, rEq, rNe, tM1, tM0, tBM, tBM0, tSl, tPart, tNoPart, iStr, iEnumS, iRng1, iRng2, iList, gSub, tBits, tAug, tPar, L2.start, List.map_cons, List.map_nil, List.length_cons, List.length_nil, List.getElem?_cons_zero, List.getElem?_cons_succ, List.cons_append, List.nil_append, List.append_nil, List.set_cons_zero, List.set_cons_succ, List.replicate_succ, List.replicate_zero, Option.some.injEq, exists_eq_left', V.int.injEq, V.str.injEq, V.ref.injEq, V.bl.injEq, exists_and_left, exists_eq_left, List.cons.injEq, and_true, true_and]
    exact ⟨C, ox, no, .inl ⟨ha, q⟩⟩
theorem own_InvalidList {h : Heap} {C fI : Addr} {fd : FuncData} (X : K.In h) (G : h.Ns mainGlobals mg) (m : PySem.W.nsIn K mainGlobals "InvalidList" = some (some (.ref C))) (ox : OexC K C) (no : PySem.W.findIn K (.ref C) "value" = some none)
    (iC : PySem.W.findIn K (.ref C) "__init__" = some (some (.ref fI))) (tI : PySem.W.typeIn K (.ref fI) = some (.type "function")) (F : FunD K "__init__" "InvalidList.__init__" (defArgs i_InvalidList) (defBody i_InvalidList) (defScope i_InvalidList) [.non] [] fI fd) : OwnE K mg "InvalidList" C "value" "value" := by
  refine ⟨PySem.W.mg_of X G m, ox, fI, fd, iC, tI, F.binds1 1 0 (by simp) rfl (fun _ _ _ _ _ _ _ us its h1 h2 => match us, its, h1, h2 with | [_], [_], _, _ => ⟨_, rfl, rfl⟩), ?_, kbinds1 F (by simp) (fun _ _ _ _ _ _ _ us its ws h1 h2 h3 => match us, its, ws, h1, h2, h3 with | [_], [_], [_], _, _, _ => ⟨_, rfl, rfl⟩), fun P w base => ?_⟩
  · obtain ⟨ds, hd, b⟩ := F.binds1 (ps := ["self", "value"]) 2 1 (by simp) rfl (fun _ _ _ _ _ _ _ us its h1 h2 => match us, its, h1, h2 with | [_, _], [_], _, _ => ⟨_, rfl, rfl⟩)
    cases hd
    exact b
  · refine FunD.ok F si_InvalidList (fun vs H Q E h => ?_) (fun cdv A outer s H vs Q E hr h => ?_)
    · obtain ⟨a, y, rfl, _⟩ := h; rfl
    obtain ⟨a, y, rfl, ha, q⟩ := h
    refine ⟨_, pss_one (ps_ost (pv 0) (pv 1)), ?_⟩
    simp only [tOst, cxOf_K, tAsg2, tYes, wipe, tSeq, tIfS, tNot, tB, tCB, tCons, tNil, tVar, tC, tTest, tOp, tAnd, tOr, tAsg, gName, tRet, tRetN, tDrop, tNext, tIf, tCall, tTup, tLst, tNotV, tAndV, tOrV, tUn, rI0, rI, rU, rEq, rNe, tM1, tM0, tBM, tBM0, tSl, tPart, tNoPart, iStr, iEnumS, iRng1, iRng2, iList, gSub, tBits, tAug, tPar, L2.start, List.map_cons, List.map_nil, List.length_cons, List.length_nil, List.getElem?_cons_zero, List.getElem?_cons_succ, List.cons_append, List.nil_append, List.append_nil, List.set_cons_zero, List.set_cons_succ, List.replicate_succ, List.replicate_zero, Option.some.injEq, exists_eq_left', V.int.injEq, V.str.injEq, V.ref.injEq, V.bl.injEq, exists_and_left, exists_eq_left, List.cons.injEq, and_true, true_and]
    exact ⟨C, ox, no, .inl ⟨ha, q⟩⟩
theorem own_InvalidScript {h : Heap} {C fI : Addr} {fd : FuncData} (X : K.In h) (G : h.Ns mainGlobals mg) (m : PySem.W.nsIn K mainGlobals "InvalidScript" = some (some (.ref C))) (ox : OexC K C) (no : PySem.W.findIn K (.ref C) "value" = some none)
    (iC : PySem.W.findIn K (.ref C) "__init__" = some (some (.ref fI))) (tI : PySem.W.typeIn K (.ref fI) = some (.type "function")) (F : FunD K "__init__" "InvalidScript.__init__" (defArgs i_InvalidScript) (defBody i_InvalidScript) (defScope i_InvalidScript) [.non] [] fI fd) : OwnE K mg "InvalidScript" C "value" "value" := by
  refine ⟨PySem.W.mg_of X G m, ox, fI, fd, iC, tI, F.binds1 1 0 (by simp) rfl (fun _ _ _ _ _ _ _ us its h1 h2 => match us, its, h1, h2 with | [_], [_], _, _ => ⟨_, rfl, rfl⟩), ?_, kbinds1 F (by simp) (fun _ _ _ _ _ _ _ us its ws h1 h2 h3 => match us, its, ws, h1, h2, h3 with | [_], [_], [_], _, _, _ => ⟨_, rfl, rfl⟩), fun P w base => ?_⟩
  · obtain ⟨ds, hd, b⟩ := F.binds1 (ps := ["self", "value"]) 2 1 (by simp) rfl (fun _ _ _ _ _ _ _ us its h1 h2 => match us, its, h1, h2 with | [_, _], [_], _, _ => ⟨_, rfl, rfl⟩)
    cases hd
    exact b
  · refine FunD.ok F si_InvalidScript (fun vs H Q E h => ?_) (fun cdv A outer s H vs Q E hr h => ?_)
    · obtain ⟨a, y, rfl, _⟩ := h; rfl
    obtain ⟨a, y, rfl, ha, q⟩ := h
    refine ⟨_, pss_one (ps_ost (pv 0) (pv 1)), ?_⟩
    simp only [tOst, cxOf_K, tAsg2, tYes, wipe, tSeq, tIfS, tNot, tB, tCB, tCons, tNil, tVar, tC, tTest, tOp, tAnd, tOr, tAsg, gName, tRet, tRetN, tDrop, tNext, tIf, tCall, tTup, tLst, tNotV, tAndV, tOrV, tUn, rI0, rI, rU, rEq, rNe, tM1, tM0, tBM, tBM0, tSl, tPart, tNoPart, iStr, iEnumS, iRng1, iRng2, iList, gSub, tBits, tAug, tPar, L2.start, List.map_cons, List.map_nil, List.length_cons, List.length_nil, List.getElem?_cons_zero, List.getElem?_cons_succ, List.cons_append, List.nil_append, List.append_nil, List.set_cons_zero, List.set_cons_succ, List.replicate_succ, List.replicate_zero, Option.some.injEq, exists_eq_left', V.int.injEq, V.str.injEq, V.ref.injEq, V.bl.injEq, exists_and_left, exists_eq_left, List.cons.injEq, and_true, true_and]
    exact ⟨C, ox, no, .inl ⟨ha, q⟩⟩
theorem own_InvalidMove {h : Heap} {C fI : Addr} {fd : FuncData} (X : K.In h) (G : h.Ns mainGlobals mg) (m : PySem.W.nsIn K mainGlobals "InvalidMove" = some (some (.ref C))) (ox : OexC K C) (no : PySem.W.findIn K (.ref C) "value" = some none)
    (iC : PySem.W.findIn K (.ref C) "__init__" = some (some (.ref fI))) (tI : PySem.W.typeIn K (.ref fI) = some (.type "function")) (F : FunD K "__init__" "InvalidMove.__init__" (defArgs i_InvalidMove) (defBody i_InvalidMove) (defScope i_InvalidMove) [.non] [] fI fd) : OwnE K mg "InvalidMove" C "value" "value" := by
  refine ⟨PySem.W.mg_of X G m, ox, fI, fd, iC, tI, F.binds1 1 0 (by simp) rfl (fun _ _ _ _ _ _ _ us its h1 h2 => match us, its, h1, h2 with | [_], [_], _, _ => ⟨_, rfl, rfl⟩), ?_, kbinds1 F (by simp) (fun _ _ _ _ _ _ _ us its ws h1 h2 h3 => match us, its, ws, h1, h2, h3 with | [_], [_], [_], _, _, _ => ⟨_, rfl, rfl⟩), fun P w base => ?_⟩
  · obtain ⟨ds, hd, b⟩ := F.binds1 (ps := ["self", "value"]) 2 1 (by simp) rfl (fun _ _ _ _ _ _ _ us its h1 h2 => match us, its, h1, h2 with | [_, _], [_], _, _ => ⟨_, rfl, rfl⟩)
    cases hd
    exact b
  · refine FunD.ok F si_InvalidMove (fun vs H Q E h => ?_) (fun cdv A outer s H vs Q E hr h => ?_)
    · obtain ⟨a, y, rfl, _⟩ := h; rfl
    obtain ⟨a, y, rfl, ha, q⟩ := h
    refine ⟨_, pss_one (ps_ost (pv 0) (pv 1)), ?_⟩
    simp only [tOst, cxOf_K, tAsg2, tYes, wipe, tSeq, tIfS, tNot, tB, tCB, tCons, tNil, tVar, tC, tTest, tOp, tAnd, tOr, tAsg, gName, tRet, tRetN, tDrop, tNext, tIf, tCall, tTup, tLst, tNotV, tAndV, tOrV, tUn, rI0, rI, rU, rEq, rNe, tM1, tM0, tBM, tBM0, tSl, tPart, tNoPart, iStr, iEnumS, iRng1, iRng2, iList, gSub, tBits, tAug, tPar, L2.start, List.map_cons, List.map_nil, List.length_cons, List.length_nil, List.getElem?_cons_zero, List.getElem?_cons_succ, List.cons_append, List.nil_append, List.append_nil, List.set_cons_zero, List.set_cons_succ, List.replicate_succ, List.replicate_zero, Option.some.injEq, exists_eq_left', V.int.injEq, V.str.injEq, V.ref.injEq, V.bl.injEq, exists_and_left, exists_eq_left, List.cons.injEq, and_true, true_and]
    exact ⟨C, ox, no, .inl ⟨ha, q⟩⟩
theorem own_CannotTurn {h : Heap} {C fI : Addr} {fd : FuncData} (X : K.In h) (G : h.Ns mainGlobals mg) (m : PySem.W.nsIn K mainGlobals "CannotTurn" = some (some (.ref C))) (ox : OexC K C) (no : PySem.W.findIn K (.ref C) "place" = some none)
    (iC : PySem.W.findIn K (.ref C) "__init__" = some (some (.ref fI))) (tI : PySem.W.typeIn K (.ref fI) = some (.type "function")) (F : FunD K "__init__" "CannotTurn.__init__" (defArgs i_CannotTurn) (defBody i_CannotTurn) (defScope i_CannotTurn) [.non] [] fI fd) : OwnE K mg "CannotTurn" C "place" "place" := by
  refine ⟨PySem.W.mg_of X G m, ox, fI, fd, iC, tI, F.binds1 1 0 (by simp) rfl (fun _ _ _ _ _ _ _ us its h1 h2 => match us, its, h1, h2 with | [_], [_], _, _ => ⟨_, rfl, rfl⟩), ?_, kbinds1 F (by simp) (fun _ _ _ _ _ _ _ us its ws h1 h2 h3 => match us, its, ws, h1, h2, h3 with | [_], [_], [_], _, _, _ => ⟨_, rfl, rfl⟩), fun P w base => ?_⟩
  · obtain ⟨ds, hd, b⟩ := F.binds1 (ps := ["self", "place"]) 2 1 (by simp) rfl (fun _ _ _ _ _ _ _ us its h1 h2 => match us, its, h1, h2 with | [_, _], [_], _, _ => ⟨_, rfl, rfl⟩)
    cases hd
    exact b
  · refine FunD.ok F si_CannotTurn (fun vs H Q E h => ?_) (fun cdv A outer s H vs Q E hr h => ?_)
    · obtain ⟨a, y, rfl, _⟩ := h; rfl
    obtain ⟨a, y, rfl, ha, q⟩ := h
    refine ⟨_, pss_one (ps_ost (pv 0) (pv 1)), ?_⟩
    simp only [tOst, cxOf_K, tAsg2, tYes, wipe, tSeq, tIfS, tNot, tB, tCB, tCons, tNil, tVar, tC, tTest, tOp, tAnd, tOr, tAsg, gName, tRet, tRetN, tDrop, tNext, tIf, tCall, tTup, tLst, tNotV, tAndV, tOrV, tUn, rI0, rI, rU, rEq, rNe, tM1, tM0, tBM, tBM0, tSl, tPart, tNoPart, iStr, iEnumS, iRng1, iRng2, iList, gSub, tBits, tAug, tPar, L2.start, List.map_cons, List.map_nil, List.length_cons, List.length_nil, List.getElem?_cons_zero, List.getElem?_cons_succ, List.cons_append, List.nil_append, List.append_nil, List.set_cons_zero, List.set_cons_succ, List.replicate_succ, List.replicate_zero, Option.some.injEq, exists_eq_left', V.int.injEq, V.str.injEq, V.ref.injEq, V.bl.injEq, exists_and_left, exists_eq_left, List.cons.injEq, and_true, true_and]
    exact ⟨C, ox, no, .inl ⟨ha, q⟩⟩
theorem own_CannotMove {h : Heap} {C fI : Addr} {fd : FuncData} (X : K.In h) (G : h.Ns mainGlobals mg) (m : PySem.W.nsIn K mainGlobals "CannotMove" = some (some (.ref C))) (ox : OexC K C) (no : PySem.W.findIn K (.ref C) "value" = some none)
    (iC : PySem.W.findIn K (.ref C) "__init__" = some (some (.ref fI))) (tI : PySem.W.typeIn K (.ref fI) = some (.type "function")) (F : FunD K "__init__" "CannotMove.__init__" (defArgs i_CannotMove) (defBody i_CannotMove) (defScope i_CannotMove) [.non] [] fI fd) : OwnE K mg "CannotMove" C "value" "value" := by
  refine ⟨PySem.W.mg_of X G m, ox, fI, fd, iC, tI, F.binds1 1 0 (by simp) rfl (fun _ _ _ _ _ _ _ us its h1 h2 => match us, its, h1, h2 with | [_], [_], _, _ => ⟨_, rfl, rfl⟩), ?_, kbinds1 F (by simp) (fun _ _ _ _ _ _ _ us its ws h1 h2 h3 => match us, its, ws, h1, h2, h3 with | [_], [_], [_], _, _, _ => ⟨_, rfl, rfl⟩), fun P w base => ?_⟩
  · obtain ⟨ds, hd, b⟩ := F.binds1 (ps := ["self", "value"]) 2 1 (by simp) rfl (fun _ _ _ _ _ _ _ us its h1 h2 => match us, its, h1, h2 with | [_, _], [_], _, _ => ⟨_, rfl, rfl⟩)
    cases hd
    exact b
  · refine FunD.ok F si_CannotMove (fun vs H Q E h => ?_) (fun cdv A outer s H vs Q E hr h => ?_)
    · obtain ⟨a, y, rfl, _⟩ := h; rfl
    obtain ⟨a, y, rfl, ha, q⟩ := h
    refine ⟨_, pss_one (ps_ost (pv 0) (pv 1)), ?_⟩
    simp only [tOst, cxOf_K, tAsg2, tYes, wipe, tSeq, tIfS, tNot, tB, tCB, tCons, tNil, tVar, tC, tTest, tOp, tAnd, tOr, tAsg, gName, tRet, tRetN, tDrop, tNext, tIf, tCall, tTup, tLst, tNotV, tAndV, tOrV, tUn, rI0, rI, rU, rEq, rNe, tM1, tM0, tBM, tBM0, tSl, tPart, tNoPart, iStr, iEnumS, iRng1, iRng2, iList, gSub, tBits, tAug, tPar, L2.start, List.map_cons, List.map_nil, List.length_cons, List.length_nil, List.getElem?_cons_zero, List.getElem?_cons_succ, List.cons_append, List.nil_append, List.append_nil, List.set_cons_zero, List.set_cons_succ, List.replicate_succ, List.replicate_zero, Option.some.injEq, exists_eq_left', V.int.injEq, V.str.injEq, V.ref.injEq, V.bl.injEq, exists_and_left, exists_eq_left, List.cons.injEq, and_true, true_and]
    exact ⟨C, ox, no, .inl ⟨ha, q⟩⟩
theorem own_NotCarried {h : Heap} {C fI : Addr} {fd : FuncData} (X : K.In h) (G : h.Ns mainGlobals mg) (m : PySem.W.nsIn K mainGlobals "NotCarried" = some (some (.ref C))) (ox : OexC K C) (no : PySem.W.findIn K (.ref C) "address" = some none)
    (iC : PySem.W.findIn K (.ref C) "__init__" = some (some (.ref fI))) (tI : PySem.W.typeIn K (.ref fI) = some (.type "function")) (F : FunD K "__init__" "NotCarried.__init__" (defArgs i_NotCarried) (defBody i_NotCarried) (defScope i_NotCarried) [.non] [] fI fd) : OwnE K mg "NotCarried" C "address" "address" := by
  refine ⟨PySem.W.mg_of X G m, ox, fI, fd, iC, tI, F.binds1 1 0 (by simp) rfl (fun _ _ _ _ _ _ _ us its h1 h2 => match us, its, h1, h2 with | [_], [_], _, _ => ⟨_, rfl, rfl⟩), ?_, kbinds1 F (by simp) (fun _ _ _ _ _ _ _ us its ws h1 h2 h3 => match us, its, ws, h1, h2, h3 with | [_], [_], [_], _, _, _ => ⟨_, rfl, rfl⟩), fun P w base => ?_⟩
  · obtain ⟨ds, hd, b⟩ := F.binds1 (ps := ["self", "address"]) 2 1 (by simp) rfl (fun _ _ _ _ _ _ _ us its h1 h2 => match us, its, h1, h2 with | [_, _], [_], _, _ => ⟨_, rfl, rfl⟩)
    cases hd
    exact b
  · refine FunD.ok F si_NotCarried (fun vs H Q E h => ?_) (fun cdv A outer s H vs Q E hr h => ?_)
    · obtain ⟨a, y, rfl, _⟩ := h; rfl
    obtain ⟨a, y, rfl, ha, q⟩ := h
    refine ⟨_, pss_one (ps_ost (pv 0) (pv 1)), ?_⟩
    simp only [tOst, cxOf_K, tAsg2, tYes, wipe, tSeq, tIfS, tNot, tB, tCB, tCons, tNil, tVar, tC, tTest, tOp, tAnd, tOr, tAsg, gName, tRet, tRetN, tDrop, tNext, tIf, tCall, tTup, tLst, tNotV, tAndV, tOrV, tUn, rI0, rI, rU, rEq, rNe, tM1, tM0, tBM, tBM0, tSl, tPart, tNoPart, iStr, iEnumS, iRng1, iRng2, iList, gSub, tBits, tAug, tPar, L2.start, List.map_cons, List.map_nil, List.length_cons, List.length_nil, List.getElem?_cons_zero, List.getElem?_cons_succ, List.cons_append, List.nil_append, List.append_nil, List.set_cons_zero, List.set_cons_succ, List.replicate_succ, List.replicate_zero, Option.some.injEq, exists_eq_left', V.int.injEq, V.str.injEq, V.ref.injEq, V.bl.injEq, exists_and_left, exists_eq_left, List.cons.injEq, and_true, true_and]
    exact ⟨C, ox, no, .inl ⟨ha, q⟩⟩
theorem own_InvalidName {h : Heap} {C fI : Addr} {fd : FuncData} (X : K.In h) (G : h.Ns mainGlobals mg) (m : PySem.W.nsIn K mainGlobals "InvalidName" = some (some (.ref C))) (ox : OexC K C) (no : PySem.W.findIn K (.ref C) "name" = some none)
    (iC : PySem.W.findIn K (.ref C) "__init__" = some (some (.ref fI))) (tI : PySem.W.typeIn K (.ref fI) = some (.type "function")) (F : FunD K "__init__" "InvalidName.__init__" (defArgs i_InvalidName) (defBody i_InvalidName) (defScope i_InvalidName) [.non] [] fI fd) : OwnE K mg "InvalidName" C "name" "name" := by
  refine ⟨PySem.W.mg_of X G m, ox, fI, fd, iC, tI, F.binds1 1 0 (by simp) rfl (fun _ _ _ _ _ _ _ us its h1 h2 => match us, its, h1, h2 with | [_], [_], _, _ => ⟨_, rfl, rfl⟩), ?_, kbinds1 F (by simp) (fun _ _ _ _ _ _ _ us its ws h1 h2 h3 => match us, its, ws, h1, h2, h3 with | [_], [_], [_], _, _, _ => ⟨_, rfl, rfl⟩), fun P w base => ?_⟩
  · obtain ⟨ds, hd, b⟩ := F.binds1 (ps := ["self", "name"]) 2 1 (by simp) rfl (fun _ _ _ _ _ _ _ us its h1 h2 => match us, its, h1, h2 with | [_, _], [_], _, _ => ⟨_, rfl, rfl⟩)
    cases hd
    exact b
  · refine FunD.ok F si_InvalidName (fun vs H Q E h => ?_) (fun cdv A outer s H vs Q E hr h => ?_)
    · obtain ⟨a, y, rfl, _⟩ := h; rfl
    obtain ⟨a, y, rfl, ha, q⟩ := h
    refine ⟨_, pss_one (ps_ost (pv 0) (pv 1)), ?_⟩
    simp only [tOst, cxOf_K, tAsg2, tYes, wipe, tSeq, tIfS, tNot, tB, tCB, tCons, tNil, tVar, tC, tTest, tOp, tAnd, tOr, tAsg, gName, tRet, tRetN, tDrop, tNext, tIf, tCall, tTup, tLst, tNotV, tAndV, tOrV, tUn, rI0, rI, rU, rEq, rNe, tM1, tM0, tBM, tBM0, tSl, tPart, tNoPart, iStr, iEnumS, iRng1, iRng2, iList, gSub, tBits, tAug, tPar, L2.start, List.map_cons, List.map_nil, List.length_cons, List.length_nil, List.getElem?_cons_zero, List.getElem?_cons_succ, List.cons_append, List.nil_append, List.append_nil, List.set_cons_zero, List.set_cons_succ, List.replicate_succ, List.replicate_zero, Option.some.injEq, exists_eq_left', V.int.injEq, V.str.injEq, V.ref.injEq, V.bl.injEq, exists_and_left, exists_eq_left, List.cons.injEq, and_true, true_and]
    exact ⟨C, ox, no, .inl ⟨ha, q⟩⟩
theorem own_TakenName {h : Heap} {C fI : Addr} {fd : FuncData} (X : K.In h) (G : h.Ns mainGlobals mg) (m : PySem.W.nsIn K mainGlobals "TakenName" = some (some (.ref C))) (ox : OexC K C) (no : PySem.W.findIn K (.ref C) "name" = some none)
    (iC : PySem.W.findIn K (.ref C) "__init__" = some (some (.ref fI))) (tI : PySem.W.typeIn K (.ref fI) = some (.type "function")) (F : FunD K "__init__" "TakenName.__init__" (defArgs i_TakenName) (defBody i_TakenName) (defScope i_TakenName) [.non] [] fI fd) : OwnE K mg "TakenName" C "name" "name" := by
  refine ⟨PySem.W.mg_of X G m, ox, fI, fd, iC, tI, F.binds1 1 0 (by simp) rfl (fun _ _ _ _ _ _ _ us its h1 h2 => match us, its, h1, h2 with | [_], [_], _, _ => ⟨_, rfl, rfl⟩), ?_, kbinds1 F (by simp) (fun _ _ _ _ _ _ _ us its ws h1 h2 h3 => match us, its, ws, h1, h2, h3 with | [_], [_], [_], _, _, _ => ⟨_, rfl, rfl⟩), fun P w base => ?_⟩
  · obtain ⟨ds, hd, b⟩ := F.binds1 (ps := ["self", "name"]) 2 1 (by simp) rfl (fun _ _ _ _ _ _ _ us its h1 h2 => match us, its, h1, h2 with | [_, _], [_], _, _ => ⟨_, rfl, rfl⟩)
    cases hd
    exact b
  · refine FunD.ok F si_TakenName (fun vs H Q E h => ?_) (fun cdv A outer s H vs Q E hr h => ?_)
    · obtain ⟨a, y, rfl, _⟩ := h; rfl
    obtain ⟨a, y, rfl, ha, q⟩ := h
    refine ⟨_, pss_one (ps_ost (pv 0) (pv 1)), ?_⟩
    simp only [tOst, cxOf_K, tAsg2, tYes, wipe, tSeq, tIfS, tNot, tB, tCB, tCons, tNil, tVar, tC, tTest, tOp, tAnd, tOr, tAsg, gName, tRet, tRetN, tDrop, tNext, tIf, tCall, tTup, tLst, tNotV, tAndV, tOrV, tUn, rI0, rI, rU, rEq, rNe, tM1, tM0, tBM, tBM0, tSl, tPart, tNoPart, iStr, iEnumS, iRng1, iRng2, iList, gSub, tBits, tAug, tPar, L2.start, List.map_cons, List.map_nil, List.length_cons, List.length_nil, List.getElem?_cons_zero, List.getElem?_cons_succ, List.cons_append, List.nil_append, List.append_nil, List.set_cons_zero, List.set_cons_succ, List.replicate_succ, List.replicate_zero, Option.some.injEq, exists_eq_left', V.int.injEq, V.str.injEq, V.ref.injEq, V.bl.injEq, exists_and_left, exists_eq_left, List.cons.injEq, and_true, true_and]
    exact ⟨C, ox, no, .inl ⟨ha, q⟩⟩
theorem own_UnknownName {h : Heap} {C fI : Addr} {fd : FuncData} (X : K.In h) (G : h.Ns mainGlobals mg) (m : PySem.W.nsIn K mainGlobals "UnknownName" = some (some (.ref C))) (ox : OexC K C) (no : PySem.W.findIn K (.ref C) "name" = some none)
    (iC : PySem.W.findIn K (.ref C) "__init__" = some (some (.ref fI))) (tI : PySem.W.typeIn K (.ref fI) = some (.type "function")) (F : FunD K "__init__" "UnknownName.__init__" (defArgs i_UnknownName) (defBody i_UnknownName) (defScope i_UnknownName) [.non] [] fI fd) : OwnE K mg "UnknownName" C "name" "name" := by
  refine ⟨PySem.W.mg_of X G m, ox, fI, fd, iC, tI, F.binds1 1 0 (by simp) rfl (fun _ _ _ _ _ _ _ us its h1 h2 => match us, its, h1, h2 with | [_], [_], _, _ => ⟨_, rfl, rfl⟩), ?_, kbinds1 F (by simp) (fun _ _ _ _ _ _ _ us its ws h1 h2 h3 => match us, its, ws, h1, h2, h3 with | [_], [_], [_], _, _, _ => ⟨_, rfl, rfl⟩), fun P w base => ?_⟩
  · obtain ⟨ds, hd, b⟩ := F.binds1 (ps := ["self", "name"]) 2 1 (by simp) rfl (fun _ _ _ _ _ _ _ us its h1 h2 => match us, its, h1, h2 with | [_, _], [_], _, _ => ⟨_, rfl, rfl⟩)
    cases hd
    exact b
  · refine FunD.ok F si_UnknownName (fun vs H Q E h => ?_) (fun cdv A outer s H vs Q E hr h => ?_)
    · obtain ⟨a, y, rfl, _⟩ := h; rfl
    obtain ⟨a, y, rfl, ha, q⟩ := h
    refine ⟨_, pss_one (ps_ost (pv 0) (pv 1)), ?_⟩
    simp only [tOst, cxOf_K, tAsg2, tYes, wipe, tSeq, tIfS, tNot, tB, tCB, tCons, tNil, tVar, tC, tTest, tOp, tAnd, tOr, tAsg, gName, tRet, tRetN, tDrop, tNext, tIf, tCall, tTup, tLst, tNotV, tAndV, tOrV, tUn, rI0, rI, rU, rEq, rNe, tM1, tM0, tBM, tBM0, tSl, tPart, tNoPart, iStr, iEnumS, iRng1, iRng2, iList, gSub, tBits, tAug, tPar, L2.start, List.map_cons, List.map_nil, List.length_cons, List.length_nil, List.getElem?_cons_zero, List.getElem?_cons_succ, List.cons_append, List.nil_append, List.append_nil, List.set_cons_zero, List.set_cons_succ, List.replicate_succ, List.replicate_zero, Option.some.injEq, exists_eq_left', V.int.injEq, V.str.injEq, V.ref.injEq, V.bl.injEq, exists_and_left, exists_eq_left, List.cons.injEq, and_true, true_and]
    exact ⟨C, ox, no, .inl ⟨ha, q⟩⟩

end
theorem all_mk {l : PySem.W.OpenLaw} {w : World} {K : PySem.W.Frag} {h : Heap} {mg : Str → Option Value} {fa : Addr} (X : K.In h) (G : h.Ns mainGlobals mg) (hfa : mg "law" = some (.ref fa))
    (hn : PySem.W.specialIn K (.builtin "object.__class__") "__get__" = some (some (.builtin "getset_descriptor.__get__"))) (ht : PySem.W.takesIn K (.builtin "object.__class__") = some true)
    {C_TurnError : Addr}
    {nm_TurnError q_TurnError : Str} {N_TurnError : Addr} {bs_TurnError : List Value} {sn_TurnError : List Str} {sub_TurnError : List Value} {ab_TurnError : Bool} {col_TurnError : Option Bool} {dd_TurnError : Option Addr} {k0_TurnError k1_TurnError k2_TurnError k3_TurnError k5_TurnError : Option Value}
    (m_TurnError : PySem.W.nsIn K mainGlobals "TurnError" = some (some (.ref C_TurnError)))
    (l_TurnError : K.lookup C_TurnError = some (excClassObj nm_TurnError q_TurnError C_TurnError N_TurnError bs_TurnError veL true sn_TurnError sub_TurnError ab_TurnError col_TurnError dd_TurnError k0_TurnError k1_TurnError k2_TurnError k3_TurnError k5_TurnError "ValueError.__new__"))
    (ga_TurnError : PySem.W.findIn K (.ref C_TurnError) "__getattribute__" = some (some (.builtin "BaseException.__getattribute__"))) (gg_TurnError : PySem.W.findIn K (.ref C_TurnError) "__getattr__" = some none) (ha_TurnError : PySem.W.findIn K (.ref C_TurnError) "__class__" = some (some (.builtin "object.__class__")))
    {C_InvalidTree : Addr}
    {nm_InvalidTree q_InvalidTree : Str} {N_InvalidTree : Addr} {bs_InvalidTree : List Value} {sn_InvalidTree : List Str} {sub_InvalidTree : List Value} {ab_InvalidTree : Bool} {col_InvalidTree : Option Bool} {dd_InvalidTree : Option Addr} {k0_InvalidTree k1_InvalidTree k2_InvalidTree k3_InvalidTree k5_InvalidTree : Option Value}
    (m_InvalidTree : PySem.W.nsIn K mainGlobals "InvalidTree" = some (some (.ref C_InvalidTree)))
    (l_InvalidTree : K.lookup C_InvalidTree = some (excClassObj nm_InvalidTree q_InvalidTree C_InvalidTree N_InvalidTree bs_InvalidTree (.ref C_TurnError :: veL) true sn_InvalidTree sub_InvalidTree ab_InvalidTree col_InvalidTree dd_InvalidTree k0_InvalidTree k1_InvalidTree k2_InvalidTree k3_InvalidTree k5_InvalidTree "ValueError.__new__"))
    (ga_InvalidTree : PySem.W.findIn K (.ref C_InvalidTree) "__getattribute__" = some (some (.builtin "BaseException.__getattribute__"))) (gg_InvalidTree : PySem.W.findIn K (.ref C_InvalidTree) "__getattr__" = some none) (ha_InvalidTree : PySem.W.findIn K (.ref C_InvalidTree) "__class__" = some (some (.builtin "object.__class__")))
    (sa_InvalidTree : PySem.W.findIn K (.ref C_InvalidTree) "__setattr__" = some (some (.builtin "object.__setattr__"))) (kC_InvalidTree : PySem.W.keepIn K (.ref C_InvalidTree) = true) (no_InvalidTree : PySem.W.findIn K (.ref C_InvalidTree) "value" = some none)
    {f_InvalidTree T_InvalidTree n_InvalidTree : Nat} {od_InvalidTree td_InvalidTree an_InvalidTree : Option Addr} {kV_InvalidTree doc_InvalidTree pm_InvalidTree cd_InvalidTree ct_InvalidTree tc_InvalidTree : Value} {ol_InvalidTree ts_InvalidTree : Array (Option Value)}
    (iC_InvalidTree : PySem.W.findIn K (.ref C_InvalidTree) "__init__" = some (some (.ref f_InvalidTree)))
    (lf_InvalidTree : K.lookup f_InvalidTree = some ⟨.type "function", od_InvalidTree, .func (PySem.W.fnOf "__init__" "InvalidTree.__init__" (defArgs i_InvalidTree) (defBody i_InvalidTree) (defScope i_InvalidTree) (.ref T_InvalidTree) kV_InvalidTree doc_InvalidTree pm_InvalidTree an_InvalidTree cd_InvalidTree ct_InvalidTree), ol_InvalidTree⟩)
    (cf_InvalidTree : PySem.W.codeIn K cd_InvalidTree "InvalidTree.__init__" = true) (lT_InvalidTree : K.lookup T_InvalidTree = some ⟨tc_InvalidTree, td_InvalidTree, .seq #[.none] n_InvalidTree, ts_InvalidTree⟩)
    {C_InvalidAddress : Addr}
    {nm_InvalidAddress q_InvalidAddress : Str} {N_InvalidAddress : Addr} {bs_InvalidAddress : List Value} {sn_InvalidAddress : List Str} {sub_InvalidAddress : List Value} {ab_InvalidAddress : Bool} {col_InvalidAddress : Option Bool} {dd_InvalidAddress : Option Addr} {k0_InvalidAddress k1_InvalidAddress k2_InvalidAddress k3_InvalidAddress k5_InvalidAddress : Option Value}
    (m_InvalidAddress : PySem.W.nsIn K mainGlobals "InvalidAddress" = some (some (.ref C_InvalidAddress)))
    (l_InvalidAddress : K.lookup C_InvalidAddress = some (excClassObj nm_InvalidAddress q_InvalidAddress C_InvalidAddress N_InvalidAddress bs_InvalidAddress (.ref C_TurnError :: veL) true sn_InvalidAddress sub_InvalidAddress ab_InvalidAddress col_InvalidAddress dd_InvalidAddress k0_InvalidAddress k1_InvalidAddress k2_InvalidAddress k3_InvalidAddress k5_InvalidAddress "ValueError.__new__"))
    (ga_InvalidAddress : PySem.W.findIn K (.ref C_InvalidAddress) "__getattribute__" = some (some (.builtin "BaseException.__getattribute__"))) (gg_InvalidAddress : PySem.W.findIn K (.ref C_InvalidAddress) "__getattr__" = some none) (ha_InvalidAddress : PySem.W.findIn K (.ref C_InvalidAddress) "__class__" = some (some (.builtin "object.__class__")))
    (sa_InvalidAddress : PySem.W.findIn K (.ref C_InvalidAddress) "__setattr__" = some (some (.builtin "object.__setattr__"))) (kC_InvalidAddress : PySem.W.keepIn K (.ref C_InvalidAddress) = true) (no_InvalidAddress : PySem.W.findIn K (.ref C_InvalidAddress) "value" = some none)
    {f_InvalidAddress T_InvalidAddress n_InvalidAddress : Nat} {od_InvalidAddress td_InvalidAddress an_InvalidAddress : Option Addr} {kV_InvalidAddress doc_InvalidAddress pm_InvalidAddress cd_InvalidAddress ct_InvalidAddress tc_InvalidAddress : Value} {ol_InvalidAddress ts_InvalidAddress : Array (Option Value)}
    (iC_InvalidAddress : PySem.W.findIn K (.ref C_InvalidAddress) "__init__" = some (some (.ref f_InvalidAddress)))
    (lf_InvalidAddress : K.lookup f_InvalidAddress = some ⟨.type "function", od_InvalidAddress, .func (PySem.W.fnOf "__init__" "InvalidAddress.__init__" (defArgs i_InvalidAddress) (defBody i_InvalidAddress) (defScope i_InvalidAddress) (.ref T_InvalidAddress) kV_InvalidAddress doc_InvalidAddress pm_InvalidAddress an_InvalidAddress cd_InvalidAddress ct_InvalidAddress), ol_InvalidAddress⟩)
    (cf_InvalidAddress : PySem.W.codeIn K cd_InvalidAddress "InvalidAddress.__init__" = true) (lT_InvalidAddress : K.lookup T_InvalidAddress = some ⟨tc_InvalidAddress, td_InvalidAddress, .seq #[.none] n_InvalidAddress, ts_InvalidAddress⟩)
    {C_InvalidNumber : Addr}
    {nm_InvalidNumber q_InvalidNumber : Str} {N_InvalidNumber : Addr} {bs_InvalidNumber : List Value} {sn_InvalidNumber : List Str} {sub_InvalidNumber : List Value} {ab_InvalidNumber : Bool} {col_InvalidNumber : Option Bool} {dd_InvalidNumber : Option Addr} {k0_InvalidNumber k1_InvalidNumber k2_InvalidNumber k3_InvalidNumber k5_InvalidNumber : Option Value}
    (m_InvalidNumber : PySem.W.nsIn K mainGlobals "InvalidNumber" = some (some (.ref C_InvalidNumber)))
    (l_InvalidNumber : K.lookup C_InvalidNumber = some (excClassObj nm_InvalidNumber q_InvalidNumber C_InvalidNumber N_InvalidNumber bs_InvalidNumber (.ref C_TurnError :: veL) true sn_InvalidNumber sub_InvalidNumber ab_InvalidNumber col_InvalidNumber dd_InvalidNumber k0_InvalidNumber k1_InvalidNumber k2_InvalidNumber k3_InvalidNumber k5_InvalidNumber "ValueError.__new__"))
    (ga_InvalidNumber : PySem.W.findIn K (.ref C_InvalidNumber) "__getattribute__" = some (some (.builtin "BaseException.__getattribute__"))) (gg_InvalidNumber : PySem.W.findIn K (.ref C_InvalidNumber) "__getattr__" = some none) (ha_InvalidNumber : PySem.W.findIn K (.ref C_InvalidNumber) "__class__" = some (some (.builtin "object.__class__")))
    (sa_InvalidNumber : PySem.W.findIn K (.ref C_InvalidNumber) "__setattr__" = some (some (.builtin "object.__setattr__"))) (kC_InvalidNumber : PySem.W.keepIn K (.ref C_InvalidNumber) = true) (no_InvalidNumber : PySem.W.findIn K (.ref C_InvalidNumber) "value" = some none)
    {f_InvalidNumber T_InvalidNumber n_InvalidNumber : Nat} {od_InvalidNumber td_InvalidNumber an_InvalidNumber : Option Addr} {kV_InvalidNumber doc_InvalidNumber pm_InvalidNumber cd_InvalidNumber ct_InvalidNumber tc_InvalidNumber : Value} {ol_InvalidNumber ts_InvalidNumber : Array (Option Value)}
    (iC_InvalidNumber : PySem.W.findIn K (.ref C_InvalidNumber) "__init__" = some (some (.ref f_InvalidNumber)))
    (lf_InvalidNumber : K.lookup f_InvalidNumber = some ⟨.type "function", od_InvalidNumber, .func (PySem.W.fnOf "__init__" "InvalidNumber.__init__" (defArgs i_InvalidNumber) (defBody i_InvalidNumber) (defScope i_InvalidNumber) (.ref T_InvalidNumber) kV_InvalidNumber doc_InvalidNumber pm_InvalidNumber an_InvalidNumber cd_InvalidNumber ct_InvalidNumber), ol_InvalidNumber⟩)
    (cf_InvalidNumber : PySem.W.codeIn K cd_InvalidNumber "InvalidNumber.__init__" = true) (lT_InvalidNumber : K.lookup T_InvalidNumber = some ⟨tc_InvalidNumber, td_InvalidNumber, .seq #[.none] n_InvalidNumber, ts_InvalidNumber⟩)
    {C_InvalidList : Addr}
    {nm_InvalidList q_InvalidList : Str} {N_InvalidList : Addr} {bs_InvalidList : List Value} {sn_InvalidList : List Str} {sub_InvalidList : List Value} {ab_InvalidList : Bool} {col_InvalidList : Option Bool} {dd_InvalidList : Option Addr} {k0_InvalidList k1_InvalidList k2_InvalidList k3_InvalidList k5_InvalidList : Option Value}
    (m_InvalidList : PySem.W.nsIn K mainGlobals "InvalidList" = some (some (.ref C_InvalidList)))
    (l_InvalidList : K.lookup C_InvalidList = some (excClassObj nm_InvalidList q_InvalidList C_InvalidList N_InvalidList bs_InvalidList (.ref C_TurnError :: veL) true sn_InvalidList sub_InvalidList ab_InvalidList col_InvalidList dd_InvalidList k0_InvalidList k1_InvalidList k2_InvalidList k3_InvalidList k5_InvalidList "ValueError.__new__"))
    (ga_InvalidList : PySem.W.findIn K (.ref C_InvalidList) "__getattribute__" = some (some (.builtin "BaseException.__getattribute__"))) (gg_InvalidList : PySem.W.findIn K (.ref C_InvalidList) "__getattr__" = some none) (ha_InvalidList : PySem.W.findIn K (.ref C_InvalidList) "__class__" = some (some (.builtin "object.__class__")))
    (sa_InvalidList : PySem.W.findIn K (.ref C_InvalidList) "__setattr__" = some (some (.builtin "object.__setattr__"))) (kC_InvalidList : PySem.W.keepIn K (.ref C_InvalidList) = true) (no_InvalidList : PySem.W.findIn K (.ref C_InvalidList) "value" = some none)
    {f_InvalidList T_InvalidList n_InvalidList : Nat} {od_InvalidList td_InvalidList an_InvalidList : Option Addr} {kV_InvalidList doc_InvalidList pm_InvalidList cd_InvalidList ct_InvalidList tc_InvalidList : Value} {ol_InvalidList ts_InvalidList : Array (Option Value)}
    (iC_InvalidList : PySem.W.findIn K (.ref C_InvalidList) "__init__" = some (some (.ref f_InvalidList)))
    (lf_InvalidList : K.lookup f_InvalidList = some ⟨.type "function", od_InvalidList, .func (PySem.W.fnOf "__init__" "InvalidList.__init__" (defArgs i_InvalidList) (defBody i_InvalidList) (defScope i_InvalidList) (.ref T_InvalidList) kV_InvalidList doc_InvalidList pm_InvalidList an_InvalidList cd_InvalidList ct_InvalidList), ol_InvalidList⟩)
    (cf_InvalidList : PySem.W.codeIn K cd_InvalidList "InvalidList.__init__" = true) (lT_InvalidList : K.lookup T_InvalidList = some ⟨tc_InvalidList, td_InvalidList, .seq #[.none] n_InvalidList, ts_InvalidList⟩)
    {C_InvalidScript : Addr}
    {nm_InvalidScript q_InvalidScript : Str} {N_InvalidScript : Addr} {bs_InvalidScript : List Value} {sn_InvalidScript : List Str} {sub_InvalidScript : List Value} {ab_InvalidScript : Bool} {col_InvalidScript : Option Bool} {dd_InvalidScript : Option Addr} {k0_InvalidScript k1_InvalidScript k2_InvalidScript k3_InvalidScript k5_InvalidScript : Option Value}
    (m_InvalidScript : PySem.W.nsIn K mainGlobals "InvalidScript" = some (some (.ref C_InvalidScript)))
    (l_InvalidScript : K.lookup C_InvalidScript = some (excClassObj nm_InvalidScript q_InvalidScript C_InvalidScript N_InvalidScript bs_InvalidScript (.ref C_TurnError :: veL) true sn_InvalidScript sub_InvalidScript ab_InvalidScript col_InvalidScript dd_InvalidScript k0_InvalidScript k1_InvalidScript k2_InvalidScript k3_InvalidScript k5_InvalidScript "ValueError.__new__"))
    (ga_InvalidScript : PySem.W.findIn K (.ref C_InvalidScript) "__getattribute__" = some (some (.builtin "BaseException.__getattribute__"))) (gg_InvalidScript : PySem.W.findIn K (.ref C_InvalidScript) "__getattr__" = some none) (ha_InvalidScript : PySem.W.findIn K (.ref C_InvalidScript) "__class__" = some (some (.builtin "object.__class__")))
    (sa_InvalidScript : PySem.W.findIn K (.ref C_InvalidScript) "__setattr__" = some (some (.builtin "object.__setattr__"))) (kC_InvalidScript : PySem.W.keepIn K (.ref C_InvalidScript) = true) (no_InvalidScript : PySem.W.findIn K (.ref C_InvalidScript) "value" = some none)
    {f_InvalidScript T_InvalidScript n_InvalidScript : Nat} {od_InvalidScript td_InvalidScript an_InvalidScript : Option Addr} {kV_InvalidScript doc_InvalidScript pm_InvalidScript cd_InvalidScript ct_InvalidScript tc_InvalidScript : Value} {ol_InvalidScript ts_InvalidScript : Array (Option Value)}
    (iC_InvalidScript : PySem.W.findIn K (.ref C_InvalidScript) "__init__" = some (some (.ref f_InvalidScript)))
    (lf_InvalidScript : K.lookup f_InvalidScript = some ⟨.type "function", od_InvalidScript, .func (PySem.W.fnOf "__init__" "InvalidScript.__init__" (defArgs i_InvalidScript) (defBody i_InvalidScript) (defScope i_InvalidScript) (.ref T_InvalidScript) kV_InvalidScript doc_InvalidScript pm_InvalidScript an_InvalidScript cd_InvalidScript ct_InvalidScript), ol_InvalidScript⟩)
    (cf_InvalidScript : PySem.W.codeIn K cd_InvalidScript "InvalidScript.__init__" = true) (lT_InvalidScript : K.lookup T_InvalidScript = some ⟨tc_InvalidScript, td_InvalidScript, .seq #[.none] n_InvalidScript, ts_InvalidScript⟩)
    {C_InvalidMove : Addr}
    {nm_InvalidMove q_InvalidMove : Str} {N_InvalidMove : Addr} {bs_InvalidMove : List Value} {sn_InvalidMove : List Str} {sub_InvalidMove : List Value} {ab_InvalidMove : Bool} {col_InvalidMove : Option Bool} {dd_InvalidMove : Option Addr} {k0_InvalidMove k1_InvalidMove k2_InvalidMove k3_InvalidMove k5_InvalidMove : Option Value}
    (m_InvalidMove : PySem.W.nsIn K mainGlobals "InvalidMove" = some (some (.ref C_InvalidMove)))
    (l_InvalidMove : K.lookup C_InvalidMove = some (excClassObj nm_InvalidMove q_InvalidMove C_InvalidMove N_InvalidMove bs_InvalidMove (.ref C_TurnError :: veL) true sn_InvalidMove sub_InvalidMove ab_InvalidMove col_InvalidMove dd_InvalidMove k0_InvalidMove k1_InvalidMove k2_InvalidMove k3_InvalidMove k5_InvalidMove "ValueError.__new__"))
    (ga_InvalidMove : PySem.W.findIn K (.ref C_InvalidMove) "__getattribute__" = some (some (.builtin "BaseException.__getattribute__"))) (gg_InvalidMove : PySem.W.findIn K (.ref C_InvalidMove) "__getattr__" = some none) (ha_InvalidMove : PySem.W.findIn K (.ref C_InvalidMove) "__class__" = some (some (.builtin "object.__class__")))
    (sa_InvalidMove : PySem.W.findIn K (.ref C_InvalidMove) "__setattr__" = some (some (.builtin "object.__setattr__"))) (kC_InvalidMove : PySem.W.keepIn K (.ref C_InvalidMove) = true) (no_InvalidMove : PySem.W.findIn K (.ref C_InvalidMove) "value" = some none)
    {f_InvalidMove T_InvalidMove n_InvalidMove : Nat} {od_InvalidMove td_InvalidMove an_InvalidMove : Option Addr} {kV_InvalidMove doc_InvalidMove pm_InvalidMove cd_InvalidMove ct_InvalidMove tc_InvalidMove : Value} {ol_InvalidMove ts_InvalidMove : Array (Option Value)}
    (iC_InvalidMove : PySem.W.findIn K (.ref C_InvalidMove) "__init__" = some (some (.ref f_InvalidMove)))
    (lf_InvalidMove : K.lookup f_InvalidMove = some ⟨.type "function", od_InvalidMove, .func (PySem.W.fnOf "__init__" "InvalidMove.__init__" (defArgs i_InvalidMove) (defBody i_InvalidMove) (defScope i_InvalidMove) (.ref T_InvalidMove) kV_InvalidMove doc_InvalidMove pm_InvalidMove an_InvalidMove cd_InvalidMove ct_InvalidMove), ol_InvalidMove⟩)
    (cf_InvalidMove : PySem.W.codeIn K cd_InvalidMove "InvalidMove.__init__" = true) (lT_InvalidMove : K.lookup T_InvalidMove = some ⟨tc_InvalidMove, td_InvalidMove, .seq #[.none] n_InvalidMove, ts_InvalidMove⟩)
    {C_CannotTurn : Addr}
    {nm_CannotTurn q_CannotTurn : Str} {N_CannotTurn : Addr} {bs_CannotTurn : List Value} {sn_CannotTurn : List Str} {sub_CannotTurn : List Value} {ab_CannotTurn : Bool} {col_CannotTurn : Option Bool} {dd_CannotTurn : Option Addr} {k0_CannotTurn k1_CannotTurn k2_CannotTurn k3_CannotTurn k5_CannotTurn : Option Value}
    (m_CannotTurn : PySem.W.nsIn K mainGlobals "CannotTurn" = some (some (.ref C_CannotTurn)))
    (l_CannotTurn : K.lookup C_CannotTurn = some (excClassObj nm_CannotTurn q_CannotTurn C_CannotTurn N_CannotTurn bs_CannotTurn (.ref C_TurnError :: veL) true sn_CannotTurn sub_CannotTurn ab_CannotTurn col_CannotTurn dd_CannotTurn k0_CannotTurn k1_CannotTurn k2_CannotTurn k3_CannotTurn k5_CannotTurn "ValueError.__new__"))
    (ga_CannotTurn : PySem.W.findIn K (.ref C_CannotTurn) "__getattribute__" = some (some (.builtin "BaseException.__getattribute__"))) (gg_CannotTurn : PySem.W.findIn K (.ref C_CannotTurn) "__getattr__" = some none) (ha_CannotTurn : PySem.W.findIn K (.ref C_CannotTurn) "__class__" = some (some (.builtin "object.__class__")))
    (sa_CannotTurn : PySem.W.findIn K (.ref C_CannotTurn) "__setattr__" = some (some (.builtin "object.__setattr__"))) (kC_CannotTurn : PySem.W.keepIn K (.ref C_CannotTurn) = true) (no_CannotTurn : PySem.W.findIn K (.ref C_CannotTurn) "place" = some none)
    {f_CannotTurn T_CannotTurn n_CannotTurn : Nat} {od_CannotTurn td_CannotTurn an_CannotTurn : Option Addr} {kV_CannotTurn doc_CannotTurn pm_CannotTurn cd_CannotTurn ct_CannotTurn tc_CannotTurn : Value} {ol_CannotTurn ts_CannotTurn : Array (Option Value)}
    (iC_CannotTurn : PySem.W.findIn K (.ref C_CannotTurn) "__init__" = some (some (.ref f_CannotTurn)))
    (lf_CannotTurn : K.lookup f_CannotTurn = some ⟨.type "function", od_CannotTurn, .func (PySem.W.fnOf "__init__" "CannotTurn.__init__" (defArgs i_CannotTurn) (defBody i_CannotTurn) (defScope i_CannotTurn) (.ref T_CannotTurn) kV_CannotTurn doc_CannotTurn pm_CannotTurn an_CannotTurn cd_CannotTurn ct_CannotTurn), ol_CannotTurn⟩)
    (cf_CannotTurn : PySem.W.codeIn K cd_CannotTurn "CannotTurn.__init__" = true) (lT_CannotTurn : K.lookup T_CannotTurn = some ⟨tc_CannotTurn, td_CannotTurn, .seq #[.none] n_CannotTurn, ts_CannotTurn⟩)
    {C_CannotMove : Addr}
    {nm_CannotMove q_CannotMove : Str} {N_CannotMove : Addr} {bs_CannotMove : List Value} {sn_CannotMove : List Str} {sub_CannotMove : List Value} {ab_CannotMove : Bool} {col_CannotMove : Option Bool} {dd_CannotMove : Option Addr} {k0_CannotMove k1_CannotMove k2_CannotMove k3_CannotMove k5_CannotMove : Option Value}
    (m_CannotMove : PySem.W.nsIn K mainGlobals "CannotMove" = some (some (.ref C_CannotMove)))
    (l_CannotMove : K.lookup C_CannotMove = some (excClassObj nm_CannotMove q_CannotMove C_CannotMove N_CannotMove bs_CannotMove (.ref C_TurnError :: veL) true sn_CannotMove sub_CannotMove ab_CannotMove col_CannotMove dd_CannotMove k0_CannotMove k1_CannotMove k2_CannotMove k3_CannotMove k5_CannotMove "ValueError.__new__"))
    (ga_CannotMove : PySem.W.findIn K (.ref C_CannotMove) "__getattribute__" = some (some (.builtin "BaseException.__getattribute__"))) (gg_CannotMove : PySem.W.findIn K (.ref C_CannotMove) "__getattr__" = some none) (ha_CannotMove : PySem.W.findIn K (.ref C_CannotMove) "__class__" = some (some (.builtin "object.__class__")))
    (sa_CannotMove : PySem.W.findIn K (.ref C_CannotMove) "__setattr__" = some (some (.builtin "object.__setattr__"))) (kC_CannotMove : PySem.W.keepIn K (.ref C_CannotMove) = true) (no_CannotMove : PySem.W.findIn K (.ref C_CannotMove) "value" = some none)
    {f_CannotMove T_CannotMove n_CannotMove : Nat} {od_CannotMove td_CannotMove an_CannotMove : Option Addr} {kV_CannotMove doc_CannotMove pm_CannotMove cd_CannotMove ct_CannotMove tc_CannotMove : Value} {ol_CannotMove ts_CannotMove : Array (Option Value)}
    (iC_CannotMove : PySem.W.findIn K (.ref C_CannotMove) "__init__" = some (some (.ref f_CannotMove)))
    (lf_CannotMove : K.lookup f_CannotMove = some ⟨.type "function", od_CannotMove, .func (PySem.W.fnOf "__init__" "CannotMove.__init__" (defArgs i_CannotMove) (defBody i_CannotMove) (defScope i_CannotMove) (.ref T_CannotMove) kV_CannotMove doc_CannotMove pm_CannotMove an_CannotMove cd_CannotMove ct_CannotMove), ol_CannotMove⟩)
    (cf_CannotMove : PySem.W.codeIn K cd_CannotMove "CannotMove.__init__" = true) (lT_CannotMove : K.lookup T_CannotMove = some ⟨tc_CannotMove, td_CannotMove, .seq #[.none] n_CannotMove, ts_CannotMove⟩)
    {C_NotCarried : Addr}
    {nm_NotCarried q_NotCarried : Str} {N_NotCarried : Addr} {bs_NotCarried : List Value} {sn_NotCarried : List Str} {sub_NotCarried : List Value} {ab_NotCarried : Bool} {col_NotCarried : Option Bool} {dd_NotCarried : Option Addr} {k0_NotCarried k1_NotCarried k2_NotCarried k3_NotCarried k5_NotCarried : Option Value}
    (m_NotCarried : PySem.W.nsIn K mainGlobals "NotCarried" = some (some (.ref C_NotCarried)))
    (l_NotCarried : K.lookup C_NotCarried = some (excClassObj nm_NotCarried q_NotCarried C_NotCarried N_NotCarried bs_NotCarried (.ref C_TurnError :: veL) true sn_NotCarried sub_NotCarried ab_NotCarried col_NotCarried dd_NotCarried k0_NotCarried k1_NotCarried k2_NotCarried k3_NotCarried k5_NotCarried "ValueError.__new__"))
    (ga_NotCarried : PySem.W.findIn K (.ref C_NotCarried) "__getattribute__" = some (some (.builtin "BaseException.__getattribute__"))) (gg_NotCarried : PySem.W.findIn K (.ref C_NotCarried) "__getattr__" = some none) (ha_NotCarried : PySem.W.findIn K (.ref C_NotCarried) "__class__" = some (some (.builtin "object.__class__")))
    (sa_NotCarried : PySem.W.findIn K (.ref C_NotCarried) "__setattr__" = some (some (.builtin "object.__setattr__"))) (kC_NotCarried : PySem.W.keepIn K (.ref C_NotCarried) = true) (no_NotCarried : PySem.W.findIn K (.ref C_NotCarried) "address" = some none)
    {f_NotCarried T_NotCarried n_NotCarried : Nat} {od_NotCarried td_NotCarried an_NotCarried : Option Addr} {kV_NotCarried doc_NotCarried pm_NotCarried cd_NotCarried ct_NotCarried tc_NotCarried : Value} {ol_NotCarried ts_NotCarried : Array (Option Value)}
    (iC_NotCarried : PySem.W.findIn K (.ref C_NotCarried) "__init__" = some (some (.ref f_NotCarried)))
    (lf_NotCarried : K.lookup f_NotCarried = some ⟨.type "function", od_NotCarried, .func (PySem.W.fnOf "__init__" "NotCarried.__init__" (defArgs i_NotCarried) (defBody i_NotCarried) (defScope i_NotCarried) (.ref T_NotCarried) kV_NotCarried doc_NotCarried pm_NotCarried an_NotCarried cd_NotCarried ct_NotCarried), ol_NotCarried⟩)
    (cf_NotCarried : PySem.W.codeIn K cd_NotCarried "NotCarried.__init__" = true) (lT_NotCarried : K.lookup T_NotCarried = some ⟨tc_NotCarried, td_NotCarried, .seq #[.none] n_NotCarried, ts_NotCarried⟩)
    {C_InvalidName : Addr}
    {nm_InvalidName q_InvalidName : Str} {N_InvalidName : Addr} {bs_InvalidName : List Value} {sn_InvalidName : List Str} {sub_InvalidName : List Value} {ab_InvalidName : Bool} {col_InvalidName : Option Bool} {dd_InvalidName : Option Addr} {k0_InvalidName k1_InvalidName k2_InvalidName k3_InvalidName k5_InvalidName : Option Value}
    (m_InvalidName : PySem.W.nsIn K mainGlobals "InvalidName" = some (some (.ref C_InvalidName)))
    (l_InvalidName : K.lookup C_InvalidName = some (excClassObj nm_InvalidName q_InvalidName C_InvalidName N_InvalidName bs_InvalidName (.ref C_TurnError :: veL) true sn_InvalidName sub_InvalidName ab_InvalidName col_InvalidName dd_InvalidName k0_InvalidName k1_InvalidName k2_InvalidName k3_InvalidName k5_InvalidName "ValueError.__new__"))
    (ga_InvalidName : PySem.W.findIn K (.ref C_InvalidName) "__getattribute__" = some (some (.builtin "BaseException.__getattribute__"))) (gg_InvalidName : PySem.W.findIn K (.ref C_InvalidName) "__getattr__" = some none) (ha_InvalidName : PySem.W.findIn K (.ref C_InvalidName) "__class__" = some (some (.builtin "object.__class__")))
    (sa_InvalidName : PySem.W.findIn K (.ref C_InvalidName) "__setattr__" = some (some (.builtin "object.__setattr__"))) (kC_InvalidName : PySem.W.keepIn K (.ref C_InvalidName) = true) (no_InvalidName : PySem.W.findIn K (.ref C_InvalidName) "name" = some none)
    {f_InvalidName T_InvalidName n_InvalidName : Nat} {od_InvalidName td_InvalidName an_InvalidName : Option Addr} {kV_InvalidName doc_InvalidName pm_InvalidName cd_InvalidName ct_InvalidName tc_InvalidName : Value} {ol_InvalidName ts_InvalidName : Array (Option Value)}
    (iC_InvalidName : PySem.W.findIn K (.ref C_InvalidName) "__init__" = some (some (.ref f_InvalidName)))
    (lf_InvalidName : K.lookup f_InvalidName = some ⟨.type "function", od_InvalidName, .func (PySem.W.fnOf "__init__" "InvalidName.__init__" (defArgs i_InvalidName) (defBody i_InvalidName) (defScope i_InvalidName) (.ref T_InvalidName) kV_InvalidName doc_InvalidName pm_InvalidName an_InvalidName cd_InvalidName ct_InvalidName), ol_InvalidName⟩)
    (cf_InvalidName : PySem.W.codeIn K cd_InvalidName "InvalidName.__init__" = true) (lT_InvalidName : K.lookup T_InvalidName = some ⟨tc_InvalidName, td_InvalidName, .seq #[.none] n_InvalidName, ts_InvalidName⟩)
    {C_TakenName : Addr}
    {nm_TakenName q_TakenName : Str} {N_TakenName : Addr} {bs_TakenName : List Value} {sn_TakenName : List Str} {sub_TakenName : List Value} {ab_TakenName : Bool} {col_TakenName : Option Bool} {dd_TakenName : Option Addr} {k0_TakenName k1_TakenName k2_TakenName k3_TakenName k5_TakenName : Option Value}
    (m_TakenName : PySem.W.nsIn K mainGlobals "TakenName" = some (some (.ref C_TakenName)))
    (l_TakenName : K.lookup C_TakenName = some (excClassObj nm_TakenName q_TakenName C_TakenName N_TakenName bs_TakenName (.ref C_TurnError :: veL) true sn_TakenName sub_TakenName ab_TakenName col_TakenName dd_TakenName k0_TakenName k1_TakenName k2_TakenName k3_TakenName k5_TakenName "ValueError.__new__"))
    (ga_TakenName : PySem.W.findIn K (.ref C_TakenName) "__getattribute__" = some (some (.builtin "BaseException.__getattribute__"))) (gg_TakenName : PySem.W.findIn K (.ref C_TakenName) "__getattr__" = some none) (ha_TakenName : PySem.W.findIn K (.ref C_TakenName) "__class__" = some (some (.builtin "object.__class__")))
    (sa_TakenName : PySem.W.findIn K (.ref C_TakenName) "__setattr__" = some (some (.builtin "object.__setattr__"))) (kC_TakenName : PySem.W.keepIn K (.ref C_TakenName) = true) (no_TakenName : PySem.W.findIn K (.ref C_TakenName) "name" = some none)
    {f_TakenName T_TakenName n_TakenName : Nat} {od_TakenName td_TakenName an_TakenName : Option Addr} {kV_TakenName doc_TakenName pm_TakenName cd_TakenName ct_TakenName tc_TakenName : Value} {ol_TakenName ts_TakenName : Array (Option Value)}
    (iC_TakenName : PySem.W.findIn K (.ref C_TakenName) "__init__" = some (some (.ref f_TakenName)))
    (lf_TakenName : K.lookup f_TakenName = some ⟨.type "function", od_TakenName, .func (PySem.W.fnOf "__init__" "TakenName.__init__" (defArgs i_TakenName) (defBody i_TakenName) (defScope i_TakenName) (.ref T_TakenName) kV_TakenName doc_TakenName pm_TakenName an_TakenName cd_TakenName ct_TakenName), ol_TakenName⟩)
    (cf_TakenName : PySem.W.codeIn K cd_TakenName "TakenName.__init__" = true) (lT_TakenName : K.lookup T_TakenName = some ⟨tc_TakenName, td_TakenName, .seq #[.none] n_TakenName, ts_TakenName⟩)
    {C_UnknownName : Addr}
    {nm_UnknownName q_UnknownName : Str} {N_UnknownName : Addr} {bs_UnknownName : List Value} {sn_UnknownName : List Str} {sub_UnknownName : List Value} {ab_UnknownName : Bool} {col_UnknownName : Option Bool} {dd_UnknownName : Option Addr} {k0_UnknownName k1_UnknownName k2_UnknownName k3_UnknownName k5_UnknownName : Option Value}
    (m_UnknownName : PySem.W.nsIn K mainGlobals "UnknownName" = some (some (.ref C_UnknownName)))
    (l_UnknownName : K.lookup C_UnknownName = some (excClassObj nm_UnknownName q_UnknownName C_UnknownName N_UnknownName bs_UnknownName (.ref C_TurnError :: veL) true sn_UnknownName sub_UnknownName ab_UnknownName col_UnknownName dd_UnknownName k0_UnknownName k1_UnknownName k2_UnknownName k3_UnknownName k5_UnknownName "ValueError.__new__"))
    (ga_UnknownName : PySem.W.findIn K (.ref C_UnknownName) "__getattribute__" = some (some (.builtin "BaseException.__getattribute__"))) (gg_UnknownName : PySem.W.findIn K (.ref C_UnknownName) "__getattr__" = some none) (ha_UnknownName : PySem.W.findIn K (.ref C_UnknownName) "__class__" = some (some (.builtin "object.__class__")))
    (sa_UnknownName : PySem.W.findIn K (.ref C_UnknownName) "__setattr__" = some (some (.builtin "object.__setattr__"))) (kC_UnknownName : PySem.W.keepIn K (.ref C_UnknownName) = true) (no_UnknownName : PySem.W.findIn K (.ref C_UnknownName) "name" = some none)
    {f_UnknownName T_UnknownName n_UnknownName : Nat} {od_UnknownName td_UnknownName an_UnknownName : Option Addr} {kV_UnknownName doc_UnknownName pm_UnknownName cd_UnknownName ct_UnknownName tc_UnknownName : Value} {ol_UnknownName ts_UnknownName : Array (Option Value)}
    (iC_UnknownName : PySem.W.findIn K (.ref C_UnknownName) "__init__" = some (some (.ref f_UnknownName)))
    (lf_UnknownName : K.lookup f_UnknownName = some ⟨.type "function", od_UnknownName, .func (PySem.W.fnOf "__init__" "UnknownName.__init__" (defArgs i_UnknownName) (defBody i_UnknownName) (defScope i_UnknownName) (.ref T_UnknownName) kV_UnknownName doc_UnknownName pm_UnknownName an_UnknownName cd_UnknownName ct_UnknownName), ol_UnknownName⟩)
    (cf_UnknownName : PySem.W.codeIn K cd_UnknownName "UnknownName.__init__" = true) (lT_UnknownName : K.lookup T_UnknownName = some ⟨tc_UnknownName, td_UnknownName, .seq #[.none] n_UnknownName, ts_UnknownName⟩)
    {C_NothingToUndo : Addr}
    {nm_NothingToUndo q_NothingToUndo : Str} {N_NothingToUndo : Addr} {bs_NothingToUndo : List Value} {sn_NothingToUndo : List Str} {sub_NothingToUndo : List Value} {ab_NothingToUndo : Bool} {col_NothingToUndo : Option Bool} {dd_NothingToUndo : Option Addr} {k0_NothingToUndo k1_NothingToUndo k2_NothingToUndo k3_NothingToUndo k5_NothingToUndo : Option Value}
    (m_NothingToUndo : PySem.W.nsIn K mainGlobals "NothingToUndo" = some (some (.ref C_NothingToUndo)))
    (l_NothingToUndo : K.lookup C_NothingToUndo = some (excClassObj nm_NothingToUndo q_NothingToUndo C_NothingToUndo N_NothingToUndo bs_NothingToUndo (.ref C_TurnError :: veL) true sn_NothingToUndo sub_NothingToUndo ab_NothingToUndo col_NothingToUndo dd_NothingToUndo k0_NothingToUndo k1_NothingToUndo k2_NothingToUndo k3_NothingToUndo k5_NothingToUndo "ValueError.__new__"))
    (ga_NothingToUndo : PySem.W.findIn K (.ref C_NothingToUndo) "__getattribute__" = some (some (.builtin "BaseException.__getattribute__"))) (gg_NothingToUndo : PySem.W.findIn K (.ref C_NothingToUndo) "__getattr__" = some none) (ha_NothingToUndo : PySem.W.findIn K (.ref C_NothingToUndo) "__class__" = some (some (.builtin "object.__class__")))
    (qN : PySem.W.excIn K C_NothingToUndo veL0 "ValueError.__new__" = true) (kN : PySem.W.keepIn K (.ref C_NothingToUndo) = true)
    (nd : [C_InvalidTree, C_InvalidAddress, C_InvalidNumber, C_InvalidList, C_InvalidScript, C_InvalidMove, C_CannotTurn, C_CannotMove, C_NotCarried, C_InvalidName, C_TakenName, C_UnknownName, C_NothingToUndo, C_TurnError].Nodup)
    {f0 : Addr} {od0 an0 : Option Addr} {sl0 : Array (Option Value)} {oc0 kV0 dc0 pm0 cd0 ct0 : Value}
    (a0 : PySem.W.nsIn K mainGlobals "_law_cell" = some (some (.ref f0))) (l0 : K.lookup f0 = some ⟨oc0, od0, .func (PySem.W.fnOf "_law_cell" "_law_cell" (defArgs s_law_cell) (defBody s_law_cell) (defScope s_law_cell) .none kV0 dc0 pm0 an0 cd0 ct0), sl0⟩) (c0 : PySem.W.codeIn K cd0 "_law_cell" = true) (k0 : PySem.W.keepIn K (.ref f0) = true)
    {f1 : Addr} {od1 an1 : Option Addr} {sl1 : Array (Option Value)} {oc1 kV1 dc1 pm1 cd1 ct1 : Value}
    (a1 : PySem.W.nsIn K mainGlobals "_law_hash" = some (some (.ref f1))) (l1 : K.lookup f1 = some ⟨oc1, od1, .func (PySem.W.fnOf "_law_hash" "_law_hash" (defArgs s_law_hash) (defBody s_law_hash) (defScope s_law_hash) .none kV1 dc1 pm1 an1 cd1 ct1), sl1⟩) (c1 : PySem.W.codeIn K cd1 "_law_hash" = true) (k1 : PySem.W.keepIn K (.ref f1) = true)
    {f2 : Addr} {od2 an2 : Option Addr} {sl2 : Array (Option Value)} {oc2 kV2 dc2 pm2 cd2 ct2 : Value}
    (a2 : PySem.W.nsIn K mainGlobals "_law_generator" = some (some (.ref f2))) (l2 : K.lookup f2 = some ⟨oc2, od2, .func (PySem.W.fnOf "_law_generator" "_law_generator" (defArgs s_law_generator) (defBody s_law_generator) (defScope s_law_generator) .none kV2 dc2 pm2 an2 cd2 ct2), sl2⟩) (c2 : PySem.W.codeIn K cd2 "_law_generator" = true) (k2 : PySem.W.keepIn K (.ref f2) = true)
    {f3 : Addr} {od3 an3 : Option Addr} {sl3 : Array (Option Value)} {oc3 kV3 dc3 pm3 cd3 ct3 : Value}
    (a3 : PySem.W.nsIn K mainGlobals "_law_random" = some (some (.ref f3))) (l3 : K.lookup f3 = some ⟨oc3, od3, .func (PySem.W.fnOf "_law_random" "_law_random" (defArgs s_law_random) (defBody s_law_random) (defScope s_law_random) .none kV3 dc3 pm3 an3 cd3 ct3), sl3⟩) (c3 : PySem.W.codeIn K cd3 "_law_random" = true) (k3 : PySem.W.keepIn K (.ref f3) = true)
    {f4 : Addr} {od4 an4 : Option Addr} {sl4 : Array (Option Value)} {oc4 kV4 dc4 pm4 cd4 ct4 : Value}
    (a4 : PySem.W.nsIn K mainGlobals "_law_kinds" = some (some (.ref f4))) (l4 : K.lookup f4 = some ⟨oc4, od4, .func (PySem.W.fnOf "_law_kinds" "_law_kinds" (defArgs s_law_kinds) (defBody s_law_kinds) (defScope s_law_kinds) .none kV4 dc4 pm4 an4 cd4 ct4), sl4⟩) (c4 : PySem.W.codeIn K cd4 "_law_kinds" = true) (k4 : PySem.W.keepIn K (.ref f4) = true)
    {f5 : Addr} {od5 an5 : Option Addr} {sl5 : Array (Option Value)} {oc5 kV5 dc5 pm5 cd5 ct5 : Value}
    (a5 : PySem.W.nsIn K mainGlobals "_law_fields" = some (some (.ref f5))) (l5 : K.lookup f5 = some ⟨oc5, od5, .func (PySem.W.fnOf "_law_fields" "_law_fields" (defArgs s_law_fields) (defBody s_law_fields) (defScope s_law_fields) .none kV5 dc5 pm5 an5 cd5 ct5), sl5⟩) (c5 : PySem.W.codeIn K cd5 "_law_fields" = true) (k5 : PySem.W.keepIn K (.ref f5) = true)
    {f6 : Addr} {od6 an6 : Option Addr} {sl6 : Array (Option Value)} {oc6 kV6 dc6 pm6 cd6 ct6 : Value}
    (a6 : PySem.W.nsIn K mainGlobals "_law_right" = some (some (.ref f6))) (l6 : K.lookup f6 = some ⟨oc6, od6, .func (PySem.W.fnOf "_law_right" "_law_right" (defArgs s_law_right) (defBody s_law_right) (defScope s_law_right) .none kV6 dc6 pm6 an6 cd6 ct6), sl6⟩) (c6 : PySem.W.codeIn K cd6 "_law_right" = true) (k6 : PySem.W.keepIn K (.ref f6) = true)
    {f7 : Addr} {od7 an7 : Option Addr} {sl7 : Array (Option Value)} {oc7 kV7 dc7 pm7 cd7 ct7 : Value}
    (a7 : PySem.W.nsIn K mainGlobals "_law_placed" = some (some (.ref f7))) (l7 : K.lookup f7 = some ⟨oc7, od7, .func (PySem.W.fnOf "_law_placed" "_law_placed" (defArgs s_law_placed) (defBody s_law_placed) (defScope s_law_placed) .none kV7 dc7 pm7 an7 cd7 ct7), sl7⟩) (c7 : PySem.W.codeIn K cd7 "_law_placed" = true) (k7 : PySem.W.keepIn K (.ref f7) = true)
    {f8 : Addr} {od8 an8 : Option Addr} {sl8 : Array (Option Value)} {oc8 kV8 dc8 pm8 cd8 ct8 : Value}
    (a8 : PySem.W.nsIn K mainGlobals "_law_given_right" = some (some (.ref f8))) (l8 : K.lookup f8 = some ⟨oc8, od8, .func (PySem.W.fnOf "_law_given_right" "_law_given_right" (defArgs s_law_given_right) (defBody s_law_given_right) (defScope s_law_given_right) .none kV8 dc8 pm8 an8 cd8 ct8), sl8⟩) (c8 : PySem.W.codeIn K cd8 "_law_given_right" = true) (k8 : PySem.W.keepIn K (.ref f8) = true)
    {f9 : Addr} {od9 an9 : Option Addr} {sl9 : Array (Option Value)} {oc9 kV9 dc9 pm9 cd9 ct9 : Value}
    (a9 : PySem.W.nsIn K mainGlobals "law" = some (some (.ref f9))) (l9 : K.lookup f9 = some ⟨oc9, od9, .func (PySem.W.fnOf "law" "law" (defArgs s_law) (defBody s_law) (defScope s_law) .none kV9 dc9 pm9 an9 cd9 ct9), sl9⟩) (c9 : PySem.W.codeIn K cd9 "law" = true) (k9 : PySem.W.keepIn K (.ref f9) = true)
    (z_isinstance : PySem.W.nsIn K mainGlobals "isinstance" = some none)
    (z_len : PySem.W.nsIn K mainGlobals "len" = some none)
    (z_int : PySem.W.nsIn K mainGlobals "int" = some none)
    (z_max : PySem.W.nsIn K mainGlobals "max" = some none)
    (z_range : PySem.W.nsIn K mainGlobals "range" = some none)
    (z_repr : PySem.W.nsIn K mainGlobals "repr" = some none)
    (z_list : PySem.W.nsIn K mainGlobals "list" = some none)
    (z_ValueError : PySem.W.nsIn K mainGlobals "ValueError" = some none)
    : ∃ fd : FuncData, (∀ (s : Shared) (v : Value), BindsTo s fd ⟨[v], []⟩ [("_law_script", v)]) ∧ ∀ base : Heap, K.In base → base.Ns mainGlobals mg → FnG l.prog w K mg base CX0 5 fa fd ["_law_script"] (sp_law K) := by
  have e := hfa.symm.trans (PySem.W.mg_of X G a9)
  cases e
  obtain ⟨e_TurnError, x_TurnError⟩ := cls_mk l_TurnError rfl ga_TurnError gg_TurnError ha_TurnError hn ht
  obtain ⟨e_InvalidTree, x_InvalidTree⟩ := cls_mk l_InvalidTree rfl ga_InvalidTree gg_InvalidTree ha_InvalidTree hn ht
  have o_InvalidTree := own_InvalidTree X G m_InvalidTree (oex_mk l_InvalidTree rfl sa_InvalidTree kC_InvalidTree e_InvalidTree) no_InvalidTree iC_InvalidTree (fty lf_InvalidTree) (fund_mk lf_InvalidTree cf_InvalidTree lT_InvalidTree)
  obtain ⟨e_InvalidAddress, x_InvalidAddress⟩ := cls_mk l_InvalidAddress rfl ga_InvalidAddress gg_InvalidAddress ha_InvalidAddress hn ht
  have o_InvalidAddress := own_InvalidAddress X G m_InvalidAddress (oex_mk l_InvalidAddress rfl sa_InvalidAddress kC_InvalidAddress e_InvalidAddress) no_InvalidAddress iC_InvalidAddress (fty lf_InvalidAddress) (fund_mk lf_InvalidAddress cf_InvalidAddress lT_InvalidAddress)
  obtain ⟨e_InvalidNumber, x_InvalidNumber⟩ := cls_mk l_InvalidNumber rfl ga_InvalidNumber gg_InvalidNumber ha_InvalidNumber hn ht
  have o_InvalidNumber := own_InvalidNumber X G m_InvalidNumber (oex_mk l_InvalidNumber rfl sa_InvalidNumber kC_InvalidNumber e_InvalidNumber) no_InvalidNumber iC_InvalidNumber (fty lf_InvalidNumber) (fund_mk lf_InvalidNumber cf_InvalidNumber lT_InvalidNumber)
  obtain ⟨e_InvalidList, x_InvalidList⟩ := cls_mk l_InvalidList rfl ga_InvalidList gg_InvalidList ha_InvalidList hn ht
  have o_InvalidList := own_InvalidList X G m_InvalidList (oex_mk l_InvalidList rfl sa_InvalidList kC_InvalidList e_InvalidList) no_InvalidList iC_InvalidList (fty lf_InvalidList) (fund_mk lf_InvalidList cf_InvalidList lT_InvalidList)
  obtain ⟨e_InvalidScript, x_InvalidScript⟩ := cls_mk l_InvalidScript rfl ga_InvalidScript gg_InvalidScript ha_InvalidScript hn ht
  have o_InvalidScript := own_InvalidScript X G m_InvalidScript (oex_mk l_InvalidScript rfl sa_InvalidScript kC_InvalidScript e_InvalidScript) no_InvalidScript iC_InvalidScript (fty lf_InvalidScript) (fund_mk lf_InvalidScript cf_InvalidScript lT_InvalidScript)
  obtain ⟨e_InvalidMove, x_InvalidMove⟩ := cls_mk l_InvalidMove rfl ga_InvalidMove gg_InvalidMove ha_InvalidMove hn ht
  have o_InvalidMove := own_InvalidMove X G m_InvalidMove (oex_mk l_InvalidMove rfl sa_InvalidMove kC_InvalidMove e_InvalidMove) no_InvalidMove iC_InvalidMove (fty lf_InvalidMove) (fund_mk lf_InvalidMove cf_InvalidMove lT_InvalidMove)
  obtain ⟨e_CannotTurn, x_CannotTurn⟩ := cls_mk l_CannotTurn rfl ga_CannotTurn gg_CannotTurn ha_CannotTurn hn ht
  have o_CannotTurn := own_CannotTurn X G m_CannotTurn (oex_mk l_CannotTurn rfl sa_CannotTurn kC_CannotTurn e_CannotTurn) no_CannotTurn iC_CannotTurn (fty lf_CannotTurn) (fund_mk lf_CannotTurn cf_CannotTurn lT_CannotTurn)
  obtain ⟨e_CannotMove, x_CannotMove⟩ := cls_mk l_CannotMove rfl ga_CannotMove gg_CannotMove ha_CannotMove hn ht
  have o_CannotMove := own_CannotMove X G m_CannotMove (oex_mk l_CannotMove rfl sa_CannotMove kC_CannotMove e_CannotMove) no_CannotMove iC_CannotMove (fty lf_CannotMove) (fund_mk lf_CannotMove cf_CannotMove lT_CannotMove)
  obtain ⟨e_NotCarried, x_NotCarried⟩ := cls_mk l_NotCarried rfl ga_NotCarried gg_NotCarried ha_NotCarried hn ht
  have o_NotCarried := own_NotCarried X G m_NotCarried (oex_mk l_NotCarried rfl sa_NotCarried kC_NotCarried e_NotCarried) no_NotCarried iC_NotCarried (fty lf_NotCarried) (fund_mk lf_NotCarried cf_NotCarried lT_NotCarried)
  obtain ⟨e_InvalidName, x_InvalidName⟩ := cls_mk l_InvalidName rfl ga_InvalidName gg_InvalidName ha_InvalidName hn ht
  have o_InvalidName := own_InvalidName X G m_InvalidName (oex_mk l_InvalidName rfl sa_InvalidName kC_InvalidName e_InvalidName) no_InvalidName iC_InvalidName (fty lf_InvalidName) (fund_mk lf_InvalidName cf_InvalidName lT_InvalidName)
  obtain ⟨e_TakenName, x_TakenName⟩ := cls_mk l_TakenName rfl ga_TakenName gg_TakenName ha_TakenName hn ht
  have o_TakenName := own_TakenName X G m_TakenName (oex_mk l_TakenName rfl sa_TakenName kC_TakenName e_TakenName) no_TakenName iC_TakenName (fty lf_TakenName) (fund_mk lf_TakenName cf_TakenName lT_TakenName)
  obtain ⟨e_UnknownName, x_UnknownName⟩ := cls_mk l_UnknownName rfl ga_UnknownName gg_UnknownName ha_UnknownName hn ht
  have o_UnknownName := own_UnknownName X G m_UnknownName (oex_mk l_UnknownName rfl sa_UnknownName kC_UnknownName e_UnknownName) no_UnknownName iC_UnknownName (fty lf_UnknownName) (fund_mk lf_UnknownName cf_UnknownName lT_UnknownName)
  obtain ⟨e_NothingToUndo, x_NothingToUndo⟩ := cls_mk l_NothingToUndo rfl ga_NothingToUndo gg_NothingToUndo ha_NothingToUndo hn ht
  have F0 := fun_mk (st := s_law_cell) l0 c0 k0
  have b0 := F0.binds (ps := ["_law_script", "_law_index"]) fun _ _ _ _ _ _ us hl => match us, hl with | [_, _], _ => rfl
  have F1 := fun_mk (st := s_law_hash) l1 c1 k1
  have b1 := F1.binds (ps := ["_law_seed", "_law_index"]) fun _ _ _ _ _ _ us hl => match us, hl with | [_, _], _ => rfl
  have F2 := fun_mk (st := s_law_generator) l2 c2 k2
  have b2 := F2.binds (ps := ["_law_script", "_law_index"]) fun _ _ _ _ _ _ us hl => match us, hl with | [_, _], _ => rfl
  have F3 := fun_mk (st := s_law_random) l3 c3 k3
  have b3 := F3.binds (ps := ["_law_generator_here", "_law_bound"]) fun _ _ _ _ _ _ us hl => match us, hl with | [_, _], _ => rfl
  have F4 := fun_mk (st := s_law_kinds) l4 c4 k4
  have b4 := F4.binds (ps := ["_law_error"]) fun _ _ _ _ _ _ us hl => match us, hl with | [_], _ => rfl
  have F5 := fun_mk (st := s_law_fields) l5 c5 k5
  have b5 := F5.binds (ps := ["_law_errors"]) fun _ _ _ _ _ _ us hl => match us, hl with | [_], _ => rfl
  have F6 := fun_mk (st := s_law_right) l6 c6 k6
  have b6 := F6.binds (ps := ["_law_errors", "_law_wanted"]) fun _ _ _ _ _ _ us hl => match us, hl with | [_, _], _ => rfl
  have F7 := fun_mk (st := s_law_placed) l7 c7 k7
  have b7 := F7.binds (ps := ["_law_given"]) fun _ _ _ _ _ _ us hl => match us, hl with | [_], _ => rfl
  have F8 := fun_mk (st := s_law_given_right) l8 c8 k8
  have b8 := F8.binds (ps := ["_law_given"]) fun _ _ _ _ _ _ us hl => match us, hl with | [_], _ => rfl
  have F9 := fun_mk (st := s_law) l9 c9 k9
  have b9 := F9.binds (ps := ["_law_script"]) fun _ _ _ _ _ _ us hl => match us, hl with | [_], _ => rfl
  refine ⟨PySem.W.fnOf "law" "law" (defArgs s_law) (defBody s_law) (defScope s_law) .none kV9 dc9 pm9 an9 cd9 ct9, fun s v => .of_eq rfl, fun base _ _ => ?_⟩
  exact ok_law { c_TurnError := _, g_TurnError := PySem.W.mg_of X G m_TurnError, e_TurnError := e_TurnError, c_InvalidTree := _, g_InvalidTree := PySem.W.mg_of X G m_InvalidTree, e_InvalidTree := e_InvalidTree, o_InvalidTree := o_InvalidTree, x_InvalidTree := x_InvalidTree, n_InvalidTree := no_InvalidTree, c_InvalidAddress := _, g_InvalidAddress := PySem.W.mg_of X G m_InvalidAddress, e_InvalidAddress := e_InvalidAddress, o_InvalidAddress := o_InvalidAddress, x_InvalidAddress := x_InvalidAddress, n_InvalidAddress := no_InvalidAddress, c_InvalidNumber := _, g_InvalidNumber := PySem.W.mg_of X G m_InvalidNumber, e_InvalidNumber := e_InvalidNumber, o_InvalidNumber := o_InvalidNumber, x_InvalidNumber := x_InvalidNumber, n_InvalidNumber := no_InvalidNumber, c_InvalidList := _, g_InvalidList := PySem.W.mg_of X G m_InvalidList, e_InvalidList := e_InvalidList, o_InvalidList := o_InvalidList, x_InvalidList := x_InvalidList, n_InvalidList := no_InvalidList, c_InvalidScript := _, g_InvalidScript := PySem.W.mg_of X G m_InvalidScript, e_InvalidScript := e_InvalidScript, o_InvalidScript := o_InvalidScript, x_InvalidScript := x_InvalidScript, n_InvalidScript := no_InvalidScript, c_InvalidMove := _, g_InvalidMove := PySem.W.mg_of X G m_InvalidMove, e_InvalidMove := e_InvalidMove, o_InvalidMove := o_InvalidMove, x_InvalidMove := x_InvalidMove, n_InvalidMove := no_InvalidMove, c_CannotTurn := _, g_CannotTurn := PySem.W.mg_of X G m_CannotTurn, e_CannotTurn := e_CannotTurn, o_CannotTurn := o_CannotTurn, x_CannotTurn := x_CannotTurn, n_CannotTurn := no_CannotTurn, c_CannotMove := _, g_CannotMove := PySem.W.mg_of X G m_CannotMove, e_CannotMove := e_CannotMove, o_CannotMove := o_CannotMove, x_CannotMove := x_CannotMove, n_CannotMove := no_CannotMove, c_NotCarried := _, g_NotCarried := PySem.W.mg_of X G m_NotCarried, e_NotCarried := e_NotCarried, o_NotCarried := o_NotCarried, x_NotCarried := x_NotCarried, n_NotCarried := no_NotCarried, c_InvalidName := _, g_InvalidName := PySem.W.mg_of X G m_InvalidName, e_InvalidName := e_InvalidName, o_InvalidName := o_InvalidName, x_InvalidName := x_InvalidName, n_InvalidName := no_InvalidName, c_TakenName := _, g_TakenName := PySem.W.mg_of X G m_TakenName, e_TakenName := e_TakenName, o_TakenName := o_TakenName, x_TakenName := x_TakenName, n_TakenName := no_TakenName, c_UnknownName := _, g_UnknownName := PySem.W.mg_of X G m_UnknownName, e_UnknownName := e_UnknownName, o_UnknownName := o_UnknownName, x_UnknownName := x_UnknownName, n_UnknownName := no_UnknownName, c_NothingToUndo := _, g_NothingToUndo := PySem.W.mg_of X G m_NothingToUndo, e_NothingToUndo := e_NothingToUndo, q_NothingToUndo := qN, k_NothingToUndo := kN, nd := nd, a_law_cell := _, fd_law_cell := _, F_law_cell := F0, b_law_cell := b0, m_law_cell := PySem.W.mg_of X G a0, a_law_hash := _, fd_law_hash := _, F_law_hash := F1, b_law_hash := b1, m_law_hash := PySem.W.mg_of X G a1, a_law_generator := _, fd_law_generator := _, F_law_generator := F2, b_law_generator := b2, m_law_generator := PySem.W.mg_of X G a2, a_law_random := _, fd_law_random := _, F_law_random := F3, b_law_random := b3, m_law_random := PySem.W.mg_of X G a3, a_law_kinds := _, fd_law_kinds := _, F_law_kinds := F4, b_law_kinds := b4, m_law_kinds := PySem.W.mg_of X G a4, a_law_fields := _, fd_law_fields := _, F_law_fields := F5, b_law_fields := b5, m_law_fields := PySem.W.mg_of X G a5, a_law_right := _, fd_law_right := _, F_law_right := F6, b_law_right := b6, m_law_right := PySem.W.mg_of X G a6, a_law_placed := _, fd_law_placed := _, F_law_placed := F7, b_law_placed := b7, m_law_placed := PySem.W.mg_of X G a7, a_law_given_right := _, fd_law_given_right := _, F_law_given_right := F8, b_law_given_right := b8, m_law_given_right := PySem.W.mg_of X G a8, a_law := _, fd_law := _, F_law := F9, b_law := b9, m_law := PySem.W.mg_of X G a9, z_isinstance := PySem.W.mg_none_of X G z_isinstance, z_len := PySem.W.mg_none_of X G z_len, z_int := PySem.W.mg_none_of X G z_int, z_max := PySem.W.mg_none_of X G z_max, z_range := PySem.W.mg_none_of X G z_range, z_repr := PySem.W.mg_none_of X G z_repr, z_list := PySem.W.mg_none_of X G z_list, z_ValueError := PySem.W.mg_none_of X G z_ValueError }
theorem walk {l : PySem.W.OpenLaw} {q : Program} {loose : List Str} {XP : (Str → Option Value) → Heap → Prop} {YP : World → Heap → Prop} {d : DefRec} {K : Params → PySem.W.Frag} (hn : l.most = some 63) (hdf : d.params.defaults = [])
    (hY : ∀ (w : World) (h : Heap), YP w h → (K w.params).In h)
    (F : ∀ (w : World) (mg : Str → Option Value) (fa : Addr) (h : Heap), (K w.params).In h → h.Ns mainGlobals mg → mg d.name = some (.ref fa) →
      ∃ fd : FuncData, (∀ (s : Shared) (u : Value), BindsTo s fd ⟨[u], []⟩ [("_law_script", u)]) ∧ ∀ base : Heap, (K w.params).In base → base.Ns mainGlobals mg → FnG l.prog w (K w.params) mg base CX0 5 fa fd ["_law_script"] (sp_law (K w.params))) :
    PySem.W.WalkO q loose XP YP l.row.toRowW d [] (fun f vs => PySem.call f vs) :=
  walkG (n := 63) (k := 5) (x := "_law_script") (sp := fun w => sp_law (K w.params)) hn (by decide) hdf ⟨rfl, by decide, by decide⟩ hY F (fun _ _ a ns hl _ hS => ⟨a, ns, rfl, hS, hl, fun _ => rfl⟩)
end Toy

open PySem PySem.W PyProof.Rows in
set_option maxRecDepth 100000 in
set_option maxHeartbeats 0 in
theorem PySem.Challenge.cw_treeturns_k01_errors_holds : PySem.Challenge.rw_treeturns_k01_errors.Holds := by
  w_on; o_law; k_head; (case hw => w_witness2)
  k_fill
  refine Toy.walk (l := PySem.Challenge.rw_treeturns_k01_errors) rfl rfl (fun w h Y => PySem.W.kIn_of Y) ?F
  case F =>
    intro w mg fa h KX G hmg
    refine' Toy.all_mk KX G hmg ?hn ?ht ?m_TurnError ?l_TurnError ?ga_TurnError ?gg_TurnError ?ha_TurnError ?m_InvalidTree ?l_InvalidTree ?ga_InvalidTree ?gg_InvalidTree ?ha_InvalidTree ?sa_InvalidTree ?kC_InvalidTree ?no_InvalidTree ?iC_InvalidTree ?lf_InvalidTree ?cf_InvalidTree ?lT_InvalidTree ?m_InvalidAddress ?l_InvalidAddress ?ga_InvalidAddress ?gg_InvalidAddress ?ha_InvalidAddress ?sa_InvalidAddress ?kC_InvalidAddress ?no_InvalidAddress ?iC_InvalidAddress ?lf_InvalidAddress ?cf_InvalidAddress ?lT_InvalidAddress ?m_InvalidNumber ?l_InvalidNumber ?ga_InvalidNumber ?gg_InvalidNumber ?ha_InvalidNumber ?sa_InvalidNumber ?kC_InvalidNumber ?no_InvalidNumber ?iC_InvalidNumber ?lf_InvalidNumber ?cf_InvalidNumber ?lT_InvalidNumber ?m_InvalidList ?l_InvalidList ?ga_InvalidList ?gg_InvalidList ?ha_InvalidList ?sa_InvalidList ?kC_InvalidList ?no_InvalidList ?iC_InvalidList ?lf_InvalidList ?cf_InvalidList ?lT_InvalidList ?m_InvalidScript ?l_InvalidScript ?ga_InvalidScript ?gg_InvalidScript ?ha_InvalidScript ?sa_InvalidScript ?kC_InvalidScript ?no_InvalidScript ?iC_InvalidScript ?lf_InvalidScript ?cf_InvalidScript ?lT_InvalidScript ?m_InvalidMove ?l_InvalidMove ?ga_InvalidMove ?gg_InvalidMove ?ha_InvalidMove ?sa_InvalidMove ?kC_InvalidMove ?no_InvalidMove ?iC_InvalidMove ?lf_InvalidMove ?cf_InvalidMove ?lT_InvalidMove ?m_CannotTurn ?l_CannotTurn ?ga_CannotTurn ?gg_CannotTurn ?ha_CannotTurn ?sa_CannotTurn ?kC_CannotTurn ?no_CannotTurn ?iC_CannotTurn ?lf_CannotTurn ?cf_CannotTurn ?lT_CannotTurn ?m_CannotMove ?l_CannotMove ?ga_CannotMove ?gg_CannotMove ?ha_CannotMove ?sa_CannotMove ?kC_CannotMove ?no_CannotMove ?iC_CannotMove ?lf_CannotMove ?cf_CannotMove ?lT_CannotMove ?m_NotCarried ?l_NotCarried ?ga_NotCarried ?gg_NotCarried ?ha_NotCarried ?sa_NotCarried ?kC_NotCarried ?no_NotCarried ?iC_NotCarried ?lf_NotCarried ?cf_NotCarried ?lT_NotCarried ?m_InvalidName ?l_InvalidName ?ga_InvalidName ?gg_InvalidName ?ha_InvalidName ?sa_InvalidName ?kC_InvalidName ?no_InvalidName ?iC_InvalidName ?lf_InvalidName ?cf_InvalidName ?lT_InvalidName ?m_TakenName ?l_TakenName ?ga_TakenName ?gg_TakenName ?ha_TakenName ?sa_TakenName ?kC_TakenName ?no_TakenName ?iC_TakenName ?lf_TakenName ?cf_TakenName ?lT_TakenName ?m_UnknownName ?l_UnknownName ?ga_UnknownName ?gg_UnknownName ?ha_UnknownName ?sa_UnknownName ?kC_UnknownName ?no_UnknownName ?iC_UnknownName ?lf_UnknownName ?cf_UnknownName ?lT_UnknownName ?m_NothingToUndo ?l_NothingToUndo ?ga_NothingToUndo ?gg_NothingToUndo ?ha_NothingToUndo ?qN ?kN ?nd ?a0 ?l0 ?c0 ?k0 ?a1 ?l1 ?c1 ?k1 ?a2 ?l2 ?c2 ?k2 ?a3 ?l3 ?c3 ?k3 ?a4 ?l4 ?c4 ?k4 ?a5 ?l5 ?c5 ?k5 ?a6 ?l6 ?c6 ?k6 ?a7 ?l7 ?c7 ?k7 ?a8 ?l8 ?c8 ?k8 ?a9 ?l9 ?c9 ?k9 ?z_isinstance ?z_len ?z_int ?z_max ?z_range ?z_repr ?z_list ?z_ValueError
    (case hn => k_is)
    (case ht => k_is)
    (case m_TurnError => k_is)
    (case l_TurnError => k_is)
    (case ga_TurnError => k_is)
    (case gg_TurnError => k_is)
    (case ha_TurnError => k_is)
    (case m_InvalidTree => k_is)
    (case l_InvalidTree => k_is)
    (case ga_InvalidTree => k_is)
    (case gg_InvalidTree => k_is)
    (case ha_InvalidTree => k_is)
    (case sa_InvalidTree => k_is)
    (case kC_InvalidTree => k_is)
    (case no_InvalidTree => k_is)
    (case iC_InvalidTree => k_is)
    (case lf_InvalidTree => k_is)
    (case cf_InvalidTree => k_is)
    (case lT_InvalidTree => k_is)
    (case m_InvalidAddress => k_is)
    (case l_InvalidAddress => k_is)
    (case ga_InvalidAddress => k_is)
    (case gg_InvalidAddress => k_is)
    (case ha_InvalidAddress => k_is)
    (case sa_InvalidAddress => k_is)
    (case kC_InvalidAddress => k_is)
    (case no_InvalidAddress => k_is)
    (case iC_InvalidAddress => k_is)
    (case lf_InvalidAddress => k_is)
    (case cf_InvalidAddress => k_is)
    (case lT_InvalidAddress => k_is)
    (case m_InvalidNumber => k_is)
    (case l_InvalidNumber => k_is)
    (case ga_InvalidNumber => k_is)
    (case gg_InvalidNumber => k_is)
    (case ha_InvalidNumber => k_is)
    (case sa_InvalidNumber => k_is)
    (case kC_InvalidNumber => k_is)
    (case no_InvalidNumber => k_is)
    (case iC_InvalidNumber => k_is)
    (case lf_InvalidNumber => k_is)
    (case cf_InvalidNumber => k_is)
    (case lT_InvalidNumber => k_is)
    (case m_InvalidList => k_is)
    (case l_InvalidList => k_is)
    (case ga_InvalidList => k_is)
    (case gg_InvalidList => k_is)
    (case ha_InvalidList => k_is)
    (case sa_InvalidList => k_is)
    (case kC_InvalidList => k_is)
    (case no_InvalidList => k_is)
    (case iC_InvalidList => k_is)
    (case lf_InvalidList => k_is)
    (case cf_InvalidList => k_is)
    (case lT_InvalidList => k_is)
    (case m_InvalidScript => k_is)
    (case l_InvalidScript => k_is)
    (case ga_InvalidScript => k_is)
    (case gg_InvalidScript => k_is)
    (case ha_InvalidScript => k_is)
    (case sa_InvalidScript => k_is)
    (case kC_InvalidScript => k_is)
    (case no_InvalidScript => k_is)
    (case iC_InvalidScript => k_is)
    (case lf_InvalidScript => k_is)
    (case cf_InvalidScript => k_is)
    (case lT_InvalidScript => k_is)
    (case m_InvalidMove => k_is)
    (case l_InvalidMove => k_is)
    (case ga_InvalidMove => k_is)
    (case gg_InvalidMove => k_is)
    (case ha_InvalidMove => k_is)
    (case sa_InvalidMove => k_is)
    (case kC_InvalidMove => k_is)
    (case no_InvalidMove => k_is)
    (case iC_InvalidMove => k_is)
    (case lf_InvalidMove => k_is)
    (case cf_InvalidMove => k_is)
    (case lT_InvalidMove => k_is)
    (case m_CannotTurn => k_is)
    (case l_CannotTurn => k_is)
    (case ga_CannotTurn => k_is)
    (case gg_CannotTurn => k_is)
    (case ha_CannotTurn => k_is)
    (case sa_CannotTurn => k_is)
    (case kC_CannotTurn => k_is)
    (case no_CannotTurn => k_is)
    (case iC_CannotTurn => k_is)
    (case lf_CannotTurn => k_is)
    (case cf_CannotTurn => k_is)
    (case lT_CannotTurn => k_is)
    (case m_CannotMove => k_is)
    (case l_CannotMove => k_is)
    (case ga_CannotMove => k_is)
    (case gg_CannotMove => k_is)
    (case ha_CannotMove => k_is)
    (case sa_CannotMove => k_is)
    (case kC_CannotMove => k_is)
    (case no_CannotMove => k_is)
    (case iC_CannotMove => k_is)
    (case lf_CannotMove => k_is)
    (case cf_CannotMove => k_is)
    (case lT_CannotMove => k_is)
    (case m_NotCarried => k_is)
    (case l_NotCarried => k_is)
    (case ga_NotCarried => k_is)
    (case gg_NotCarried => k_is)
    (case ha_NotCarried => k_is)
    (case sa_NotCarried => k_is)
    (case kC_NotCarried => k_is)
    (case no_NotCarried => k_is)
    (case iC_NotCarried => k_is)
    (case lf_NotCarried => k_is)
    (case cf_NotCarried => k_is)
    (case lT_NotCarried => k_is)
    (case m_InvalidName => k_is)
    (case l_InvalidName => k_is)
    (case ga_InvalidName => k_is)
    (case gg_InvalidName => k_is)
    (case ha_InvalidName => k_is)
    (case sa_InvalidName => k_is)
    (case kC_InvalidName => k_is)
    (case no_InvalidName => k_is)
    (case iC_InvalidName => k_is)
    (case lf_InvalidName => k_is)
    (case cf_InvalidName => k_is)
    (case lT_InvalidName => k_is)
    (case m_TakenName => k_is)
    (case l_TakenName => k_is)
    (case ga_TakenName => k_is)
    (case gg_TakenName => k_is)
    (case ha_TakenName => k_is)
    (case sa_TakenName => k_is)
    (case kC_TakenName => k_is)
    (case no_TakenName => k_is)
    (case iC_TakenName => k_is)
    (case lf_TakenName => k_is)
    (case cf_TakenName => k_is)
    (case lT_TakenName => k_is)
    (case m_UnknownName => k_is)
    (case l_UnknownName => k_is)
    (case ga_UnknownName => k_is)
    (case gg_UnknownName => k_is)
    (case ha_UnknownName => k_is)
    (case sa_UnknownName => k_is)
    (case kC_UnknownName => k_is)
    (case no_UnknownName => k_is)
    (case iC_UnknownName => k_is)
    (case lf_UnknownName => k_is)
    (case cf_UnknownName => k_is)
    (case lT_UnknownName => k_is)
    (case m_NothingToUndo => k_is)
    (case l_NothingToUndo => k_is)
    (case ga_NothingToUndo => k_is)
    (case gg_NothingToUndo => k_is)
    (case ha_NothingToUndo => k_is)
    (case qN => k_exc)
    (case kN => k_is)
    (case nd => decide)
    (case a0 => k_is)
    (case l0 => k_is)
    (case c0 => k_is)
    (case k0 => k_is)
    (case a1 => k_is)
    (case l1 => k_is)
    (case c1 => k_is)
    (case k1 => k_is)
    (case a2 => k_is)
    (case l2 => k_is)
    (case c2 => k_is)
    (case k2 => k_is)
    (case a3 => k_is)
    (case l3 => k_is)
    (case c3 => k_is)
    (case k3 => k_is)
    (case a4 => k_is)
    (case l4 => k_is)
    (case c4 => k_is)
    (case k4 => k_is)
    (case a5 => k_is)
    (case l5 => k_is)
    (case c5 => k_is)
    (case k5 => k_is)
    (case a6 => k_is)
    (case l6 => k_is)
    (case c6 => k_is)
    (case k6 => k_is)
    (case a7 => k_is)
    (case l7 => k_is)
    (case c7 => k_is)
    (case k7 => k_is)
    (case a8 => k_is)
    (case l8 => k_is)
    (case c8 => k_is)
    (case k8 => k_is)
    (case a9 => k_is)
    (case l9 => k_is)
    (case c9 => k_is)
    (case k9 => k_is)
    (case z_isinstance => k_is)
    (case z_len => k_is)
    (case z_int => k_is)
    (case z_max => k_is)
    (case z_range => k_is)
    (case z_repr => k_is)
    (case z_list => k_is)
    (case z_ValueError => k_is)
