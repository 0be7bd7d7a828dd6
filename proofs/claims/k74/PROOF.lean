import PyProof.Rows.All
import Wide.All
import OpenK.AllK
import Wide.FinOn
import HandS.ForMost
import HandS.Flow
import HandS.Wide
import HandS.WideBits
import HandS.NoneIn
import HandS.IsInst
import PyProof.Rows.RegReprOcc
import KE.KExcIs
import HandS.Base
import HandS.Call
import HandS.List
import HandS.Ends
import HandS.Exc
import HandS.ExcInit
import HandS.ExcField
import HandS.ExcIs
import HandS.Defaults
import HandS.MakeKwOnly
import PyProof.ReprRoads
import PyProof.ReprReads
import PyProof.StrLawsRepr
import PyProof.ReprBulk
import HandS.ExcValue
import HandS.Words
import HandS.Codes
import HandS.Dict
import HandS.WordsExc
import HandS.Replace
import HandS.ReplaceLit
import HandS.Iter
import HandS.Steps
import HandS.StrMore
import HandS.Text
import PyProof.EqLayable
import PyProof.Rows.StrStrike
import HandS.Style
import PyProof.Rows.StrRev
import PyProof.StrOps2
import KE.KRevSl
import HandS.DeepEq
import PyProof.NeData
import PyProof.Rows.SortShellAny
import HandS.More
import HandS.TupAny
import HandS.RaiseMore
import KE.KDictLaws
import PyProof.Rows.SetObj
import PyProof.Rows.SetFrom
import HandS.Set
import HandS.SetKeys
import PyProof.InstEq
import KE.KOpsOwn
import KE.KCallOwn
import HandS.Slots
import HandS.SlotsOwn
import HandS.ClsMeth
import HandS.Property
import HandS.Star
import HandS.FStr
import KE.KDictZip
import KE.KDictItemsList
import HandS.Zip
import HandS.Comp
import PySem.Challenge.RW_treeturns_k74_ways_by_the_arm
set_option Elab.async false
set_option linter.all false
set_option maxRecDepth 100000
set_option maxHeartbeats 4000000
set_option linter.all false
/-! Trees, plainly: growing, hanging, meet and join. -/
namespace TT
inductive Tr where
  | leaf
  | node (l r : Tr)
  deriving DecidableEq
namespace Tr
def size : Tr → Nat
  | leaf => 0
  | node l r => l.size + r.size + 1
/-- the text's length -/
def len : Tr → Nat
  | leaf => 1
  | node l r => l.len + r.len + 2
/-- the text -/
def cs : Tr → List Nat
  | leaf => [46]
  | node l r => 40 :: (l.cs ++ (r.cs ++ [41]))
theorem cs_length : ∀ t : Tr, t.cs.length = t.len
  | leaf => rfl
  | node l r => by simp [cs, len, cs_length l, cs_length r]; omega
theorem len_size : ∀ t : Tr, t.len = 3 * t.size + 1
  | leaf => rfl
  | node l r => by simp [size, len, len_size l, len_size r]; omega
theorem len_pos (t : Tr) : 0 < t.len := by rw [len_size]; omega
theorem cs_inj' : ∀ (s t : Tr) (a b : List Nat), s.cs ++ a = t.cs ++ b → s = t ∧ a = b
  | leaf, leaf, a, b, h => by simp [cs] at h; exact ⟨rfl, h⟩
  | leaf, node l r, a, b, h => by simp [cs] at h
  | node l r, leaf, a, b, h => by simp [cs] at h
  | node l r, node l' r', a, b, h => by
    simp only [cs, List.cons_append, List.append_assoc, List.cons.injEq, true_and] at h
    obtain ⟨e1, h1⟩ := cs_inj' l l' _ _ h
    obtain ⟨e2, h2⟩ := cs_inj' r r' _ _ h1
    simp at h2
    exact ⟨by rw [e1, e2], h2⟩
theorem cs_inj {s t : Tr} (h : s.cs = t.cs) : s = t := (cs_inj' s t [] [] (by rw [h])).1

/-- number of leaves -/
def lvs : Tr → Nat
  | leaf => 1
  | node l r => l.lvs + r.lvs
theorem lvs_size : ∀ t : Tr, t.lvs = t.size + 1
  | leaf => rfl
  | node l r => by simp [lvs, size, lvs_size l, lvs_size r]; omega

/-- grow the tree by the list, and what is left of it -/
def growR : Tr → List Tr → Tr × List Tr
  | leaf, [] => (leaf, [])
  | leaf, x :: xs => (x, xs)
  | node l r, xs => ((node (l.growR xs).1 (r.growR (l.growR xs).2).1), (r.growR (l.growR xs).2).2)
def grow (t : Tr) (xs : List Tr) : Tr := (t.growR xs).1
/-- the list with which the second tree grows into the first -/
def hang : Tr → Tr → Option (List Tr)
  | s, leaf => some [s]
  | leaf, node _ _ => none
  | node a b, node c d => (hang a c).bind fun x => (hang b d).map fun y => x ++ y
def meet : Tr → Tr → Tr
  | node a b, node c d => node (meet a c) (meet b d)
  | _, _ => leaf
def join : Tr → Tr → Tr
  | leaf, t => t
  | s, leaf => s
  | node a b, node c d => node (join a c) (join b d)

theorem growR_len : ∀ (t : Tr) (xs : List Tr), t.lvs ≤ xs.length → (t.growR xs).2.length + t.lvs = xs.length
  | leaf, [], h => by simp [lvs] at h
  | leaf, x :: xs, h => by simp [growR, lvs]
  | node l r, xs, h => by
    simp only [lvs] at h
    have h1 := growR_len l xs (by omega)
    have h2 := growR_len r (l.growR xs).2 (by omega)
    simp only [growR, lvs]
    omega
theorem hang_len : ∀ (s c : Tr) (xs : List Tr), hang s c = some xs → xs.length = c.lvs
  | s, leaf, xs, h => by simp [hang] at h; subst h; rfl
  | leaf, node _ _, xs, h => by simp [hang] at h
  | node a b, node c d, xs, h => by
    simp only [hang, Option.bind_eq_some_iff, Option.map_eq_some_iff] at h
    obtain ⟨x, hx, y, hy, rfl⟩ := h
    simp [lvs, hang_len a c x hx, hang_len b d y hy]
theorem growR_hang : ∀ (s c : Tr) (xs rest : List Tr), hang s c = some xs → c.growR (xs ++ rest) = (s, rest)
  | s, leaf, xs, rest, h => by simp [hang] at h; subst h; rfl
  | leaf, node _ _, xs, rest, h => by simp [hang] at h
  | node a b, node c d, xs, rest, h => by
    simp only [hang, Option.bind_eq_some_iff, Option.map_eq_some_iff] at h
    obtain ⟨x, hx, y, hy, rfl⟩ := h
    simp only [growR, List.append_assoc, growR_hang a c x _ hx, growR_hang b d y _ hy]
theorem grow_hang {s c : Tr} {xs : List Tr} (h : hang s c = some xs) : c.grow xs = s := by
  have := growR_hang s c xs [] h
  rw [List.append_nil] at this
  unfold grow; rw [this]
/-- hanging what was grown -/
theorem hang_growR : ∀ (c : Tr) (xs : List Tr), c.lvs ≤ xs.length → hang (c.growR xs).1 c = some (xs.take c.lvs) ∧ (c.growR xs).2 = xs.drop c.lvs
  | leaf, [], h => by simp [lvs] at h
  | leaf, x :: xs, h => by simp [growR, hang, lvs]
  | node l r, xs, h => by
    simp only [lvs] at h
    obtain ⟨h1, e1⟩ := hang_growR l xs (by omega)
    have hl : r.lvs ≤ (l.growR xs).2.length := by rw [e1, List.length_drop]; omega
    obtain ⟨h2, e2⟩ := hang_growR r (l.growR xs).2 hl
    refine ⟨?_, ?_⟩
    · simp only [growR, hang, h1, h2, Option.bind_some, Option.map_some, lvs]
      rw [e1, List.take_add]
    · show (r.growR (l.growR xs).2).2 = _
      rw [e2, e1, List.drop_drop]; rfl
theorem hang_grow {c : Tr} {xs : List Tr} (h : xs.length = c.lvs) : hang (c.grow xs) c = some xs := by
  have := (hang_growR c xs (by omega)).1
  unfold grow; rw [this, ← h, List.take_length]

theorem meet_comm : ∀ s t : Tr, meet s t = meet t s
  | leaf, leaf => rfl
  | leaf, node _ _ => rfl
  | node _ _, leaf => rfl
  | node a b, node c d => by simp only [meet, meet_comm a c, meet_comm b d]
theorem join_comm : ∀ s t : Tr, join s t = join t s
  | leaf, leaf => rfl
  | leaf, node _ _ => rfl
  | node _ _, leaf => rfl
  | node a b, node c d => by simp only [join, join_comm a c, join_comm b d]
theorem meet_leaf (t : Tr) : meet t leaf = leaf := by cases t <;> rfl
theorem leaf_meet (t : Tr) : meet leaf t = leaf := rfl
theorem join_leaf (t : Tr) : join t leaf = t := by cases t <;> rfl
theorem leaf_join (t : Tr) : join leaf t = t := rfl
theorem meet_self : ∀ t : Tr, meet t t = t
  | leaf => rfl
  | node a b => by simp only [meet, meet_self a, meet_self b]
theorem join_self : ∀ t : Tr, join t t = t
  | leaf => rfl
  | node a b => by simp only [join, join_self a, join_self b]
theorem meet_assoc : ∀ a b c : Tr, meet (meet a b) c = meet a (meet b c)
  | leaf, _, _ => rfl
  | node _ _, leaf, c => by simp [meet]
  | node _ _, node _ _, leaf => by simp [meet]
  | node a b, node c d, node e f => by simp only [meet, meet_assoc a c e, meet_assoc b d f]
theorem join_assoc : ∀ a b c : Tr, join (join a b) c = join a (join b c)
  | leaf, _, _ => rfl
  | node _ _, leaf, c => by rw [join_leaf, leaf_join]
  | node a b, node c d, leaf => by rw [join_leaf, join_leaf]
  | node a b, node c d, node e f => by simp only [join, join_assoc a c e, join_assoc b d f]
theorem join_meet_self : ∀ a b : Tr, join a (meet a b) = a
  | leaf, _ => rfl
  | node _ _, leaf => rfl
  | node a b, node c d => by simp only [meet, join, join_meet_self a c, join_meet_self b d]
theorem meet_join_self : ∀ a b : Tr, meet a (join a b) = a
  | leaf, _ => rfl
  | node a b, leaf => by rw [join_leaf, meet_self]
  | node a b, node c d => by simp only [meet, join, meet_join_self a c, meet_join_self b d]
theorem join_meet_distrib : ∀ a b c : Tr, join a (meet b c) = meet (join a b) (join a c)
  | leaf, b, c => rfl
  | node a b, leaf, c => by rw [leaf_meet, join_leaf, meet_join_self]
  | node a b, node c d, leaf => by rw [meet_leaf, join_leaf, meet_comm, meet_join_self]
  | node a b, node c d, node e f => by simp only [meet, join, join_meet_distrib a c e, join_meet_distrib b d f]
theorem size_join_meet : ∀ a b : Tr, (join a b).size + (meet a b).size = a.size + b.size
  | leaf, leaf => rfl
  | leaf, node _ _ => by simp [join, meet, size]
  | node _ _, leaf => by simp [join, meet, size]
  | node a b, node c d => by
    have := size_join_meet a c
    have := size_join_meet b d
    simp only [join, meet, size]; omega
theorem size_join_le (a b : Tr) : (join a b).size ≤ a.size + b.size := by have := size_join_meet a b; omega
theorem size_meet_le : ∀ (a b : Tr), (meet a b).size ≤ a.size
  | leaf, _ => Nat.le_refl _
  | node _ _, leaf => Nat.zero_le _
  | node a b, node c d => by
    have := size_meet_le a c
    have := size_meet_le b d
    simp only [meet, size]; omega
/-- the second tree grows into the first exactly if the join is the first, if the meet is the second -/
theorem hang_iff_join : ∀ s c : Tr, (hang s c).isSome = true ↔ join s c = s
  | s, leaf => by simp [hang, join_leaf]
  | leaf, node _ _ => by simp [hang, join]
  | node a b, node c d => by
    have h1 := hang_iff_join a c
    have h2 := hang_iff_join b d
    simp only [hang, join, node.injEq, ← h1, ← h2]
    cases hang a c <;> cases hang b d <;> simp
theorem hang_iff_meet : ∀ s c : Tr, (hang s c).isSome = true ↔ meet s c = c
  | s, leaf => by simp [hang, meet_leaf]
  | leaf, node _ _ => by simp [hang, meet]
  | node a b, node c d => by
    have h1 := hang_iff_meet a c
    have h2 := hang_iff_meet b d
    simp only [hang, meet, node.injEq, ← h1, ← h2]
    cases hang a c <;> cases hang b d <;> simp
theorem hang_meet (a b : Tr) : ∃ xs, hang a (meet a b) = some xs :=
  Option.isSome_iff_exists.mp ((hang_iff_meet _ _).mpr (by rw [← meet_assoc, meet_self]))
theorem hang_meet' (a b : Tr) : ∃ xs, hang b (meet a b) = some xs := by rw [meet_comm]; exact hang_meet b a
theorem hang_join (a b : Tr) : ∃ xs, hang (join a b) a = some xs :=
  Option.isSome_iff_exists.mp ((hang_iff_meet _ _).mpr (by rw [meet_comm, meet_join_self]))
/-- what the program makes of the two lists -/
def pick (x y : Tr) : Tr := if x = leaf then y else x
theorem growR_pick : ∀ (a b : Tr) (xs ys rs : List Tr), hang a (meet a b) = some xs → hang b (meet a b) = some ys →
    (meet a b).growR (List.zipWith pick xs ys ++ rs) = (join a b, rs)
  | leaf, b, xs, ys, rs, h1, h2 => by
    simp [meet, hang] at h1 h2; subst h1; subst h2
    simp [meet, growR, join, pick]
  | node a b, leaf, xs, ys, rs, h1, h2 => by
    simp [meet, hang] at h1 h2; subst h1; subst h2
    simp [meet, growR, join, pick]
  | node a b, node c d, xs, ys, rs, h1, h2 => by
    simp only [meet, hang, Option.bind_eq_some_iff, Option.map_eq_some_iff] at h1 h2
    obtain ⟨x1, hx1, x2, hx2, rfl⟩ := h1
    obtain ⟨y1, hy1, y2, hy2, rfl⟩ := h2
    have e : x1.length = y1.length := by rw [hang_len _ _ _ hx1, hang_len _ _ _ hy1]
    rw [List.zipWith_append e]
    simp only [meet, growR, join, List.append_assoc, growR_pick a c x1 y1 _ hx1 hy1, growR_pick b d x2 y2 _ hx2 hy2]
theorem grow_pick {a b : Tr} {xs ys : List Tr} (h1 : hang a (meet a b) = some xs) (h2 : hang b (meet a b) = some ys) : (meet a b).grow (List.zipWith pick xs ys) = join a b := by
  have := growR_pick a b xs ys [] h1 h2
  rw [List.append_nil] at this
  unfold grow; rw [this]

/-! ### a part at an offset of the text -/
inductive Sub (T : Tr) : Nat → Tr → Prop where
  | root : Sub T 0 T
  | left {o : Nat} {l r : Tr} : Sub T o (node l r) → Sub T (o + 1) l
  | right {o : Nat} {l r : Tr} : Sub T o (node l r) → Sub T (o + 1 + l.len) r
theorem Sub.cut {T s : Tr} {o : Nat} (h : Sub T o s) : ∃ A B, T.cs = A ++ (s.cs ++ B) ∧ A.length = o := by
  induction h with
  | root => exact ⟨[], [], by simp, rfl⟩
  | @left o l r _ ih =>
    obtain ⟨A, B, e, h⟩ := ih
    exact ⟨A ++ [40], r.cs ++ [41] ++ B, by rw [e]; simp [cs], by simp [h]⟩
  | @right o l r _ ih =>
    obtain ⟨A, B, e, h⟩ := ih
    exact ⟨A ++ [40] ++ l.cs, [41] ++ B, by rw [e]; simp [cs], by simp [h, cs_length]; omega⟩
/-- where each part ends, by its first sign's index (0 at closing signs) -/
def ends : Nat → Tr → List Nat
  | o, leaf => [o + 1]
  | o, node l r => (o + (node l r).len) :: (ends (o + 1) l ++ (ends (o + 1 + l.len) r ++ [0]))
theorem ends_length : ∀ (o : Nat) (t : Tr), (ends o t).length = t.len
  | o, leaf => rfl
  | o, node l r => by simp [ends, len, ends_length _ l, ends_length _ r]; omega
theorem Sub.ends_at {T s : Tr} {o : Nat} (h : Sub T o s) : ∃ A B, ends 0 T = A ++ (ends o s ++ B) ∧ A.length = o := by
  induction h with
  | root => exact ⟨[], [], by simp, rfl⟩
  | @left o l r _ ih =>
    obtain ⟨A, B, e, h⟩ := ih
    exact ⟨A ++ [o + (node l r).len], ends (o + 1 + l.len) r ++ [0] ++ B, by rw [e]; simp [ends], by simp [h]⟩
  | @right o l r _ ih =>
    obtain ⟨A, B, e, h⟩ := ih
    exact ⟨A ++ [o + (node l r).len] ++ ends (o + 1) l, [0] ++ B, by rw [e]; simp [ends], by simp [h, ends_length]; omega⟩
theorem ends_head (o : Nat) (s : Tr) : ∃ B, ends o s = (o + s.len) :: B := by
  cases s with
  | leaf => exact ⟨[], rfl⟩
  | node l r => exact ⟨_, rfl⟩
theorem Sub.end_get {T s : Tr} {o : Nat} (h : Sub T o s) : (ends 0 T)[o]? = some (o + s.len) := by
  obtain ⟨A, B, e, hl⟩ := h.ends_at
  obtain ⟨C, e2⟩ := ends_head o s
  rw [e, e2, ← hl, List.getElem?_append_right (Nat.le_refl _), Nat.sub_self]
  simp
theorem Sub.le {T s : Tr} {o : Nat} (h : Sub T o s) : o + s.len ≤ T.len := by
  obtain ⟨A, B, e, hl⟩ := h.cut
  have := congrArg List.length e
  simp [cs_length, hl] at this
  omega
theorem Sub.size_le {T s : Tr} {o : Nat} (h : Sub T o s) : s.size ≤ T.size := by
  have h1 := h.le
  rw [len_size, len_size] at h1
  omega
end Tr
end TT

set_option linter.all false
/-! TW: addresses of leaves and nodes, nodes off the right arm. -/
namespace TT
/-- how many signs c stand at the end -/
def trail (c : Nat) (a : List Nat) : Nat := (a.reverse.takeWhile (· == c)).length
def topOf (c : Nat) (a : List Nat) : List Nat := a.take (a.length - trail c a)
theorem trail_same (c : Nat) (a : List Nat) : trail c (a ++ [c]) = trail c a + 1 := by
  unfold trail
  rw [List.reverse_append]
  simp
theorem trail_other {c d : Nat} (h : d ≠ c) (a : List Nat) : trail c (a ++ [d]) = 0 := by
  unfold trail
  rw [List.reverse_append]
  simp [h]
theorem trail_le (c : Nat) (a : List Nat) : trail c a ≤ a.length := by
  unfold trail
  have := (List.takeWhile_sublist (p := (· == c)) (l := a.reverse)).length_le
  simpa using this
theorem topOf_same (c : Nat) (a : List Nat) : topOf c (a ++ [c]) = topOf c a := by
  unfold topOf
  have := trail_le c a
  rw [trail_same, List.length_append, List.length_singleton, Nat.add_sub_add_right, List.take_append_of_le_length (by omega)]
theorem topOf_other {c d : Nat} (h : d ≠ c) (a : List Nat) : topOf c (a ++ [d]) = a ++ [d] := by
  unfold topOf
  rw [trail_other h, Nat.sub_zero, List.take_length]
theorem topOf_none {c : Nat} {a : List Nat} (h : trail c a = 0) : topOf c a = a := by
  unfold topOf
  rw [h, Nat.sub_zero, List.take_length]
theorem takeWhile_all {p : Nat → Bool} : ∀ {l : List Nat} {x : Nat}, x ∈ l.takeWhile p → p x = true
  | [], x, h => by cases h
  | y :: ys, x, h => by
    rw [List.takeWhile_cons] at h
    split at h
    · rename_i hy
      rcases List.mem_cons.mp h with rfl | h
      · exact hy
      · exact takeWhile_all h
    · cases h
theorem mem_of_trail {c : Nat} {a : List Nat} (h : 0 < trail c a) : c ∈ a := by
  unfold trail at h
  cases e : a.reverse.takeWhile (· == c) with
  | nil => rw [e] at h; exact absurd h (by decide)
  | cons x xs =>
    have m : x ∈ a.reverse.takeWhile (· == c) := by rw [e]; exact List.mem_cons_self ..
    have h1 := takeWhile_all m
    have h2 := (List.takeWhile_sublist _).subset m
    have : x = c := by simpa using h1
    rw [← this]
    simpa using h2
theorem mem_topOf {c : Nat} {a : List Nat} (h : c ∈ topOf c a) : c ∈ a := List.mem_of_mem_take h
/-- the nodes off the arm whose leftmost leaf is at a -/
def bg (a : List Nat) : Nat := if 0 < trail 108 a ∧ 108 ∉ topOf 108 a then trail 108 a - 1 else trail 108 a
theorem bg_nil : bg [] = 0 := by decide
theorem bg_r (a : List Nat) : bg (a ++ [114]) = 0 := by
  unfold bg
  rw [trail_other (by decide)]
  simp
theorem bg_l (a : List Nat) : bg (a ++ [108]) = bg a + (if 108 ∈ a then 1 else 0) := by
  unfold bg
  rw [trail_same, topOf_same]
  by_cases h0 : trail 108 a = 0
  · rw [h0, topOf_none h0]
    by_cases h : 108 ∈ a
    · simp [h]
    · simp [h]
  · have hm : 108 ∈ a := mem_of_trail (by omega)
    rw [if_pos hm]
    by_cases h : 108 ∈ topOf 108 a
    · rw [if_neg (by simp [h]), if_neg (by simp [h])]
    · rw [if_pos ⟨by omega, h⟩, if_pos ⟨by omega, h⟩]
      omega
namespace Tr
/-- each part's address and first sign, in the text's order -/
def adrs : Tr → List Nat → List (List Nat × Nat)
  | leaf, a => [(a, 46)]
  | node l r, a => (a, 40) :: (adrs l (a ++ [108]) ++ adrs r (a ++ [114]))
def lvA : Tr → List Nat → List (List Nat)
  | leaf, a => [a]
  | node l r, a => lvA l (a ++ [108]) ++ lvA r (a ++ [114])
def ndA : Tr → List Nat → List (List Nat)
  | leaf, _ => []
  | node l r, a => ndA l (a ++ [108]) ++ [a] ++ ndA r (a ++ [114])
/-- the text without closing signs -/
def ps : Tr → List Nat
  | leaf => [46]
  | node l r => 40 :: (ps l ++ ps r)
theorem ps_filter : ∀ t : Tr, t.cs.filter (· != 41) = t.ps
  | leaf => by decide
  | node l r => by
    simp only [cs, ps, List.filter_cons, List.filter_append, ps_filter l, ps_filter r]
    simp
theorem adrs_length : ∀ (t : Tr) (a : List Nat), (t.adrs a).length = t.ps.length
  | leaf, a => rfl
  | node l r, a => by simp [adrs, ps, adrs_length l, adrs_length r]
theorem ps_length : ∀ t : Tr, t.ps.length = 2 * t.size + 1
  | leaf => rfl
  | node l r => by simp [ps, size, ps_length l, ps_length r]; omega
theorem lvA_adrs : ∀ (t : Tr) (a : List Nat), ((t.adrs a).filter (fun x => x.2 == 46)).map (·.1) = t.lvA a
  | leaf, a => rfl
  | node l r, a => by
    simp only [adrs, lvA, List.filter_cons, List.filter_append, List.map_append, lvA_adrs l, lvA_adrs r]
    simp [lvA_adrs l, lvA_adrs r]
theorem lvA_length : ∀ (t : Tr) (a : List Nat), (t.lvA a).length = t.lvs
  | leaf, a => rfl
  | node l r, a => by simp [lvA, lvs, lvA_length l, lvA_length r]
theorem ndA_length : ∀ (t : Tr) (a : List Nat), (t.ndA a).length = t.size
  | leaf, a => rfl
  | node l r, a => by simp [ndA, size, ndA_length l, ndA_length r]; omega
theorem adrs_len : ∀ (t : Tr) (a : List Nat), ∀ x ∈ t.adrs a, x.1.length ≤ a.length + t.size
  | leaf, a, x, h => by rw [List.mem_singleton.mp h]; exact Nat.le_add_right _ _
  | node l r, a, x, h => by
    simp only [adrs, List.mem_cons, List.mem_append] at h
    simp only [size]
    rcases h with rfl | h | h
    · simp
    · have := adrs_len l _ x h
      simp at this; omega
    · have := adrs_len r _ x h
      simp at this; omega
theorem lvA_len : ∀ (t : Tr) (a : List Nat), ∀ x ∈ t.lvA a, x.length ≤ a.length + t.size
  | leaf, a, x, h => by rw [List.mem_singleton.mp h]; exact Nat.le_add_right _ _
  | node l r, a, x, h => by
    simp only [lvA, List.mem_append] at h
    simp only [size]
    rcases h with h | h
    · have := lvA_len l _ x h
      simp at this; omega
    · have := lvA_len r _ x h
      simp at this; omega
theorem ndA_len : ∀ (t : Tr) (a : List Nat), ∀ x ∈ t.ndA a, x.length ≤ a.length + t.size
  | leaf, a, x, h => by cases h
  | node l r, a, x, h => by
    simp only [ndA, List.mem_append, List.mem_singleton] at h
    simp only [size]
    rcases h with (h | h) | h
    · have := ndA_len l _ x h
      simp at this; omega
    · rw [h]; omega
    · have := ndA_len r _ x h
      simp at this; omega
/-- the nodes of the right arm -/
def arm : Tr → Nat
  | leaf => 0
  | node _ r => arm r + 1
def off : Tr → Nat
  | leaf => 0
  | node l r => l.size + off r
theorem off_arm : ∀ t : Tr, t.off + t.arm = t.size
  | leaf => rfl
  | node l r => by simp only [off, arm, size]; have := off_arm r; omega
theorem trail_cs : ∀ t : Tr, trail 41 t.cs = t.arm
  | leaf => by decide
  | node l r => by
    have e : (node l r).cs = (40 :: (l.cs ++ r.cs)) ++ [41] := by simp [cs]
    rw [e, trail_same]
    show _ = arm r + 1
    refine congrArg (· + 1) ?_
    rw [← trail_cs r]
    unfold trail
    have : ∃ x xs, r.cs.reverse = xs ++ x :: [] ∧ x ≠ 41 := by
      cases r with
      | leaf => exact ⟨46, [], rfl, by decide⟩
      | node p q => exact ⟨40, (p.cs ++ (q.cs ++ [41])).reverse, by simp [cs], by decide⟩
    obtain ⟨x, xs, h1, h2⟩ := this
    have h3 : (40 :: (l.cs ++ r.cs)).reverse = r.cs.reverse ++ (l.cs.reverse ++ [40]) := by simp
    rw [h3, h1, List.append_assoc]
    have : ∀ (ys zs : List Nat), ((ys ++ x :: zs).takeWhile (· == 41)) = ((ys ++ [x]).takeWhile (· == 41)) := by
      intro ys
      induction ys with
      | nil => intro zs; simp [h2]
      | cons y ys ih =>
        intro zs
        simp only [List.cons_append, List.takeWhile_cons]
        rw [ih zs]
    exact congrArg List.length (this xs _)
/-! ### counting at the leaves -/
def addH (k : Nat) : List Nat → List Nat
  | [] => []
  | x :: xs => (k + x) :: xs
theorem addH_zero : ∀ xs : List Nat, addH 0 xs = xs
  | [] => rfl
  | x :: xs => by simp [addH]
theorem addH_add (i j : Nat) : ∀ xs : List Nat, addH i (addH j xs) = addH (i + j) xs
  | [] => rfl
  | x :: xs => by simp [addH, Nat.add_assoc]
theorem addH_append (k : Nat) : ∀ {xs ys : List Nat}, xs ≠ [] → addH k (xs ++ ys) = addH k xs ++ ys
  | [], _, h => absurd rfl h
  | x :: xs, ys, _ => rfl
theorem addH_length (k : Nat) : ∀ xs : List Nat, (addH k xs).length = xs.length
  | [] => rfl
  | x :: xs => rfl
def Dn : Tr → List Nat → List Nat
  | leaf, _ => [0]
  | node l r, a => addH (if 108 ∈ a then 1 else 0) (Dn l (a ++ [108])) ++ Dn r (a ++ [114])
theorem Dn_length : ∀ (t : Tr) (a : List Nat), (Dn t a).length = t.lvs
  | leaf, a => rfl
  | node l r, a => by simp [Dn, lvs, addH_length, Dn_length l, Dn_length r]
theorem lvs_pos (t : Tr) : 0 < t.lvs := by rw [lvs_size]; omega
theorem Dn_ne (t : Tr) (a : List Nat) : Dn t a ≠ [] := fun z => by
  have h1 := Dn_length t a
  have h2 := lvs_pos t
  rw [z] at h1
  simp at h1
  omega
theorem addH_ne (k : Nat) {xs : List Nat} (h : xs ≠ []) : addH k xs ≠ [] := by
  cases xs with
  | nil => exact absurd rfl h
  | cons x xs => simp [addH]
theorem bg_map : ∀ (t : Tr) (a : List Nat), (t.lvA a).map bg = addH (bg a) (Dn t a)
  | leaf, a => rfl
  | node l r, a => by
    simp only [lvA, Dn, List.map_append]
    rw [bg_map l, bg_map r, bg_l, bg_r, addH_zero, addH_append _ (addH_ne _ (Dn_ne l _)), addH_add]
theorem bg_all (t : Tr) : (t.lvA []).map bg = Dn t [] := by rw [bg_map, bg_nil, addH_zero]
theorem addH_sum (k : Nat) {xs : List Nat} (h : xs ≠ []) : (addH k xs).sum = k + xs.sum := by
  cases xs with
  | nil => exact absurd rfl h
  | cons x xs => simp [addH]; omega
theorem Dn_sum : ∀ (t : Tr) (a : List Nat), (Dn t a).sum = if 108 ∈ a then t.size else t.off
  | leaf, a => by simp [Dn, size, off]
  | node l r, a => by
    simp only [Dn, List.sum_append, addH_sum _ (Dn_ne l _), Dn_sum l, Dn_sum r, size, off]
    by_cases h : 108 ∈ a
    · simp [h]; omega
    · simp [h]
theorem bg_sum (t : Tr) : ((t.lvA []).map bg).sum = t.off := by
  rw [bg_all, Dn_sum]
  simp
/-! ### counting by the nodes -/
def fi (A : List (List Nat)) (n : List Nat) : Nat := A.findIdx fun s => n.isPrefixOf s
def bump (f : List Nat) (i : Nat) : List Nat := f.set i (f.getD i 0 + 1)
def bumps (A ns : List (List Nat)) (f : List Nat) : List Nat := ns.foldl (fun f n => if 108 ∈ n then bump f (fi A n) else f) f
theorem pre_self (a m : List Nat) : a.isPrefixOf (a ++ m) = true := List.isPrefixOf_iff_prefix.mpr (List.prefix_append a m)
theorem lvA_pre : ∀ (t : Tr) (a : List Nat), ∀ s ∈ t.lvA a, a <+: s
  | leaf, a, s, h => by rw [List.mem_singleton.mp h]; exact List.prefix_refl _
  | node l r, a, s, h => by
    rcases List.mem_append.mp h with h | h
    · exact (List.prefix_append a [108]).trans (lvA_pre l _ s h)
    · exact (List.prefix_append a [114]).trans (lvA_pre r _ s h)
theorem ndA_pre : ∀ (t : Tr) (a : List Nat), ∀ n ∈ t.ndA a, a <+: n
  | leaf, a, n, h => by cases h
  | node l r, a, n, h => by
    simp only [ndA, List.mem_append, List.mem_singleton] at h
    rcases h with (h | h) | h
    · exact (List.prefix_append a [108]).trans (ndA_pre l _ n h)
    · rw [h]; exact List.prefix_refl _
    · exact (List.prefix_append a [114]).trans (ndA_pre r _ n h)
theorem ndA_leaf : ∀ (t : Tr) (a : List Nat), ∀ n ∈ t.ndA a, ∃ s ∈ t.lvA a, n <+: s
  | leaf, a, n, h => by cases h
  | node l r, a, n, h => by
    simp only [ndA, List.mem_append, List.mem_singleton] at h
    rcases h with (h | h) | h
    · obtain ⟨s, hs, hp⟩ := ndA_leaf l _ n h
      exact ⟨s, List.mem_append_left _ hs, hp⟩
    · obtain ⟨s, hs⟩ : ∃ s, s ∈ l.lvA (a ++ [108]) := List.exists_mem_of_length_pos (by rw [lvA_length]; exact lvs_pos l)
      exact ⟨s, List.mem_append_left _ hs, by rw [h]; exact (List.prefix_append a [108]).trans (lvA_pre l _ s hs)⟩
    · obtain ⟨s, hs, hp⟩ := ndA_leaf r _ n h
      exact ⟨s, List.mem_append_right _ hs, hp⟩
theorem fi_lt {A : List (List Nat)} {n s : List Nat} (hs : s ∈ A) (h : n <+: s) : fi A n < A.length := List.findIdx_lt_length_of_exists ⟨s, hs, List.isPrefixOf_iff_prefix.mpr h⟩
theorem fi_left {A B : List (List Nat)} {n s : List Nat} (hs : s ∈ A) (h : n <+: s) : fi (A ++ B) n = fi A n := by
  have := fi_lt hs h
  unfold fi at this ⊢
  rw [List.findIdx_append, if_pos this]
theorem fi_right {A B : List (List Nat)} {n : List Nat} (h : ∀ s ∈ A, ¬ n <+: s) : fi (A ++ B) n = fi B n + A.length := by
  have e : A.findIdx (fun s => n.isPrefixOf s) = A.length := List.findIdx_eq_length.mpr fun s hs => by
    cases hz : n.isPrefixOf s with
    | false => rfl
    | true => exact absurd (List.isPrefixOf_iff_prefix.mp hz) (h s hs)
  unfold fi
  rw [List.findIdx_append, if_neg (by rw [e]; omega)]
theorem bump_left {x y : List Nat} {i : Nat} (h : i < x.length) : bump (x ++ y) i = bump x i ++ y := by
  unfold bump
  rw [List.set_append_left _ _ h, List.getD_eq_getElem?_getD, List.getD_eq_getElem?_getD, List.getElem?_append_left h]
theorem bump_right (x y : List Nat) (i : Nat) : bump (x ++ y) (i + x.length) = x ++ bump y i := by
  unfold bump
  rw [List.set_append_right _ _ (by omega), List.getD_eq_getElem?_getD, List.getD_eq_getElem?_getD, List.getElem?_append_right (by omega), Nat.add_sub_cancel]
theorem bump_length (x : List Nat) (i : Nat) : (bump x i).length = x.length := List.length_set
theorem bumps_length (A : List (List Nat)) : ∀ (ns : List (List Nat)) (f : List Nat), (bumps A ns f).length = f.length
  | [], f => rfl
  | n :: ns, f => by
    show (bumps A ns (if 108 ∈ n then bump f (fi A n) else f)).length = _
    rw [bumps_length A ns]
    split
    · exact bump_length _ _
    · rfl
theorem bumps_left {A B : List (List Nat)} : ∀ {ns : List (List Nat)} {x y : List Nat}, x.length = A.length → (∀ n ∈ ns, ∃ s ∈ A, n <+: s) → bumps (A ++ B) ns (x ++ y) = bumps A ns x ++ y
  | [], x, y, _, _ => rfl
  | n :: ns, x, y, hl, h => by
    obtain ⟨s, hs, hp⟩ := h n (List.mem_cons_self ..)
    show bumps (A ++ B) ns (if 108 ∈ n then bump (x ++ y) (fi (A ++ B) n) else x ++ y) = bumps A ns (if 108 ∈ n then bump x (fi A n) else x) ++ y
    have hl' := fi_lt hs hp
    rw [fi_left hs hp, bump_left (by rw [hl]; exact hl')]
    split
    · exact bumps_left (by rw [bump_length, hl]) fun m hm => h m (List.mem_cons_of_mem _ hm)
    · exact bumps_left hl fun m hm => h m (List.mem_cons_of_mem _ hm)
theorem bumps_right {A B : List (List Nat)} : ∀ {ns : List (List Nat)} {x y : List Nat}, x.length = A.length → (∀ n ∈ ns, ∀ s ∈ A, ¬ n <+: s) → bumps (A ++ B) ns (x ++ y) = x ++ bumps B ns y
  | [], x, y, _, _ => rfl
  | n :: ns, x, y, hl, h => by
    have hn := h n (List.mem_cons_self ..)
    show bumps (A ++ B) ns (if 108 ∈ n then bump (x ++ y) (fi (A ++ B) n) else x ++ y) = x ++ bumps B ns (if 108 ∈ n then bump y (fi B n) else y)
    rw [fi_right hn, ← hl, bump_right]
    split
    · exact bumps_right hl fun m hm => h m (List.mem_cons_of_mem _ hm)
    · exact bumps_right hl fun m hm => h m (List.mem_cons_of_mem _ hm)
theorem bumps_append (A : List (List Nat)) (ns ms : List (List Nat)) (f : List Nat) : bumps A (ns ++ ms) f = bumps A ms (bumps A ns f) := List.foldl_append
theorem bump_zero : ∀ {x : List Nat}, x ≠ [] → bump x 0 = addH 1 x
  | [], h => absurd rfl h
  | y :: ys, _ => by
    show (y + 1) :: ys = (1 + y) :: ys
    rw [Nat.add_comm]
theorem parted {a n s : List Nat} (h1 : a ++ [114] <+: n) (h2 : a ++ [108] <+: s) : ¬ n <+: s := fun h => by
  obtain ⟨m, e1⟩ := h1.trans h
  obtain ⟨k, e2⟩ := h2
  rw [← e2, List.append_assoc, List.append_assoc] at e1
  have := List.append_cancel_left e1
  simp at this
theorem bumps_Dn : ∀ (t : Tr) (a : List Nat), bumps (t.lvA a) (t.ndA a) (List.replicate t.lvs 0) = Dn t a
  | leaf, a => rfl
  | node l r, a => by
    simp only [lvA, ndA, lvs, Dn]
    rw [← List.replicate_append_replicate, bumps_append, bumps_append, bumps_left (by rw [lvA_length, List.length_replicate]) (ndA_leaf l _), bumps_Dn l]
    obtain ⟨s, hs⟩ : ∃ s, s ∈ l.lvA (a ++ [108]) := List.exists_mem_of_length_pos (by rw [lvA_length]; exact lvs_pos l)
    have f0 : fi (l.lvA (a ++ [108]) ++ r.lvA (a ++ [114])) a = 0 := by
      cases e : l.lvA (a ++ [108]) with
      | nil => rw [e] at hs; cases hs
      | cons z zs =>
        have hz := lvA_pre l (a ++ [108]) z (by rw [e]; exact List.mem_cons_self ..)
        have : a.isPrefixOf z = true := List.isPrefixOf_iff_prefix.mpr ((List.prefix_append a [108]).trans hz)
        unfold fi
        rw [List.cons_append, List.findIdx_cons, this]
        rfl
    have e1 : bumps (l.lvA (a ++ [108]) ++ r.lvA (a ++ [114])) [a] (Dn l (a ++ [108]) ++ List.replicate r.lvs 0) = addH (if 108 ∈ a then 1 else 0) (Dn l (a ++ [108])) ++ List.replicate r.lvs 0 := by
      show (if 108 ∈ a then bump (Dn l (a ++ [108]) ++ List.replicate r.lvs 0) (fi _ a) else _) = _
      rw [f0]
      split
      · rw [bump_zero (by simp [Dn_ne]), addH_append _ (Dn_ne l _)]
      · rw [addH_zero]
    rw [e1, bumps_right (by rw [addH_length, Dn_length, lvA_length]) (fun n hn s hs => parted (ndA_pre r _ n hn) (lvA_pre l _ s hs)), bumps_Dn r]
end Tr
end TT
namespace TT
namespace Tr
def cL : Nat → Tr
  | 0 => leaf
  | n + 1 => node (cL n) leaf
def cR : Nat → Tr
  | 0 => leaf
  | n + 1 => node leaf (cR n)
theorem cL_size : ∀ n, (cL n).size = n
  | 0 => rfl
  | n + 1 => by simp [cL, size, cL_size n]
theorem cR_size : ∀ n, (cR n).size = n
  | 0 => rfl
  | n + 1 => by simp [cR, size, cR_size n]
theorem cL_Dn : ∀ (n : Nat) (a : List Nat), 108 ∈ a → Dn (cL n) a = n :: List.replicate n 0
  | 0, a, _ => rfl
  | n + 1, a, h => by
    show addH (if 108 ∈ a then 1 else 0) (Dn (cL n) (a ++ [108])) ++ [0] = _
    rw [if_pos h, cL_Dn n _ (by simp)]
    show (1 + n) :: (List.replicate n 0 ++ [0]) = _
    rw [Nat.add_comm 1 n]
    refine congrArg _ ?_
    exact List.replicate_succ'.symm
theorem cL_top (n : Nat) : Dn (cL (n + 1)) [] = n :: List.replicate (n + 1) 0 := by
  show addH (if 108 ∈ [] then 1 else 0) (Dn (cL n) ([] ++ [108])) ++ [0] = _
  rw [if_neg (by simp), addH_zero, cL_Dn n _ (by simp)]
  exact congrArg (List.cons n) List.replicate_succ'.symm
theorem cR_Dn : ∀ (n : Nat) (a : List Nat), 108 ∉ a → Dn (cR n) a = List.replicate (n + 1) 0
  | 0, a, _ => rfl
  | n + 1, a, h => by
    show addH (if 108 ∈ a then 1 else 0) [0] ++ Dn (cR n) (a ++ [114]) = _
    rw [if_neg h, addH_zero, cR_Dn n _ (by simp [h])]
    rfl
theorem cL_off (n : Nat) : (cL (n + 1)).off = n := by
  show (cL n).size + 0 = n
  rw [cL_size]
  rfl
theorem cR_off : ∀ n, (cR n).off = 0
  | 0 => rfl
  | n + 1 => by
    show leaf.size + (cR n).off = 0
    rw [cR_off n]
    rfl
end Tr
end TT

set_option Elab.async false
set_option linter.all false
set_option maxRecDepth 100000
set_option maxHeartbeats 4000000
/-! further rules over the hand layer -/
namespace TT
open PySem PySem.Spec PyProof.Rows L2

/-! ### texts as lists of signs -/
abbrev S (l : List Nat) : Str := ⟨l.toArray⟩
theorem S_app (a b : List Nat) : S a ++ S b = S (a ++ b) := by
  show Str.append (S a) (S b) = _
  unfold Str.append
  simp
theorem S_len (a : List Nat) : (S a).length = a.length := by simp [Str.length]
theorem S_inj {a b : List Nat} (h : S a = S b) : a = b := by
  have := congrArg (fun x => x.cps.toList) h
  simpa using this
theorem S_iff {a b : List Nat} : S a = S b ↔ a = b := ⟨S_inj, fun h => by rw [h]⟩
theorem S_of (x : Str) : x = S x.cps.toList := by cases x; simp
theorem lit_open : ("(" : Str) = S [40] := by decide +kernel
theorem lit_close : (")" : Str) = S [41] := by decide +kernel
theorem lit_dot : ("." : Str) = S [46] := by decide +kernel
theorem lit_empty : ("" : Str) = S [] := by decide +kernel
theorem lit_l : ("l" : Str) = S [108] := by decide +kernel
theorem lit_r : ("r" : Str) = S [114] := by decide +kernel
theorem lit_tree : ("tree" : Str) = S [116, 114, 101, 101] := by decide +kernel
theorem lit_end : ("end" : Str) = S [101, 110, 100] := by decide +kernel

section
variable {X : Cx}
theorem sg_eq {d : Nat} {x : Str} (hx : x = S [d]) : ({ cps := #[d] } : Str) = x := hx.symm
theorem sg_ne {c d : Nat} {x : Str} (hx : x = S [d]) (h : c ≠ d) : ¬ ({ cps := #[c] } : Str) = x := fun e => h (by
  have := S_inj (a := [c]) (b := [d]) (e.trans hx)
  simpa using this)
theorem ifdT {p A B : Prop} [Decidable p] (h : p) (a : A) : if decide p = true then A else B := by rw [if_pos (decide_eq_true h)]; exact a
theorem ifdF {p A B : Prop} [Decidable p] (h : ¬ p) (b : B) : if decide p = true then A else B := by rw [if_neg (by rw [decide_eq_true_eq]; exact h)]; exact b
theorem ifnT {p A B : Prop} [Decidable p] (h : ¬ p) (a : A) : if (!decide p) = true then A else B := by rw [if_pos (by rw [decide_eq_false h]; rfl)]; exact a
theorem ifnF {p A B : Prop} [Decidable p] (h : p) (b : B) : if (!decide p) = true then A else B := by rw [if_neg (by rw [decide_eq_true h]; exact Bool.false_ne_true)]; exact b
theorem ixN_nat {n j : Nat} (h : j < n) : ixN n (j : Int) = some j := by
  unfold ixN
  rw [if_pos (by omega), if_pos (by omega)]; simp
/-- readings told with K -/
def tTruK (K : PySem.W.Frag) (ta : TE) : TT := fun σ H Q => ta σ H fun x H' => ∃ k, TruV K x H' k ∧ Q k H'
def rLenSK (K : PySem.W.Frag) : List V → Hp → VK → Prop := fun xs H Q => ∃ p ys, xs = [.ref p] ∧ (SqL K H p ys ∨ SqT K H p ys) ∧ Q (.int ys.length) H
theorem cxOf_K {CX : CXT} {P : Program} {w : World} {K : PySem.W.Frag} {mg : Str → Option Value} {base : Heap} {N : List Str} {qual : Str} {scope : Scope} {f : Addr} {cd : Value} {A : Around} {outer : List Env} {s : Shared} {H : Hp} {E : XK} :
    (cxOf CX P w K mg base N qual scope f cd A outer s H E).K = K := rfl
/-- a text, a list: of their own kind -/
theorem tyV_lst {K : PySem.W.Frag} {H : Hp} {a : Addr} {xs : List V} (h : H a = some (.lst xs)) : tyV K "list" (.ref a) H := .inl ⟨rfl, _, SqL.of h⟩
theorem _root_.L2.Same.new {H H' : Hp} {p : Addr} (e : Same H H') (h : H p = none) (o : HO) : Same H (upd H' p o) := fun b u q => by
  rw [upd_ne (ne_of_none q h)]; exact e b u q
theorem _root_.L2.Same.get {H H' : Hp} {a : Addr} {o : HO} (e : Same H H') (h : H a = some o) : H' a = some o := e a o h
theorem small5 {n : Nat} (h : n ≤ 16000000) : n ≤ sizeLine := by rw [sizeLine_eq]; omega
theorem small5' {n : Nat} (h : n ≤ 16000000) : n < sizeLine := by rw [sizeLine_eq]; omega
/-! ### powers -/
def CPowB (i j : Int) : Prop := 0 ≤ j ∧ (Builtin.Int.intBits i : Int) * j ≤ 2 ^ 27
theorem op_powB : OpR X (binaryOp .Pow) (rI CPowB fun i j => .int (i ^ j.toNat)) := opI fun _ _ _ _ _ _ _ hc q => pow_int hc.1 hc.2 q

theorem call_intI : CallR X (.type "int") (fun xs H Q => ∃ i, xs = [.int i] ∧ Q (.int i) H) := fun pins s σ H xs us Q I r h => call_int1 pins s σ H xs us Q I r (.inl h)
theorem call_intB : CallR X (.type "int") (fun xs H Q => ∃ k, xs = [.bl k] ∧ Q (.int (if k then 1 else 0)) H) := fun pins s σ H xs us Q I r h => call_int1 pins s σ H xs us Q I r (.inr h)
theorem cmulR {i j : Int} (h : -(2 ^ 64) < j ∧ j < 2 ^ 64) : CMul i j := .inr h
theorem cmulL {i j : Int} (h : -(2 ^ 64) < i ∧ i < 2 ^ 64) : CMul i j := .inl h
theorem cmod (x : Int) {m : Int} (h : 0 < m) (h2 : m < 2 ^ 64) : -(2 ^ 64) < x % m ∧ x % m < 2 ^ 64 := by
  have h3 := Int.emod_nonneg x (show m ≠ 0 by omega)
  have h4 := Int.emod_lt_of_pos x h
  omega
theorem cdivW {i b : Int} (h : 1 ≤ b) (h2 : b < 1000000000000000) : CDivW i b := by
  refine ⟨by omega, ?_⟩
  have : b.natAbs.log2 < 50 := (Nat.log2_lt (by omega)).mpr (by omega)
  omega
/-! ### enumerate of a text -/
def Ites (x : Str) : It :=
  ⟨fun i _ => i < x.cps.size, fun i H v H' => ∃ T c, v = .ref T ∧ H T = none ∧ x.cps[i]? = some c ∧ H' = upd H T (.tup [.int (i : Nat), .str ⟨#[c]⟩]), fun i _ => x.cps.size ≤ i⟩
theorem turn_enumS {P : Program} {w : World} {K : PySem.W.Frag} {elts : List Expr} {kk : Nat} {tpos : Pos} (e it : Addr) (x : Str) (t : Tok) (ty : String) (hty : ty = "str_ascii_iterator" ∨ ty = "str_iterator") :
    Turn P w K (.Tuple elts kk tpos) (Ites x) [e, it] e (fun i h => (∃ old, IsEnum h e it ((i : Nat) : Int) old) ∧ h.IsStrIter it ty x t i ∧ e ≠ it) where
  mem := by simp
  obj := fun i h st b hb => by
    obtain ⟨⟨old, he⟩, ⟨o, ho, hc, hd⟩, _⟩ := st
    have e' : b = e ∨ b = it := by simpa using hb
    rcases e' with z | z
    · rw [z]; exact ⟨_, he, fun v q => nomatch q⟩
    · rw [z]; exact ⟨o, ho, fun v q => by rw [hd] at q; cases q⟩
  keep := fun i h h' st k => by
    obtain ⟨⟨old, he⟩, ⟨o, ho, r⟩, hne⟩ := st
    exact ⟨⟨old, k e (by simp) _ he⟩, ⟨o, k it (by simp) o ho, r⟩, hne⟩
  item := by
    intro X hP hw hK hc i pins s σ H E I hf st hg
    subst hP hw hK
    obtain ⟨⟨old, he⟩, hit, hne⟩ := st
    have hel : e < s.heap.objs.size := Heap.lt_size he
    have hil : it < s.heap.objs.size := by obtain ⟨_, q, _⟩ := hit; exact Heap.lt_size q
    have D : Draws X.prog X.w X.A.in1 it [it] x.cps.size (fun i v => ∃ c u, x.cps[i]? = some c ∧ v = .str ⟨#[c]⟩ u) (fun i h => h.IsStrIter it ty x t i) := by
      rcases hty with q | q
      · rw [q]; exact Draws.strAscii (A := X.A.in1) (I.ok.hd hc) it x t
      · rw [q]; exact Draws.strWide (A := X.A.in1) (I.ok.hd hc) it x t
    refine wpAny_pyNext_enum_itemD D he hit hg hne (by simpa using hne) fun y h' tk hy ho hit' hT hsz hk => ?_
    obtain ⟨c, u, hcx, rfl⟩ := hy
    refine ⟨_, rfl, wpAny_letOwnedTupleGo_enum (s := { s with heap := h', toks := tk + 1 }) ho fun h'' he' sb => ?_⟩
    have hT2 : h''.get? s.heap.objs.size = some { cls := .type "tuple", data := .seq #[.int i tk, .str ⟨#[c]⟩ u] } := (sb.2 _ (Nat.ne_of_gt hel)).trans hT
    have new : ObjOk X.prog X.w (upd H s.heap.objs.size (.tup [.int (i : Nat), .str ⟨#[c]⟩])) h'' s.heap.objs.size (.tup [.int (i : Nat), .str ⟨#[c]⟩]) :=
      ⟨by show 2 ≤ sizeLine; decide, [.int i tk, .str ⟨#[c]⟩ u], .cons ⟨_, rfl⟩ (.cons ⟨_, rfl⟩ .nil), ⟨_, hT2, rfl, _, rfl⟩⟩
    have I1 : Inv X pins σ (upd H s.heap.objs.size (.tup [.int (i : Nat), .str ⟨#[c]⟩])) { s with heap := h'', toks := tk + 1 } :=
      I.turnedNew (ch := [e, it]) (fun b ob hb q => (sb.2 b (fun z => hb (by simp [z]))).trans (hk b ob (fun z => hb (by simp [z])) (fun z => hb (by simp [z])) q)) hf (Nat.le_refl _) new
    refine ⟨.ref s.heap.objs.size, _, I1, rfl, ⟨_, c, rfl, I.hok.fresh (Nat.le_refl _), hcx, rfl⟩, ⟨⟨.str ⟨#[c]⟩ u, ?_⟩, ?_, hne⟩, fun b hb => ?_⟩
    · have e1 : ((i + 1 : Nat) : Int) = (i : Int) + 1 := by omega
      rw [e1]; exact he'
    · obtain ⟨o, ho', r⟩ := hit'
      exact ⟨o, (sb.2 it (Ne.symm hne)).trans ho', r⟩
    · have hb' : b < s.heap.objs.size := by
        have e' : b = e ∨ b = it := by simpa using hb
        rcases e' with z | z
        · rw [z]; exact hel
        · rw [z]; exact hil
      rw [upd_ne (Nat.ne_of_lt hb')]
      exact (hf b hb).1
  done := by
    intro X hP hw hK hc i pins s σ H E I hf st hg
    subst hP hw hK
    obtain ⟨⟨old, he⟩, hit, hne⟩ := st
    obtain ⟨f0, f1, f2, f3, f4, f5⟩ := hf it (by simp)
    have hx : x.cps[i]? = none := Array.getElem?_eq_none hg
    have hT : s.TypeIs (.ref e) "enumerate" := ⟨_, he, rfl⟩
    unfold pyNext
    refine wpAny_bind (wpAny_attempt (wpAny_callSpecial?_slot (name := Str.ofString "__next__") hT F.slot_enumerate_next
      (wpAny_call_entry F.slot_enumerate_next hT F.entry_enumerate_next ?_ (F.args_enumerate_next_1 _))))
    show wpAny _ _ (field (.ref e) 2 >>= _) _ _ _
    refine wpAny_bind (wpAny_field he rfl (x := .ref it) rfl ?_)
    rcases hty with q | q
    · subst q
      refine wpAny_bind (wpAny_nextOf_ascii_end (A := X.A.in1) (I.ok.hd hc) hit hx fun h' e2 he2 hx' => ?_)
      obtain ⟨o, ho, hcc⟩ := hx'
      refine wpAny_bind (wpAny_isInstance (T := "StopIteration") (b := true) ⟨o, ho, hcc⟩ isSubtype_stop ?_)
      exact wpAny_pure ⟨rfl, I.turned (t' := s.toks) (fun b o hb y => he2 b o hb y) f0 f1 f3 f4 f5⟩
    · subst q
      refine wpAny_bind (wpAny_nextOf_wide_end (A := X.A.in1) (I.ok.hd hc) hit hx fun h' e2 he2 hx' => ?_)
      obtain ⟨o, ho, hcc⟩ := hx'
      refine wpAny_bind (wpAny_isInstance (T := "StopIteration") (b := true) ⟨o, ho, hcc⟩ isSubtype_stop ?_)
      exact wpAny_pure ⟨rfl, I.turned (t' := s.toks) (fun b o hb y => he2 b o hb y) f0 f1 f3 f4 f5⟩
  self := fun A i s Q E st h => let ⟨⟨_, he⟩, _⟩ := st; wpAny_pyIter_enum he h
def iEnumS (ta : TA) : TI := fun σ H R => ta σ H fun vs H1 => ∃ x, vs = [.str x] ∧ R (Ites x) H1
theorem pi_enumS {e : Expr} {ta : TA} {p pos tpos : Pos} {elts : List Expr} {kk : Nat} (hg : Gl X "enumerate") (hm : X.mg "enumerate" = none) (ha : PA X [e] ta) (hs : starEach [e] X.env = [(false, eval e X.env)] := by rfl) :
    PI X (.Tuple elts kk tpos) (.Call (.Name "enumerate" p) [e] [] pos) (iEnumS ta) := by
  refine ⟨fun pins s σ H R I h => ?_⟩
  refine Call_ (ld_blt I hg hm boot_enumerate (PyProof.Rows.callWith_type1 (thn (ha.run pos pins s σ H _ I h) fun us s1 ⟨vs, H1, I1, r1, q1⟩ => ?_) hs rfl))
  obtain ⟨x, ex, q⟩ := q1
  subst ex
  cases r1 with
  | cons r rr =>
    cases rr
    obtain ⟨t, rfl⟩ := r
    refine call_enumerate_str fun h' he hit hsz hk => wpAny_pyIter_enum he ?_
    have I2 : Inv X pins σ H1 { s1 with heap := h' } := I1.kept (t' := s1.toks) hk
    have hty : strIterType x = "str_ascii_iterator" ∨ strIterType x = "str_iterator" := by
      unfold strIterType
      split
      · exact .inl rfl
      · exact .inr rfl
    refine ⟨s1.heap.objs.size + 1, [s1.heap.objs.size + 1, s1.heap.objs.size], _, _, H1, rfl, I2, turn_enumS (s1.heap.objs.size + 1) s1.heap.objs.size x t _ hty, ⟨⟨.none, he⟩, hit, Nat.succ_ne_self _⟩, fun b hb => ?_, q⟩
    have e' : b = s1.heap.objs.size + 1 ∨ b = s1.heap.objs.size := by simpa using hb
    have hle : s1.heap.objs.size ≤ b := by
      rcases e' with z | z
      · rw [z]; exact Nat.le_add_right _ _
      · rw [z]; exact Nat.le_refl _
    exact I1.fpOk hle (I1.hok.fresh hle)
end
/-- a loop over enumerate(text) -/
theorem for_enumS {x : Str} {g : TG} {tb : TS} {D : Ends} {σ : L2.St} {H : Hp} (Pv : Nat → L2.St → Hp → Prop) (h0 : Pv 0 σ H)
    (hs : ∀ i c σ H T, x.cps[i]? = some c → Pv i σ H → H T = none → g (.ref T) σ (upd H T (.tup [.int (i : Nat), .str ⟨#[c]⟩])) fun σ2 H2 => tb { D with nx := Pv (i + 1), ct := Pv (i + 1), bk := D.nx } σ2 H2) (hd : ∀ σ H, Pv x.cps.size σ H → D.nx σ H) :
    ∃ W : Nat → Nat → L2.St → Hp → Prop, (∃ m, W 0 m σ H) ∧ ∀ i m σ H, W i m σ H →
      ((Ites x).stop i H ∧ D.nx σ H) ∨ ((Ites x).go i H ∧ ∃ N : L2.St → Hp → Prop, (∀ σ' H', N σ' H' → ∃ m', m' < m ∧ W (i + 1) m' σ' H') ∧ ∀ v H', (Ites x).yld i H v H' → g v σ H' fun σ2 H2 => tb { D with nx := N, ct := N, bk := D.nx } σ2 H2) := by
  refine ⟨fun i m σ H => m = x.cps.size - i ∧ i ≤ x.cps.size ∧ Pv i σ H, ⟨x.cps.size, by simp, Nat.zero_le _, h0⟩, ?_⟩
  rintro i m σ H ⟨rfl, hi, p⟩
  by_cases hlt : i < x.cps.size
  · refine .inr ⟨hlt, Pv (i + 1), fun σ' H' q => ⟨x.cps.size - (i + 1), by omega, rfl, hlt, q⟩, fun v H' y => ?_⟩
    obtain ⟨T, c, rfl, hT, hc, rfl⟩ := y
    exact hs i c σ H T hc p hT
  · have : i = x.cps.size := by omega
    subst this
    exact .inl ⟨Nat.le_refl _, hd σ H p⟩
/-- a loop over a text's signs -/
theorem for_str {x : Str} {g : TG} {tb : TS} {D : Ends} {σ : L2.St} {H : Hp} (Pv : Nat → L2.St → Hp → Prop) (h0 : Pv 0 σ H)
    (hs : ∀ i c σ H, x.cps[i]? = some c → Pv i σ H → g (.str ⟨#[c]⟩) σ H fun σ2 H2 => tb { D with nx := Pv (i + 1), ct := Pv (i + 1), bk := D.nx } σ2 H2) (hd : ∀ σ H, Pv x.cps.size σ H → D.nx σ H) :
    ∃ W : Nat → Nat → L2.St → Hp → Prop, (∃ m, W 0 m σ H) ∧ ∀ i m σ H, W i m σ H →
      ((Its x).stop i H ∧ D.nx σ H) ∨ ((Its x).go i H ∧ ∃ N : L2.St → Hp → Prop, (∀ σ' H', N σ' H' → ∃ m', m' < m ∧ W (i + 1) m' σ' H') ∧ ∀ v H', (Its x).yld i H v H' → g v σ H' fun σ2 H2 => tb { D with nx := N, ct := N, bk := D.nx } σ2 H2) := by
  refine ⟨fun i m σ H => m = x.cps.size - i ∧ i ≤ x.cps.size ∧ Pv i σ H, ⟨x.cps.size, by simp, Nat.zero_le _, h0⟩, ?_⟩
  rintro i m σ H ⟨rfl, hi, p⟩
  by_cases hlt : i < x.cps.size
  · refine .inr ⟨hlt, Pv (i + 1), fun σ' H' q => ⟨x.cps.size - (i + 1), by omega, rfl, hlt, q⟩, fun v H' y => ?_⟩
    obtain ⟨rfl, c, hc, rfl⟩ := y
    exact hs i c σ H' hc p
  · have : i = x.cps.size := by omega
    subst this
    exact .inl ⟨Nat.le_refl _, hd σ H p⟩
/-- a comprehension over zip(two lists) -/
theorem lc_zip {K : PySem.W.Frag} {a b : Addr} {xs ys : List V} {g : TG} {tt : TT} {te : TE} {vs : List Nat} {σ : L2.St} {H1 : Hp} {D : Addr} {Qd : Hp → Prop} (Pv : Nat → Hp → Prop) (h0 : Pv 0 (upd H1 D (.lst [])))
    (hl : ∀ i H, Pv i H → SqL K H a xs ∧ SqL K H b ys)
    (hs : ∀ i x y H T, xs[i]? = some x → ys[i]? = some y → Pv i H → H T = none → g (.ref T) (wipe σ vs) (upd H T (.tup [x, y])) fun σ2 H2 => wipe σ2 vs = wipe σ vs ∧ tt σ2 H2 fun b H3 =>
      if b = true then te σ2 H3 fun y H4 => ∃ acc, H4 D = some (.lst acc) ∧ acc.length < sizeLine ∧ Pv (i + 1) (upd H4 D (.lst (acc ++ [y]))) else Pv (i + 1) H3)
    (hd : ∀ H, Pv (min xs.length ys.length) H → Qd H) :
    ∃ W : Nat → Nat → Hp → Prop, (∃ m, W 0 m (upd H1 D (.lst []))) ∧ ∀ i m H, W i m H →
      ((Itz K a b).stop i H ∧ Qd H) ∨ ((Itz K a b).go i H ∧ ∃ Nx : Hp → Prop, (∀ H', Nx H' → ∃ m', m' < m ∧ W (i + 1) m' H') ∧ ∀ x H', (Itz K a b).yld i H x H' → g x (wipe σ vs) H' fun σ2 H2 => wipe σ2 vs = wipe σ vs ∧ tt σ2 H2 fun b H3 =>
        if b = true then te σ2 H3 fun y H4 => ∃ acc, H4 D = some (.lst acc) ∧ acc.length < sizeLine ∧ Nx (upd H4 D (.lst (acc ++ [y]))) else Nx H3) := by
  refine ⟨fun i m H => m = min xs.length ys.length - i ∧ i ≤ min xs.length ys.length ∧ Pv i H, ⟨_, rfl, Nat.zero_le _, h0⟩, ?_⟩
  rintro i m H ⟨rfl, hi, p⟩
  obtain ⟨q1, q2⟩ := hl i H p
  by_cases hlt : i < min xs.length ys.length
  · have l1 : i < xs.length := by omega
    have l2 : i < ys.length := by omega
    refine .inr ⟨⟨xs, ys, _, _, q1, q2, List.getElem?_eq_getElem l1, List.getElem?_eq_getElem l2⟩, Pv (i + 1), fun H' q => ⟨_, by omega, rfl, hlt, q⟩, fun v H' y => ?_⟩
    obtain ⟨T, x, y, rfl, hT, rfl, e1, e2⟩ := y
    exact hs i x y H T (e1 xs q1) (e2 ys q2) p hT
  · have : i = min xs.length ys.length := by omega
    subst this
    exact .inl ⟨⟨xs, ys, q1, q2, by omega⟩, hd H p⟩
theorem lst_len {P : Prop} (h : P) : P := h
end TT

set_option linter.all false
set_option maxRecDepth 100000
/-! texts cut and joined, as lists of signs -/
namespace TT
open PySem PySem.Spec PyProof.Rows L2
open TL (joinL join_eq tl_join split_join tl)
theorem cnt_count (c : Nat) : ∀ l : List Nat, cnt c l = ((l.count c : Nat) : Int)
  | [] => rfl
  | x :: r => by
    rw [cnt_cons, cnt_count c r, List.count_cons]
    by_cases h : x = c <;> simp [h] <;> omega
theorem count_S (l : List Nat) (c : Nat) : Txt.count (S l) (S [c]) = ((l.count c : Nat) : Int) := by
  have := count_cnt (S l) c
  rw [cnt_count] at this
  exact this
/-- cut at every c -/
def spl (c : Nat) : List Nat → List (List Nat)
  | [] => [[]]
  | x :: xs => if x = c then [] :: spl c xs else ((x :: (spl c xs).headD []) :: (spl c xs).tail)
theorem spl_ne (c : Nat) (l : List Nat) : spl c l ≠ [] := by
  cases l with
  | nil => simp [spl]
  | cons x xs => unfold spl; split <;> simp
theorem spl_eq (c : Nat) (l : List Nat) : spl c l = (spl c l).headD [] :: (spl c l).tail := by
  have := spl_ne c l
  cases h : spl c l with
  | nil => exact absurd h this
  | cons a b => rfl
theorem spl_length (c : Nat) : ∀ l : List Nat, (spl c l).length = l.count c + 1
  | [] => rfl
  | x :: xs => by
    unfold spl
    have ih := spl_length c xs
    rw [List.count_cons]
    by_cases h : x = c
    · simp [h, ih]
    · simp [h]; have := spl_eq c xs; omega
theorem spl_free (c : Nat) : ∀ l : List Nat, ∀ p ∈ spl c l, c ∉ p
  | [], p, hp => by simp [spl] at hp; subst hp; simp
  | x :: xs, p, hp => by
    have ih := spl_free c xs
    rw [spl_eq c xs] at ih
    unfold spl at hp
    by_cases h : x = c
    · simp only [h, if_true] at hp
      rcases List.mem_cons.mp hp with rfl | hp
      · simp
      · rw [spl_eq c xs] at hp; exact ih p hp
    · simp only [h, if_false] at hp
      rcases List.mem_cons.mp hp with rfl | hp
      · intro hc
        rcases List.mem_cons.mp hc with rfl | hc
        · exact h rfl
        · exact ih _ List.mem_cons_self hc
      · exact ih p (List.mem_cons_of_mem _ hp)
theorem spl_joinL (c : Nat) : ∀ l : List Nat, joinL [c] (spl c l) = l
  | [] => rfl
  | x :: xs => by
    have ih := spl_joinL c xs
    unfold spl
    by_cases h : x = c
    · simp only [h, if_true]
      rw [spl_eq c xs] at ih ⊢
      show [] ++ ([c] ++ joinL [c] (_ :: _)) = c :: xs
      rw [ih]; rfl
    · simp only [h, if_false]
      rw [spl_eq c xs] at ih
      cases ht : (spl c xs).tail with
      | nil =>
        rw [ht] at ih
        show x :: (spl c xs).headD [] = x :: xs
        have ih' : (spl c xs).headD [] = xs := ih
        rw [ih']
      | cons q r =>
        rw [ht] at ih
        show (x :: (spl c xs).headD []) ++ ([c] ++ joinL [c] (q :: r)) = x :: xs
        have ih' : (spl c xs).headD [] ++ ([c] ++ joinL [c] (q :: r)) = xs := ih
        rw [List.cons_append, ih']
theorem tl_S (l : List Nat) : tl (S l) = l := by simp [tl]
theorem tl_mapS : ∀ ls : List (List Nat), (ls.map S).map tl = ls
  | [] => rfl
  | l :: ls => by rw [List.map_cons, List.map_cons, tl_S, tl_mapS ls]
theorem S_tl (x : Str) : S (tl x) = x := by cases x; simp [tl]
theorem split_S (l : List Nat) (c : Nat) (hc : c < 256) : Txt.split (S l) (S [c]) = (spl c l).map S := by
  have e : Txt.join (S [c]) ((spl c l).map S) = S l := by
    rw [join_eq, ← S_tl (Str.join _ _), tl_join, tl_mapS, tl_S, spl_joinL]
  rw [← e]
  refine split_join (s := c) (S := []) (tl_S _) (by simp [hc]) (by simp [spl_ne]) fun p hp => ?_
  obtain ⟨q, hq, rfl⟩ := List.mem_map.mp hp
  rw [tl_S]
  exact spl_free c l q hq
theorem joinL_nil : ∀ ls : List (List Nat), joinL [] ls = ls.flatten
  | [] => rfl
  | [p] => by simp [joinL]
  | p :: q :: r => by
    show p ++ ([] ++ joinL [] (q :: r)) = _
    rw [joinL_nil (q :: r)]; simp
theorem join_S (ls : List (List Nat)) : Txt.join (S []) (ls.map S) = S ls.flatten := by
  rw [join_eq, ← S_tl (Str.join _ _), tl_join, tl_mapS, tl_S, joinL_nil]

/-! ### a text with its leaves' signs replaced -/
def sub46 : List Nat → List (List Nat) → List Nat
  | [], _ => []
  | x :: xs, ys => if x = 46 then ys.headD [] ++ sub46 xs ys.tail else x :: sub46 xs ys
theorem sub46_other {x : Nat} (xs : List Nat) (ys : List (List Nat)) (h : x ≠ 46) : sub46 (x :: xs) ys = x :: sub46 xs ys := by
  show (if x = 46 then _ else _) = _
  rw [if_neg h]
theorem weave : ∀ (l : List Nat) (ys : List (List Nat)), ys.length = l.count 46 → (spl 46 l).headD [] ++ (List.zipWith (fun i p => i ++ p) ys (spl 46 l).tail).flatten = sub46 l ys
  | [], ys, h => by simp [spl, sub46]
  | x :: xs, ys, h => by
    rw [List.count_cons] at h
    unfold spl sub46
    by_cases hx : x = 46
    · simp only [hx, if_true]
      cases ys with
      | nil => simp [hx] at h
      | cons y ys =>
        have hl : ys.length = xs.count 46 := by simp [hx] at h; exact h
        have ih := weave xs ys hl
        rw [spl_eq 46 xs]
        simp only [List.headD_cons, List.tail_cons, List.zipWith_cons_cons, List.flatten_cons, List.nil_append, List.append_assoc]
        rw [ih]
    · simp only [hx, if_false]
      have hl : ys.length = xs.count 46 := by simp [hx] at h; exact h
      have ih := weave xs ys hl
      simp only [List.headD_cons, List.tail_cons, List.cons_append]
      rw [ih]
theorem count_tree : ∀ t : Tr, t.cs.count 46 = t.lvs
  | .leaf => rfl
  | .node l r => by simp [Tr.cs, Tr.lvs, count_tree l, count_tree r]
theorem count_open : ∀ t : Tr, t.cs.count 40 = t.size
  | .leaf => rfl
  | .node l r => by simp [Tr.cs, Tr.size, count_open l, count_open r]
theorem sub_tree : ∀ (t : Tr) (rest : List Nat) (xs : List Tr), t.lvs ≤ xs.length → sub46 (t.cs ++ rest) (xs.map Tr.cs) = (t.growR xs).1.cs ++ sub46 rest ((t.growR xs).2.map Tr.cs)
  | .leaf, rest, [], h => by simp [Tr.lvs] at h
  | .leaf, rest, x :: xs, h => by simp [Tr.cs, sub46, Tr.growR]
  | .node l r, rest, xs, h => by
    simp only [Tr.lvs] at h
    have hl := Tr.growR_len l xs (by omega)
    show sub46 (40 :: ((l.cs ++ (r.cs ++ [41])) ++ rest)) _ = _
    rw [sub46_other _ _ (by decide), List.append_assoc, sub_tree l _ xs (by omega), List.append_assoc, sub_tree r _ _ (by omega)]
    show _ = (40 :: ((l.growR xs).1.cs ++ ((r.growR (l.growR xs).2).1.cs ++ [41]))) ++ _
    simp only [List.cons_append, List.append_assoc, List.nil_append]
    rw [sub46_other _ _ (by decide)]
    rfl
theorem grown_text (t : Tr) (xs : List Tr) (h : xs.length = t.lvs) :
    (spl 46 t.cs).headD [] ++ (List.zipWith (fun i p => i ++ p) (xs.map Tr.cs) (spl 46 t.cs).tail).flatten = (t.grow xs).cs := by
  rw [weave _ _ (by rw [List.length_map, count_tree]; exact h)]
  have := sub_tree t [] xs (by omega)
  rw [List.append_nil] at this
  rw [this]
  unfold Tr.grow
  show _ ++ [] = _
  rw [List.append_nil]
theorem spl_le (c : Nat) : ∀ l : List Nat, ∀ p ∈ spl c l, p.length ≤ l.length
  | [], p, hp => by simp [spl] at hp; subst hp; simp
  | x :: xs, p, hp => by
    have ih := spl_le c xs
    rw [spl_eq c xs] at ih
    unfold spl at hp
    by_cases h : x = c
    · simp only [h, if_true] at hp
      rcases List.mem_cons.mp hp with rfl | hp
      · simp
      · rw [spl_eq c xs] at hp
        exact Nat.le_succ_of_le (ih p hp)
    · simp only [h, if_false] at hp
      rcases List.mem_cons.mp hp with rfl | hp
      · exact Nat.succ_le_succ (ih _ List.mem_cons_self)
      · exact Nat.le_succ_of_le (ih p (List.mem_cons_of_mem _ hp))
theorem growR_size {B : Nat} : ∀ (t : Tr) (xs : List Tr), (∀ x ∈ xs, x.size ≤ B) → (t.growR xs).1.size ≤ t.size + t.lvs * B ∧ ∀ x ∈ (t.growR xs).2, x.size ≤ B
  | .leaf, [], h => by simp [Tr.growR, Tr.size]
  | .leaf, x :: xs, h => by
    have := h x List.mem_cons_self
    refine ⟨?_, fun y hy => h y (List.mem_cons_of_mem _ hy)⟩
    show x.size ≤ 0 + 1 * B
    omega
  | .node l r, xs, h => by
    obtain ⟨h1, h2⟩ := growR_size l xs h
    obtain ⟨h3, h4⟩ := growR_size r _ h2
    refine ⟨?_, h4⟩
    show (l.growR xs).1.size + (r.growR (l.growR xs).2).1.size + 1 ≤ l.size + r.size + 1 + (l.lvs + r.lvs) * B
    rw [Nat.add_mul]
    omega
theorem grow_size {B : Nat} (t : Tr) (xs : List Tr) (h : ∀ x ∈ xs, x.size ≤ B) : (t.grow xs).size ≤ t.size + t.lvs * B := (growR_size t xs h).1
theorem sumlen_S (ls : List (List Nat)) : ((ls.map S).map (·.length)).sum = ls.flatten.length := by
  induction ls with
  | nil => rfl
  | cons l ls ih => rw [List.map_cons, List.map_cons, List.sum_cons, ih, List.flatten_cons, List.length_append, S_len]
end TT

set_option linter.all false
set_option maxRecDepth 100000
/-! where the parts end: as the program goes along the signs -/
namespace TT
open PySem
def endsRun : List Nat → Nat → List Nat → List Nat → Option (List Nat)
  | [], _, b, st => if st = [] then some b else none
  | c :: cs, k, b, st =>
    if c = 40 then endsRun cs (k + 1) b (k :: st)
    else if c = 41 then
      match st with
      | [] => none
      | o :: st' => if o < b.length then endsRun cs (k + 1) (b.set o (k + 1)) st' else none
    else if k < b.length then endsRun cs (k + 1) (b.set k (k + 1)) st else none
theorem endsRun_open (cs : List Nat) (k : Nat) (b st : List Nat) : endsRun (40 :: cs) k b st = endsRun cs (k + 1) b (k :: st) := rfl
theorem endsRun_close (cs : List Nat) (k o : Nat) (b st : List Nat) (h : o < b.length) : endsRun (41 :: cs) k b (o :: st) = endsRun cs (k + 1) (b.set o (k + 1)) st := by
  show (if o < b.length then _ else _) = _
  rw [if_pos h]
theorem endsRun_dot (cs : List Nat) (k : Nat) (b st : List Nat) (h : k < b.length) : endsRun (46 :: cs) k b st = endsRun cs (k + 1) (b.set k (k + 1)) st := by
  show (if k < b.length then _ else _) = _
  rw [if_pos h]
theorem set_mid (A : List Nat) (x y : Nat) (B : List Nat) : (A ++ x :: B).set A.length y = A ++ y :: B := by
  rw [List.set_append_right _ _ (Nat.le_refl _), Nat.sub_self]; rfl
theorem endsRun_tree : ∀ (t : Tr) (rest : List Nat) (k : Nat) (A B st : List Nat), A.length = k →
    endsRun (t.cs ++ rest) k (A ++ (List.replicate t.len 0 ++ B)) st = endsRun rest (k + t.len) (A ++ (Tr.ends k t ++ B)) st
  | .leaf, rest, k, A, B, st, h => by
    subst h
    show endsRun (46 :: rest) A.length (A ++ (0 :: B)) st = endsRun rest (A.length + 1) (A ++ ((A.length + 1) :: B)) st
    rw [endsRun_dot _ _ _ _ (by simp), set_mid]
  | .node l r, rest, k, A, B, st, h => by
    subst h
    have e : List.replicate (Tr.node l r).len 0 ++ B = 0 :: (List.replicate l.len 0 ++ (List.replicate r.len 0 ++ (0 :: B))) := by
      show List.replicate (l.len + r.len + 2) 0 ++ B = _
      rw [show l.len + r.len + 2 = 1 + l.len + r.len + 1 by omega, ← List.replicate_append_replicate, ← List.replicate_append_replicate, ← List.replicate_append_replicate]
      show (([0] ++ List.replicate l.len 0) ++ List.replicate r.len 0 ++ [0]) ++ B = _
      simp only [List.append_assoc, List.cons_append, List.nil_append]
    rw [e]
    show endsRun (40 :: ((l.cs ++ (r.cs ++ [41])) ++ rest)) A.length _ st = _
    rw [endsRun_open, List.append_assoc]
    have e1 : A ++ 0 :: (List.replicate l.len 0 ++ (List.replicate r.len 0 ++ (0 :: B))) = (A ++ [0]) ++ (List.replicate l.len 0 ++ (List.replicate r.len 0 ++ (0 :: B))) := by simp
    rw [e1, endsRun_tree l _ (A.length + 1) (A ++ [0]) _ _ (by simp), List.append_assoc]
    have e2 : (A ++ [0]) ++ (Tr.ends (A.length + 1) l ++ (List.replicate r.len 0 ++ (0 :: B))) = (A ++ [0] ++ Tr.ends (A.length + 1) l) ++ (List.replicate r.len 0 ++ (0 :: B)) := by simp
    rw [e2, endsRun_tree r _ (A.length + 1 + l.len) _ _ _ (by simp [Tr.ends_length]; omega)]
    show endsRun (41 :: ([] ++ rest)) _ _ (A.length :: st) = _
    rw [endsRun_close _ _ _ _ _ (by simp)]
    have e3 : (A ++ [0] ++ Tr.ends (A.length + 1) l) ++ (Tr.ends (A.length + 1 + l.len) r ++ (0 :: B)) = A ++ 0 :: (Tr.ends (A.length + 1) l ++ (Tr.ends (A.length + 1 + l.len) r ++ (0 :: B))) := by simp
    rw [e3, set_mid]
    have e4 : A.length + 1 + l.len + r.len + 1 = A.length + (Tr.node l r).len := by show _ = A.length + (l.len + r.len + 2); omega
    rw [e4]
    simp only [List.nil_append, Tr.ends, List.cons_append, List.append_assoc]
theorem endsRun_text (t : Tr) : endsRun t.cs 0 (List.replicate t.len 0) [] = some (Tr.ends 0 t) := by
  have := endsRun_tree t [] 0 [] [] [] rfl
  simp only [List.append_nil, List.nil_append] at this
  rw [this]; rfl
/-- what a step says -/
theorem endsRun_step {c : Nat} {cs : List Nat} {k : Nat} {b st F : List Nat} (h : endsRun (c :: cs) k b st = some F) :
    (c = 40 ∧ endsRun cs (k + 1) b (k :: st) = some F) ∨ (c = 41 ∧ ∃ o st', st = o :: st' ∧ o < b.length ∧ endsRun cs (k + 1) (b.set o (k + 1)) st' = some F) ∨
    (c ≠ 40 ∧ c ≠ 41 ∧ k < b.length ∧ endsRun cs (k + 1) (b.set k (k + 1)) st = some F) := by
  by_cases h1 : c = 40
  · subst h1; exact .inl ⟨rfl, h⟩
  by_cases h2 : c = 41
  · subst h2
    cases st with
    | nil => exact nomatch (show (none : Option (List Nat)) = some F from h)
    | cons o st' =>
      have h : (if o < b.length then endsRun cs (k + 1) (b.set o (k + 1)) st' else none) = some F := h
      by_cases h3 : o < b.length
      · rw [if_pos h3] at h; exact .inr (.inl ⟨rfl, o, st', rfl, h3, h⟩)
      · rw [if_neg h3] at h; cases h
  · have h : (if c = 40 then endsRun cs (k + 1) b (k :: st) else if c = 41 then _ else if k < b.length then endsRun cs (k + 1) (b.set k (k + 1)) st else none) = some F := h
    rw [if_neg h1, if_neg h2] at h
    by_cases h3 : k < b.length
    · rw [if_pos h3] at h; exact .inr (.inr ⟨h1, h2, h3, h⟩)
    · rw [if_neg h3] at h; cases h
end TT

set_option linter.all false
set_option maxRecDepth 100000
/-! two trees gone along together: what is still ahead -/
namespace TT
open PySem
abbrev Ag := List (Option (Tr × Tr))
namespace Ag
def tl : Ag → List Nat
  | [] => []
  | none :: r => 41 :: tl r
  | some p :: r => p.1.cs ++ tl r
def tr : Ag → List Nat
  | [] => []
  | none :: r => 41 :: tr r
  | some p :: r => p.2.cs ++ tr r
def hangs : Ag → Option (List Tr)
  | [] => some []
  | none :: r => hangs r
  | some p :: r => (Tr.hang p.1 p.2).bind fun x => (hangs r).map fun y => x ++ y
/-- the parts ahead stand at their places of the first tree's text, of the second's -/
def AtL (T : Tr) : Nat → Ag → Prop
  | _, [] => True
  | k, none :: r => AtL T (k + 1) r
  | k, some p :: r => Tr.Sub T k p.1 ∧ AtL T (k + p.1.len) r
def AtR (T : Tr) : Nat → Ag → Prop
  | _, [] => True
  | k, none :: r => AtR T (k + 1) r
  | k, some p :: r => Tr.Sub T k p.2 ∧ AtR T (k + p.2.len) r
end Ag
theorem cs_head (t : Tr) : ∃ r, t.cs = (if t = .leaf then 46 else 40) :: r := by
  cases t with
  | leaf => exact ⟨[], rfl⟩
  | node l r => exact ⟨_, rfl⟩
theorem Ag.tr_nil {ag : Ag} (h : ag.tr = []) : ag = [] := by
  match ag with
  | [] => rfl
  | none :: r => simp [Ag.tr] at h
  | some p :: r =>
    obtain ⟨q, e⟩ := cs_head p.2
    simp [Ag.tr, e] at h
theorem Ag.tl_nil {ag : Ag} (h : ag.tl = []) : ag = [] := by
  match ag with
  | [] => rfl
  | none :: r => simp [Ag.tl] at h
  | some p :: r =>
    obtain ⟨q, e⟩ := cs_head p.1
    simp [Ag.tl, e] at h
theorem Sub_left {T l r : Tr} {k : Nat} (h : Tr.Sub T k (.node l r)) : Tr.Sub T (k + 1) l := .left h
theorem Sub_right {T l r : Tr} {k : Nat} (h : Tr.Sub T k (.node l r)) : Tr.Sub T (k + 1 + l.len) r := .right h
theorem drop_cons {α : Type} {l : List α} {k : Nat} {x : α} {r : List α} (h : l.drop k = x :: r) : l[k]? = some x ∧ k < l.length ∧ l.drop (k + 1) = r := by
  have hk : k < l.length := by
    by_cases hk : k < l.length
    · exact hk
    · rw [List.drop_eq_nil_of_le (by omega)] at h; cases h
  rw [List.drop_eq_getElem_cons hk] at h
  injection h with h1 h2
  exact ⟨by rw [List.getElem?_eq_getElem hk, h1], hk, h2⟩
theorem drop_app {α : Type} {l a r : List α} {k : Nat} (h : l.drop k = a ++ r) : l.drop (k + a.length) = r := by
  rw [← List.drop_drop, h, List.drop_left]
theorem rixs {l : List Nat} {k c : Nat} {H : L2.Hp} {Q : L2.VK} (hl : l.length ≤ 16000000) (h : l[k]? = some c) (q : Q (.str ⟨#[c]⟩) H) : L2.rIxS (.str (S l)) (.int (k : Nat)) H Q :=
  ⟨S l, (k : Int), c, rfl, rfl, by rw [S_len]; exact small5 hl, L2.atI_nat (by simpa using h), q⟩
theorem rixl {K : PySem.W.Frag} {a : Addr} {xs : List L2.V} {k : Nat} {x : L2.V} {H : L2.Hp} {Q : L2.VK} (ha : H a = some (.lst xs)) (h : xs[k]? = some x) (q : Q x H) : L2.rIxL K (.ref a) (.int (k : Nat)) H Q :=
  ⟨a, xs, (k : Int), x, rfl, rfl, L2.SqL.of ha, L2.atI_nat h, q⟩
namespace Ag
def outs : Ag → List Nat
  | [] => []
  | none :: r => 41 :: outs r
  | some p :: r => (Tr.meet p.1 p.2).cs ++ outs r
end Ag
theorem signs_join (l : List Nat) : Txt.join (S []) (l.map fun c => S [c]) = S l := by
  have e : (l.map fun c => S [c]) = (l.map fun c => [c]).map S := by rw [List.map_map]; rfl
  rw [e, join_S]
  congr 1
  clear e
  induction l with
  | nil => rfl
  | cons a r ih => rw [List.map_cons, List.flatten_cons]; show [a] ++ _ = _; rw [show (List.map (fun c => [c]) r).flatten = r from by simpa using ih]; rfl
theorem signs_sum (l : List Nat) : ((l.map fun c => S [c]).map (·.length)).sum = l.length := by
  induction l with
  | nil => rfl
  | cons a r ih => rw [List.map_cons, List.map_cons, List.sum_cons, ih, S_len]; simp; omega
theorem hang_size : ∀ (s c : Tr) (xs : List Tr), Tr.hang s c = some xs → ∀ x ∈ xs, x.size ≤ s.size
  | s, .leaf, xs, h => by
    simp [Tr.hang] at h; subst h
    intro x hx
    rw [List.mem_singleton.mp hx]
    exact Nat.le_refl _
  | .leaf, .node _ _, xs, h => by simp [Tr.hang] at h
  | .node a b, .node c d, xs, h => by
    simp only [Tr.hang, Option.bind_eq_some_iff, Option.map_eq_some_iff] at h
    obtain ⟨x, hx, y, hy, rfl⟩ := h
    intro z hz
    show z.size ≤ a.size + b.size + 1
    rcases List.mem_append.mp hz with hz | hz
    · have := hang_size a c x hx z hz; omega
    · have := hang_size b d y hy z hz; omega
theorem mem_pick : ∀ (xs ys : List Tr), ∀ x ∈ List.zipWith Tr.pick xs ys, x ∈ xs ∨ x ∈ ys
  | [], _, x, h => by simp at h
  | _ :: _, [], x, h => by simp at h
  | a :: xs, b :: ys, x, h => by
    rw [List.zipWith_cons_cons] at h
    rcases List.mem_cons.mp h with rfl | h
    · unfold Tr.pick
      split
      · exact .inr List.mem_cons_self
      · exact .inl List.mem_cons_self
    · rcases mem_pick xs ys x h with h | h
      · exact .inl (List.mem_cons_of_mem _ h)
      · exact .inr (List.mem_cons_of_mem _ h)
end TT

set_option Elab.async false
set_option linter.all false
set_option maxRecDepth 100000
set_option maxHeartbeats 4000000
/-! TX: errors that are kept as values: made, asked for their class, their field read; repr of plain data. -/
namespace TX
open PySem PySem.Spec PyProof.Rows L2

/-! ### classes -/
/-- what the written part says of an own error class: its line of ancestors, and what its instances are asked by -/
structure ErrC (K : PySem.W.Frag) (C : Addr) (l : List Value) : Prop where
  mro : (PySem.W.clsIn K C).map (·.mro) = some l
  ty : PySem.W.typeIn K (.ref C) = some (.type "type")
  ec : ExcC K C
theorem ErrC.isSome {K : PySem.W.Frag} {C : Addr} {l : List Value} (x : ErrC K C l) : (PySem.W.clsIn K C).isSome = true := by
  have e := x.mro
  cases q : PySem.W.clsIn K C with
  | some _ => rfl
  | none => rw [q] at e; cases e
theorem ErrC.sub {K : PySem.W.Frag} {C : Addr} {l : List Value} (x : ErrC K C l) (hl : l.isEmpty = false) (v : Value) : PySem.W.subIn K (.ref C) v = some (l.contains v) := by
  show PySem.W.mroIn K C v = _
  unfold PySem.W.mroIn
  have e := x.mro
  cases q : PySem.W.clsIn K C with
  | none => rw [q] at e; cases e
  | some cd =>
    rw [q] at e
    have e2 : cd.mro = l := Option.some.inj e
    rw [Option.bind_some, e2, hl]
    rfl
/-- isinstance's answer for two own classes -/
theorem kit_own {K : PySem.W.Frag} {C D : Addr} {l l' : List Value} (x : ErrC K C (.ref C :: l)) (y : ErrC K D l') : PySem.W.kitOne K (.ref C) (.ref D) = some (decide (C = D) || l.contains (.ref D)) := by
  unfold PySem.W.kitOne
  by_cases h : C = D
  · subst h
    simp
  · have e : ((Value.ref C) == (Value.ref D)) = false := beq_eq_false_iff_ne.mpr fun z => h (Value.ref.inj z)
    rw [e, if_neg Bool.false_ne_true]
    unfold PySem.W.kitCls
    dsimp only
    rw [if_pos (by rw [y.isSome, y.ty]; rfl), x.sub rfl, List.contains_cons]
    have e2 : ((Value.ref D) == (Value.ref C)) = false := beq_eq_false_iff_ne.mpr fun z => h (Value.ref.inj z).symm
    rw [e2]
    simp [h]
theorem kit_ve {K : PySem.W.Frag} {C : Addr} {l : List Value} (x : ErrC K C l) (hl : l.isEmpty = false) : PySem.W.kitOne K (.ref C) (.type "ValueError") = some (l.contains (.type "ValueError")) := by
  unfold PySem.W.kitOne
  have e : ((Value.ref C) == (Value.type "ValueError")) = false := rfl
  rw [e, if_neg Bool.false_ne_true]
  unfold PySem.W.kitCls
  dsimp only
  rw [if_pos (by decide +kernel), x.sub hl]

/-! ### an error as a value -/
/-- at a: an error of the class at C with the fields fs -/
def Err (H : Hp) (a C : Addr) (fs : List (Str × V)) : Prop := ∃ d, H a = some (exo a C (some d)) ∧ H d = some (exd d fs)
/-- at a: an error whose __init__ has stored nothing -/
def Err0 (H : Hp) (a C : Addr) : Prop := H a = some (exo a C none)
theorem Err.same {H H' : Hp} {a C : Addr} {fs : List (Str × V)} (e : Err H a C fs) (h : ∀ b o, H b = some o → H' b = some o) : Err H' a C fs :=
  let ⟨d, h1, h2⟩ := e
  ⟨d, h _ _ h1, h _ _ h2⟩

section
variable {X : Cx} {pins : List (Addr × Obj)} {σ : L2.St} {H : Hp} {s : Shared} {a C : Addr} {fs : List (Str × V)}
theorem inst_of (I : Inv X pins σ H s) (e : Err H a C fs ∨ Err0 H a C) : ∃ ox od, PySem.W.InstAt s.heap a ox C od := by
  rcases e with ⟨d, h1, h2⟩ | h1
  · obtain ⟨t1, ho⟩ := exo_at I.hok h1
    obtain ⟨mA, hns, _⟩ := exd_at I.hok h2
    obtain ⟨od, hd, _⟩ := lookIn_ns hns
    exact ⟨_, some od, ho, rfl, rfl, hd⟩
  · obtain ⟨t1, ho⟩ := exo_at I.hok h1
    exact ⟨_, none, ho, rfl, rfl, trivial⟩
end
/-- isinstance(e, c): e an error that is kept -/
def rIsX (K : PySem.W.Frag) : List V → Hp → VK → Prop := fun xs H Q => ∃ (a C : Addr) (fs : List (Str × V)) (c : V) (cv : Value) (b : Bool), xs = [.ref a, c] ∧ ExcC K C ∧ (Err H a C fs ∨ Err0 H a C) ∧ ClsV c cv ∧ PySem.W.kitOne K (.ref C) cv = some b ∧ Q (.bl b) H
theorem call_isX {X : Cx} : CallR X (.builtin "isinstance") (rIsX X.K) := by
  intro pins s σ H xs us Q I r h
  obtain ⟨a, C, fs, c, cv, b, rfl, hC, he, k, e, q⟩ := h
  obtain ⟨u1, u2, rfl, r1, r2⟩ := vals2 r
  cases (show u1 = Value.ref a from r1)
  have e2 := k.eq r2
  subst e2
  obtain ⟨ox, od, J⟩ := inst_of I he
  refine PySem.W.kia_one (PySem.W.kitx_exc (ox := ox) (od := od) ?_ hC.hg hC.hk hC.hs hC.ha hC.hn hC.ht hC.hm) I.kIn J e (fun z => nomatch z) fun tk => ⟨.bl b, H, I.tok tk, rfl, q⟩
  have z := hC.hd
  unfold PySem.W.hasDictIn at z
  cases w : PySem.W.clsIn X.K C with
  | some _ => rfl
  | none => rw [w] at z; cases z
/-- e.f: a field of an error that is kept -/
def tFx (K : PySem.W.Frag) (f : Str) (te : TE) : TE := fun σ H Q => te σ H fun x H1 => ∃ (a C : Addr) (fs : List (Str × V)) (v : V), x = .ref a ∧ XfC K C ∧ PySem.W.findIn K (.ref C) f = some none ∧ Err H1 a C fs ∧ fs.lookup f = some v ∧ Q v H1
theorem pe_fx {X : Cx} {e : Expr} {te : TE} {pos : Pos} {f : Str} (he : PE X e te) (hb : attributeBase e f X.env (eval e X.env) = eval e X.env := by rfl) : PE X (.Attribute e f pos) (tFx X.K f te) := by
  refine ⟨fun pins s σ H Q I h => attr_of hb (thn (he.run pins s σ H _ I h) fun u s1 ⟨x, H1, I1, rx, a, C, fs, v, ex, T, hno, ⟨d, h1, h2⟩, l, q⟩ => ?_)⟩
  subst ex
  cases (show u = Value.ref a from rx)
  obtain ⟨t1, ho⟩ := exo_at I1.hok h1
  obtain ⟨mA, hns, hr⟩ := exd_at I1.hok h2
  obtain ⟨od, hd, hl⟩ := lookIn_ns hns
  obtain ⟨y, hy, ry⟩ := RelO.some_of (v := v) (o := mA f) (by rw [← l]; exact hr f)
  have J : PySem.W.InstAt s1.heap a ({ cls := .ref C, dict := some d, data := .fields #[.ref t1, .none, .none, .none, .bool false, .none] } : Obj) C (some od) := ⟨ho, rfl, rfl, hd⟩
  exact HandSPX.exc_get I1.kIn J T.ga T.gg T.exC (PySem.W.findObj_own T.hdC hno rfl (by rw [hl, hy])) (handed_of ry) ⟨v, H1, I1.tok _, ry, q⟩
/-! ### an error is made -/
/-- C(e, ..): sp is what C's __init__ keeps -/
def tMx (C : Addr) (sp : Sp) (dvs : List V) (ta : TA) : TE := fun σ H Q => ta σ H fun vs H1 => vs.length ≤ 1000 ∧ ∀ a, H1 a = none → sp (.ref a :: (vs ++ dvs)) (upd H1 a (exo a C none)) (fun v H2 => v = .non ∧ Q (.ref a) H2) (fun _ _ _ => False)
section
variable {X : Cx} {CX : CXT} {x : Str} {C fI : Addr} {k : Nat} {fd : FuncData} {ps : List Str} {sp : Sp} {ds : List Value} {dvs : List V} {e : Expr} {es : List Expr} {ta : TA} {p pos : Pos}
theorem run_mx {pins : List (Addr × Obj)} {σ : L2.St} {H1 : Hp} {s1 : Shared} {Q : VK} {us : List Value} {vs : List V} (T : OexC X.K C) (iC : PySem.W.findIn X.K (.ref C) "__init__" = some (some (.ref fI))) (tI : PySem.W.typeIn X.K (.ref fI) = some (.type "function"))
    (F1 : FnOk X.prog X.w X.K X.mg X.base CX k fI fd ps sp) (hr : Room (k + 1) X.A) (hb : Binds X.K fd ps ds) (hd : Vals dvs ds) (hx : Passes CX X (fun _ _ _ => False)) (I1 : Inv X pins σ H1 s1) (r1 : Vals vs us) (hz : vs.length ≤ 1000)
    (q1 : ∀ a, H1 a = none → sp (.ref a :: (vs ++ dvs)) (upd H1 a (exo a C none)) (fun v H2 => v = .non ∧ Q (.ref a) H2) (fun _ _ _ => False)) : wpAny (model X.prog X.w) X.A (call (.ref C) us) (EP X pins σ Q) X.xe s1 := by
  obtain ⟨nm, qn, N, bs, bm, sn, sub, ab, col, dd, k0, k1, k2, k3, k5, hC, hbm⟩ := T.cls
  obtain ⟨hp, g, dr, tk, os⟩ := s1
  have above : hp.objs.size ≤ hp.objs.size + 1 := Nat.le_succ _
  have new : H1 (hp.objs.size + 1) = none := I1.hok.fresh above
  have run := q1 _ new
  have laid : ∀ b o, hp.get? b = some o → ((hp.push (PySem.W.kdv_tup us)).push (PySem.HandSPX.excO C hp.objs.size)).get? b = some o := fun b o z => Heap.get?_push_of_some _ (Heap.get?_push_of_some _ z)
  have there : ((hp.push (PySem.W.kdv_tup us)).push (PySem.HandSPX.excO C hp.objs.size)).get? (hp.objs.size + 1) = some (PySem.HandSPX.excO C hp.objs.size) := by heap_get
  have I2 : Inv X pins σ (upd H1 (hp.objs.size + 1) (exo (hp.objs.size + 1) C none)) ⟨(hp.push (PySem.W.kdv_tup us)).push (PySem.HandSPX.excO C hp.objs.size), g, dr, tk, os⟩ := I1.laid (t' := tk) laid above (exo_ok there)
  have vals : Vals (V.ref (hp.objs.size + 1) :: (vs ++ dvs)) (Value.ref (hp.objs.size + 1) :: (us ++ ds)) := .cons rfl (r1.append hd)
  have many : (Value.ref (hp.objs.size + 1) :: us ++ ds).length = ps.length := vals.length.symm.trans (F1.len _ _ _ _ run)
  have small : us.length ≤ sizeLine := by
    have z := Paired.length r1
    rw [sizeLine_eq]; omega
  have body := F1.run _ X.stack _ _ ⟨Value.ref (hp.objs.size + 1) :: us, []⟩ (Value.ref (hp.objs.size + 1) :: (us ++ ds)) _ _ (fun _ _ _ => False) (hr.make C us []) (I2.env0.make C us []) (hb _ (Value.ref (hp.objs.size + 1) :: us) I2.kIn many) vals run
  have made := PySem.HandSPX.call_own (R := fun r s' => match r with | .ok (.ret v) => EP X pins σ Q v s' | .ok _ => False | .error er => X.xe er s') F.excBase_ValueError (fun Y => PySem.HandSPX.refsVE_contains Y bm hbm) (I1.kIn _ _ hC) (PySem.W.looks_findIn I1.kIn iC) (fun self => PySem.W.bind_fn I1.kIn self tI) small
    (codeAny_mono body fun r s' z => by
      cases r with
      | error er => exact hx pins σ _ _ er s' I2 z
      | ok fl =>
        cases fl with
        | ret u =>
          obtain ⟨v, H2, J, rv, ev, q⟩ := I2.after z
          subst ev
          exact ⟨rv, ⟨V.ref (hp.objs.size + 1), H2, J, rfl, q⟩⟩
        | next => exact False.elim z
        | brk => exact False.elim z
        | cont => exact False.elim z)
  exact wpAny_call made
theorem pe_mx (T : OexC X.K C) (iC : PySem.W.findIn X.K (.ref C) "__init__" = some (some (.ref fI))) (tI : PySem.W.typeIn X.K (.ref fI) = some (.type "function"))
    (F1 : FnOk X.prog X.w X.K X.mg X.base CX k fI fd ps sp) (hr : Room (k + 1) X.A) (hb : Binds X.K fd ps ds) (hd : Vals dvs ds) (hx : Passes CX X (fun _ _ _ => False)) (hg : Gl X x) (hm : X.mg x = some (.ref C)) (ha : PA X (e :: es) ta)
    (hdb : (x == ("__debug__" : Str)) = false := by decide) (he : starEach (e :: es) X.env = (false, eval e X.env) :: starEach es X.env := by rfl) (hpl : (backTo pos (starEach es X.env)).any (·.1) = false := by rfl) : PE X (.Call (.Name x p) (e :: es) [] pos) (tMx C sp dvs ta) := by
  refine ⟨fun pins s σ H Q I h => wpAny_Call_Name_kw (ld_glob I hg hm ?_ hdb)⟩
  exact PySem.W.callWith_K (h₀ := X.base) I.ok.mod.kin T.kC (thn (ha.run pos pins s σ H _ I h) fun us s1 ⟨vs, H1, I1, r1, hz, q1⟩ => ⟨I1.kIn, run_mx T iC tI F1 hr hb hd hx I1 r1 hz q1⟩) he hpl
theorem pe_mx0 (T : OexC X.K C) (iC : PySem.W.findIn X.K (.ref C) "__init__" = some (some (.ref fI))) (tI : PySem.W.typeIn X.K (.ref fI) = some (.type "function"))
    (F1 : FnOk X.prog X.w X.K X.mg X.base CX k fI fd ps sp) (hr : Room (k + 1) X.A) (hb : Binds X.K fd ps ds) (hd : Vals dvs ds) (hx : Passes CX X (fun _ _ _ => False)) (hg : Gl X x) (hm : X.mg x = some (.ref C))
    (hdb : (x == ("__debug__" : Str)) = false := by decide) : PE X (.Call (.Name x p) [] [] pos) (tMx C sp dvs tNil) := by
  refine ⟨fun pins s σ H Q I h => wpAny_Call_Name_kw (ld_glob I hg hm ?_ hdb)⟩
  obtain ⟨hz, q1⟩ := h
  exact PySem.W.callWith_K0 I.kIn T.kC (run_mx (us := []) T iC tI F1 hr hb hd hx I .nil hz q1)
end

/-! ### C(k = v): keywords -/
namespace Kw
open PySem.HandSPX Builtin Builtin.ObjectAttr PySem.W PySem.Calls
section
variable {prog : Program} {w : World} {A : Around} {E : Value → Shared → Prop} {R : Result → Shared → Prop} {h : Heap} {g : Array GenState} {d : Drawn} {t : Nat} {os : OsState}
variable {nm q : Str} {C N : Addr} {bs bm bB : List Value} {hd : Bool} {sn : List Str} {sub : List Value} {ab : Bool} {col : Option Bool} {dd : Option Addr} {k0 k1 k2 k3 k5 : Option Value} {B nI iI : String} {rest : List Value} {kw : List (Str × Value)}
theorem may (F : ExcBaseFacts B nI iI bB) (hT : ∀ Y : String, bm.contains (.type Y) = bB.contains (.type Y)) {M : Model} {E' : Value → Shared → Prop} {Q : Unit → Shared → Prop}
    (hC : h.get? C = some (excClassObj nm q C N bs bm hd sn sub ab col dd k0 k1 k2 k3 k5 nI)) (hq : Q () ⟨h, g, d, t, os⟩) : wpAny M A (checkBuiltinCall nI ⟨.ref C :: rest, kw⟩) Q E' ⟨h, g, d, t, os⟩ := by
  have inB : (Value.ref C :: bm).contains (.type B) = true := by
    rw [List.contains_cons, hT, F.hasB, Bool.or_true]
  have star := F.noStar
  simp only [checkBuiltinCall, F.newKind, F.newSplit, F.newRow]
  repeat (first | refine wpAny_loadPart_at hC ?_ | (refine wpAny_isSubtype_exc hC ?_; rw [inB]) | refine wpAny_staticBase_exc hC ?_ | refine wpAny_madeBy_exc hC ?_ | simp only [bne_self_eq_false, Bool.false_eq_true, if_false] | wp_step)
  exact hq
theorem anew (F : ExcBaseFacts B nI iI bB) (hT : ∀ Y : String, bm.contains (.type Y) = bB.contains (.type Y)) (hC : h.get? C = some (excClassObj nm q C N bs bm hd sn sub ab col dd k0 k1 k2 k3 k5 nI))
    (hq : R (.ok (.ret (.ref (h.objs.size + 1)))) ⟨(h.push (kdv_tup rest)).push (excO C h.objs.size), g, d, t, os⟩) (hz : rest.length ≤ sizeLine) : codeAny (model prog w) A (.builtin nI ⟨.ref C :: rest, kw⟩) R ⟨h, g, d, t, os⟩ := by
  have fin := F.ends
  have inB : (Value.ref C :: bm).contains (.type B) = true := by
    rw [List.contains_cons, hT, F.hasB, Bool.or_true]
  have inA : (Value.ref C :: bm).contains (.type "AttributeError") = false := by
    rw [List.contains_cons, hT, F.noAttr]; rfl
  have inN : (Value.ref C :: bm).contains (.type "NameError") = false := by
    rw [List.contains_cons, hT, F.noName]; rfl
  refine codeAny_builtinAt F.entry ?_
  unfold Builtin.«BaseException.__new__»
  refine PySem.wpAt_bind ?_
  show PySem.wpAt _ _ _ (stack >>= _) _ _ _
  refine PySem.wpAt_bind (PySem.wpAt_stack fun _ _ => PySem.wpAt_of_wpAny ?_)
  wp_walk
  refine PySem.wpAt_of_wpAny ?_
  rw [F.owner]
  repeat (first | with_reducible refine wpAny_madeHere_exc F.canon hC ?_ | with_reducible refine wpAny_loadPart_at hC ?_ | (with_reducible refine wpAny_isSubtype_exc hC ?_; first | rw [inB] | rw [inA] | rw [inN]) | wp_step)
  show R _ _
  rw [Heap.size_push]
  exact hq
theorem made (F : ExcBaseFacts B nI iI bB) (hT : ∀ Y : String, bm.contains (.type Y) = bB.contains (.type Y)) {fI : Addr} {Q : Fin → Shared → Prop} {E' : Value → Shared → Prop}
    (hC : h.get? C = some (excClassObj nm q C N bs bm hd sn sub ab col dd k0 k1 k2 k3 k5 nI)) (hi : Looks (model prog w) h (typeLookup (.ref C) "__init__") (some (.ref fI))) (hb : ∀ self, Looks (model prog w) h (bindSpecial (.ref fI) self) (.ref fI, [self])) (hz : rest.length ≤ sizeLine)
    (hq : codeAny (model prog w) A (.call (.ref fI) ⟨.ref (h.objs.size + 1) :: rest, kw⟩) (fun r s' => match r with | .ok (.ret v) => v = .none ∧ Q (.done (.ret (.ref (h.objs.size + 1)))) s' | .ok _ => False | .error e => E' e s')
      ⟨(h.push (kdv_tup rest)).push (excO C h.objs.size), g, d, t, os⟩) : wpAny (model prog w) A (Builtin.«type.__call__» ⟨.ref C :: rest, kw⟩) Q E' ⟨h, g, d, t, os⟩ := by
  repeat (first | with_reducible refine wpAny_loadPart_at hC ?_ | with_reducible refine wpAny_madeBy_exc hC ?_ | wp_step)
  refine codeAny_call_builtin_code (Code.quiet_builtin _ F.quiet) (may F hT hC ?_)
  refine anew F hT hC ?_ hz
  show wpAny _ _ _ _ _ _
  have up : ∀ b o, h.get? b = some o → ((h.push (kdv_tup rest)).push (excO C h.objs.size)).get? b = some o := fun b o z => Heap.get?_push_of_some _ (Heap.get?_push_of_some _ z)
  have hC2 := up _ _ hC
  have self : ((h.push (kdv_tup rest)).push (excO C h.objs.size)).get? (h.objs.size + 1) = some (excO C h.objs.size) := by heap_get
  have own : (Value.ref C :: bm).contains (.ref C) = true := by simp
  have i2 := hi.keeps up
  have b2 := (hb (.ref (h.objs.size + 1))).keeps up
  unfold isInstance
  repeat (first | with_reducible refine wpAny_loadPart_at self ?_ | (with_reducible refine wpAny_isSubtype_exc hC2 ?_; rw [own]) | wp_step)
  show wpAny _ _ (typeLookup (.ref C) _) _ _ _
  refine i2.at (wpAny_holding (wpAny_bind (b2.at (wpAny_bind (wpAny_call (codeAny_mono hq fun r s' z => ?_))))))
  rcases r with e | (v | _ | _ | _) <;> first | exact z | exact z.elim | skip
  obtain ⟨rfl, z⟩ := z
  first
    | exact wpAny_pure (wpAny_pure z)
    | (wp_walk; exact z)
theorem called (F : ExcBaseFacts B nI iI bB) (hT : ∀ Y : String, bm.contains (.type Y) = bB.contains (.type Y)) {fI : Addr} (hC : h.get? C = some (excClassObj nm q C N bs bm hd sn sub ab col dd k0 k1 k2 k3 k5 nI))
    (hi : Looks (model prog w) h (typeLookup (.ref C) "__init__") (some (.ref fI))) (hb : ∀ self, Looks (model prog w) h (bindSpecial (.ref fI) self) (.ref fI, [self])) (hz : rest.length ≤ sizeLine)
    (hq : codeAny (model prog w) (A.under (.builtin "type.__call__" ⟨.ref C :: rest, kw⟩)) (.call (.ref fI) ⟨.ref (h.objs.size + 1) :: rest, kw⟩) (InitBack (h.objs.size + 1) R) ⟨(h.push (kdv_tup rest)).push (excO C h.objs.size), g, d, t, os⟩) :
    codeAny (model prog w) A (.call (.ref C) ⟨rest, kw⟩) R ⟨h, g, d, t, os⟩ := by
  have f1 := tc_lookup
  have f2 := tc_bind (.ref C)
  have ty : (⟨h, g, d, t, os⟩ : Shared).TypeIs (.ref C) "type" := ⟨_, hC, rfl⟩
  refine codeAny_of_tree ?_
  show wpAny _ _ (callAny (.ref C) _) _ _ _
  repeat (any_goals (first | assumption | with_reducible refine wpAny_loadPart_at hC ?_ | wp_step))
  refine ⟨rfl, codeAny_call_builtin_at (Code.quiet_builtin _ (by decide +kernel)) entry_typeCall (wpAny_check_type_call_sub hC (made F hT hC hi hb hz (codeAny_mono hq fun r s' z => ?_)))⟩
  rcases r with e | (v | _ | _ | _) <;> exact z
end
end Kw
/-- defaults, no keyword-only parameters; the keywords fill the places of the defaults -/
theorem kbinds1 {K : PySem.W.Frag} {x qual : Str} {params : Arguments} {body : List Stmt} {scope : Scope} {dvs : List V} {f : Addr} {fd : FuncData} {ps ks : List Str} {n : Nat} (F : FunD K x qual params body scope dvs [] f fd) (hd : dvs ≠ [])
    (h : ∀ (T : Addr) (kV doc pm : Value) (an : Option Addr) (cdv ct : Value) (us its ws : List Value), us.length = n → its.length = dvs.length → ws.length = ks.length →
      ∃ k, bindArgs (PySem.W.fnOf x qual params body scope (.ref T) kV doc pm an cdv ct) ⟨us, ks.zip ws⟩ = seqItems? (.ref T) >>= k ∧ k (some its.toArray) = pure (ps.zip (us ++ ws))) : KBn K fd ps n ks (fun us ws => us ++ ws) (fun vs zs => vs ++ zs) := by
  obtain ⟨oc, od, dV, kV, doc, pm, an, cdv, ct, osl, rfl, lk, hcd, hD, hK⟩ := F.ex
  rcases hD with ⟨e, _⟩ | ⟨_, T, o, its, m, rfl, lT, oT, rT⟩
  · exact absurd e hd
  · refine ⟨fun s us ws X l1 l2 => BindsTo.of_looks fun M => ?_, fun r1 r2 => r1.append r2⟩
    obtain ⟨k, e1, e2⟩ := h T kV doc pm an cdv ct us its ws l1 rT.length.symm l2
    rw [e1]
    exact looks_items X lT oT (.of_pure e2)
def tMxK (C : Addr) (m : Nat) (sp : Sp) (tk : TA) : TE := fun σ H Q => tk σ H fun zs H1 => zs.length = m ∧ ∀ a, H1 a = none → sp (.ref a :: zs) (upd H1 a (exo a C none)) (fun v H2 => v = .non ∧ Q (.ref a) H2) (fun _ _ _ => False)
section
variable {X : Cx} {CX : CXT} {x : Str} {C fI : Addr} {k : Nat} {fd : FuncData} {ps ks : List Str} {sp : Sp} {kws : List Keyword} {tk : TA} {p pos : Pos}
theorem run_mxK {pins : List (Addr × Obj)} {σ : L2.St} {H1 : Hp} {s1 : Shared} {Q : VK} {ws : List Value} {zs : List V} (T : OexC X.K C) (iC : PySem.W.findIn X.K (.ref C) "__init__" = some (some (.ref fI))) (tI : PySem.W.typeIn X.K (.ref fI) = some (.type "function"))
    (F1 : FnOk X.prog X.w X.K X.mg X.base CX k fI fd ps sp) (hr : Room (k + 1) X.A) (hb : KBn X.K fd ps 1 ks (fun us ws => us ++ ws) (fun vs zs => vs ++ zs)) (hx : Passes CX X (fun _ _ _ => False)) (I1 : Inv X pins σ H1 s1) (rz : Vals zs ws) (hz : zs.length = ks.length)
    (q1 : ∀ a, H1 a = none → sp (.ref a :: zs) (upd H1 a (exo a C none)) (fun v H2 => v = .non ∧ Q (.ref a) H2) (fun _ _ _ => False)) : wpAny (model X.prog X.w) X.A (call (.ref C) [] (ks.zip ws)) (EP X pins σ Q) X.xe s1 := by
  obtain ⟨nm, qn, N, bs, bm, sn, sub, ab, col, dd, k0, k1, k2, k3, k5, hC, hbm⟩ := T.cls
  obtain ⟨hp, g, dr, tn, os⟩ := s1
  have above : hp.objs.size ≤ hp.objs.size + 1 := Nat.le_succ _
  have run := q1 _ (I1.hok.fresh above)
  have laid : ∀ b o, hp.get? b = some o → ((hp.push (PySem.W.kdv_tup [])).push (PySem.HandSPX.excO C hp.objs.size)).get? b = some o := fun b o z => Heap.get?_push_of_some _ (Heap.get?_push_of_some _ z)
  have there : ((hp.push (PySem.W.kdv_tup [])).push (PySem.HandSPX.excO C hp.objs.size)).get? (hp.objs.size + 1) = some (PySem.HandSPX.excO C hp.objs.size) := by heap_get
  have I2 : Inv X pins σ (upd H1 (hp.objs.size + 1) (exo (hp.objs.size + 1) C none)) ⟨(hp.push (PySem.W.kdv_tup [])).push (PySem.HandSPX.excO C hp.objs.size), g, dr, tn, os⟩ := I1.laid (t' := tn) laid above (exo_ok there)
  have body := F1.run _ X.stack _ _ ⟨[Value.ref (hp.objs.size + 1)], ks.zip ws⟩ (Value.ref (hp.objs.size + 1) :: ws) (V.ref (hp.objs.size + 1) :: zs) _ (fun _ _ _ => False) (hr.make C [] (ks.zip ws)) (I2.env0.make C [] (ks.zip ws)) (hb.to _ [Value.ref (hp.objs.size + 1)] ws I2.kIn rfl (rz.length.symm.trans hz)) (Paired.cons (show RelV (V.ref _) _ from rfl) rz) run
  exact wpAny_call (Kw.called (R := fun r s' => match r with | .ok (.ret v) => EP X pins σ Q v s' | .ok _ => False | .error er => X.xe er s') F.excBase_ValueError (fun Y => PySem.HandSPX.refsVE_contains Y bm hbm) (I1.kIn _ _ hC) (PySem.W.looks_findIn I1.kIn iC) (fun self => PySem.W.bind_fn I1.kIn self tI) (Nat.zero_le _)
    (codeAny_mono body fun r s' z => by
      cases r with
      | error er => exact hx pins σ _ _ er s' I2 z
      | ok fl =>
        cases fl with
        | ret u =>
          obtain ⟨v, H2, J, rv, ev, q⟩ := I2.after z
          subst ev
          exact ⟨rv, ⟨V.ref (hp.objs.size + 1), H2, J, rfl, q⟩⟩
        | next => exact False.elim z
        | brk => exact False.elim z
        | cont => exact False.elim z))
end
/-! ### own error classes with one field -/
/-- what their __init__ keeps: self.f = y -/
def SpI (C : Addr) (f : Str) : Sp := fun vs H Q _ => ∃ a y, vs = [.ref a, y] ∧ H a = some (exo a C none) ∧ ∀ dx, H dx = none → dx ≠ a → Q .non (upd (upd H dx (exd dx [(f, y)])) a (exo a C (some dx)))
structure OwnE (K : PySem.W.Frag) (mg : Str → Option Value) (x : Str) (C : Addr) (f p : Str) : Prop where
  m : mg x = some (.ref C)
  ox : OexC K C
  ex : ∃ fI fd, PySem.W.findIn K (.ref C) "__init__" = some (some (.ref fI)) ∧ PySem.W.typeIn K (.ref fI) = some (.type "function") ∧ (∃ ds, Vals [V.non] ds ∧ Binds K fd ["self", p] ds) ∧ Binds K fd ["self", p] [] ∧
    KBn K fd ["self", p] 1 [p] (fun us ws => us ++ ws) (fun vs zs => vs ++ zs) ∧ ∀ P w base, FnOk P w K mg base CX0 1 fI fd ["self", p] (SpI C f)
/-- the reading: an error of the class at C with the field f -/
def tErr (C : Addr) (f : Str) (ta : TA) : TE := fun σ H Q => ta σ H fun vs H1 => ∃ y, vs = [y] ∧ ∀ a H2, Same H1 H2 → H1 a = none → Err H2 a C [(f, y)] → Q (.ref a) H2
theorem spi_of {C : Addr} {f : Str} {y : V} {H1 : Hp} {Q : VK} {E : XK} (h : ∀ a H2, Same H1 H2 → H1 a = none → Err H2 a C [(f, y)] → Q (.ref a) H2) (a : Addr) (na : H1 a = none) : SpI C f [.ref a, y] (upd H1 a (exo a C none)) (fun v H2 => v = .non ∧ Q (.ref a) H2) E := by
  refine ⟨a, y, rfl, upd_same, fun dx nd ne => ⟨rfl, h a _ (fun b o e => ?_) na ⟨dx, upd_same, ?_⟩⟩⟩
  · have e1 : b ≠ a := fun z => by rw [z, na] at e; cases e
    rw [upd_ne ne] at nd
    have e2 : b ≠ dx := fun z => by rw [z, nd] at e; cases e
    rw [upd_ne e1, upd_ne e2, upd_ne e1]
    exact e
  · rw [upd_ne ne, upd_same]
section
variable {X : Cx} {x f q : Str} {C : Addr} {e : Expr} {te : TE} {p pos : Pos}
theorem pe_err (O : OwnE X.K X.mg x C f q) (hr : Room 2 X.A) (hg : Gl X x) (he : PE X e te)
    (hdb : (x == ("__debug__" : Str)) = false := by decide) (hs : starEach [e] X.env = (false, eval e X.env) :: starEach [] X.env := by rfl) : PE X (.Call (.Name x p) [e] [] pos) (tErr C f (tCons te tNil)) := by
  obtain ⟨fI, fd, iC, tI, _, b1, _, ok⟩ := O.ex
  refine ⟨fun pins s σ H Q I h => wpAny_Call_Name_kw (ld_glob I hg O.m ?_ hdb)⟩
  exact PySem.W.callWith_K (h₀ := X.base) I.ok.mod.kin O.ox.kC (thn ((pa_cons he pa_nil hs).run pos pins s σ H _ I h) fun us s1 ⟨vs, H1, I1, r1, y, ey, q1⟩ => ⟨I1.kIn, by
    subst ey
    exact run_mx (vs := [y]) (dvs := []) O.ox iC tI (ok X.prog X.w X.base) hr b1 .nil pass0 I1 r1 (by simp) (fun a na => spi_of q1 a na)⟩) hs (by rfl)
theorem pe_err0 (O : OwnE X.K X.mg x C f q) (hr : Room 2 X.A) (hg : Gl X x) (hdb : (x == ("__debug__" : Str)) = false := by decide) : PE X (.Call (.Name x p) [] [] pos) (tErr C f (tCons (tC .non) tNil)) := by
  obtain ⟨fI, fd, iC, tI, ⟨ds, hd, b0⟩, _, _, ok⟩ := O.ex
  refine ⟨fun pins s σ H Q I h => wpAny_Call_Name_kw (ld_glob I hg O.m ?_ hdb)⟩
  have h' : ∃ y, [V.non] = [y] ∧ ∀ a H2, Same H H2 → H a = none → Err H2 a C [(f, y)] → Q (.ref a) H2 := h
  obtain ⟨y, ey, q1⟩ := h'
  cases ey
  exact PySem.W.callWith_K0 I.kIn O.ox.kC (run_mx (us := []) (vs := []) (dvs := [V.non]) O.ox iC tI (ok X.prog X.w X.base) hr b0 hd pass0 I .nil (by simp) (fun a na => spi_of q1 a na))
theorem pe_errK {kp : Pos} (O : OwnE X.K X.mg x C f q) (hr : Room 2 X.A) (hg : Gl X x) (he : PE X e te) (hdb : (x == ("__debug__" : Str)) = false := by decide) 
    (hall : (backToKw pos (keywordEach [⟨some q, e, kp⟩] X.env)).all (·.1.isSome) = true := by rfl) (hks : (backToKw pos (keywordEach [⟨some q, e, kp⟩] X.env)).filterMap (·.1) = [q] := by rfl)
    (hpl : ((backTo pos (starEach [] X.env)).any (·.1) || (backToKw pos (keywordEach [⟨some q, e, kp⟩] X.env)).any (·.1.isNone)) = false := by rfl) : PE X (.Call (.Name x p) [] [⟨some q, e, kp⟩] pos) (tErr C f (tCons te tNil)) := by
  obtain ⟨fI, fd, iC, tI, _, _, bk, ok⟩ := O.ex
  refine ⟨fun pins s σ H Q I h => wpAny_Call_Name_kw (ld_glob I hg O.m ?_ hdb)⟩
  refine PySem.W.callWith_KW0 (h₀ := X.base) I.ok.mod.kin O.ox.kC hall ?_ hpl
  refine thn ((pk_cons he pk_nil).run pos pins s σ H _ I h) fun ws s1 ⟨zs, H1, I1, rz, y, ey, q1⟩ => ⟨I1.kIn, ?_⟩
  subst ey
  rw [hks]
  exact run_mxK O.ox iC tI (ok X.prog X.w X.base) hr bk pass0 I1 rz rfl (fun a na => spi_of q1 a na)
end
/-- C(), C an own error class without an __init__ of its own -/
def tErr0 (C : Addr) : TE := fun _ H Q => ∀ a, H a = none → Q (.ref a) (upd H a (exo a C none))
theorem pe_bare {X : Cx} {C : Addr} {bB : List Value} {B nI iI : String} {x : Str} {p pos : Pos} (F : ExcBaseFacts B nI iI bB) (q : PySem.W.excIn X.K C bB nI = true) (gC : X.mg x = some (.ref C)) (kC : PySem.W.keepIn X.K (.ref C) = true) (hg : Gl X x)
    (hdb : (x == ("__debug__" : Str)) = false := by decide) : PE X (.Call (.Name x p) [] [] pos) (tErr0 C) := by
  refine ⟨fun pins s σ H Q I h => wpAny_Call_Name_kw (ld_glob I hg gC ?_ hdb)⟩
  refine PySem.W.callWith_K0 I.kIn kC ?_
  obtain ⟨bm, N, nm, qn, bs, hdct, sn, sub, ab, col, dd, k0, k1, k2, k3, k5, mN, hC, hN, hni, T⟩ := exc_obj I.kIn q
  refine wpAny_call_exc_subT F T hC hN hni (fun h' a hm => ?_) (Nat.zero_le _)
  have hn : H a = none := I.hok.gone hm.new
  obtain ⟨t, ht, _, _⟩ := hm.there
  exact ⟨.ref a, _, I.laidN hm.keeps hm.new hn (exo_ok ht), rfl, h a hn⟩
end TX

set_option Elab.async false
set_option linter.all false
set_option maxRecDepth 100000
set_option maxHeartbeats 4000000
/-! TR: repr of plain data; defs that ask for it (no repr is under way around them). -/
namespace TR
open PySem PySem.Spec PyProof.Rows L2

/-! ### plain data over the abstract heap -/
def keyD : Key → PyData
  | .inl i => .int i
  | .inr x => .str x
mutual
inductive DV (H : Hp) (c : Bool) : V → PyData → Prop
  | non : DV H c .non .none
  | bl (b : Bool) : DV H c (.bl b) (.bool b)
  | int (i : Int) : DV H c (.int i) (.int i)
  | str (x : Str) : DV H c (.str x) (.str x)
  | lst {a : Addr} {xs : List V} {ds : List PyData} : (c = true → a ≠ sysModules) → H a = some (.lst xs) → DVs H c xs ds → DV H c (.ref a) (.list ds)
  | tup {a : Addr} {xs : List V} {ds : List PyData} : H a = some (.tup xs) → DVs H c xs ds → DV H c (.ref a) (.tuple ds)
  | dic {a : Addr} {kvs : List (Key × V)} {ds : List (PyData × PyData)} : H a = some (.dK kvs) → DVk H c kvs ds → DV H c (.ref a) (.dict ds)
inductive DVs (H : Hp) (c : Bool) : List V → List PyData → Prop
  | nil : DVs H c [] []
  | cons {x : V} {d : PyData} {xs : List V} {ds : List PyData} : DV H c x d → DVs H c xs ds → DVs H c (x :: xs) (d :: ds)
inductive DVk (H : Hp) (c : Bool) : List (Key × V) → List (PyData × PyData) → Prop
  | nil : DVk H c [] []
  | cons {k : Key} {x : V} {d : PyData} {xs : List (Key × V)} {ds : List (PyData × PyData)} : DV H c x d → DVk H c xs ds → DVk H c ((k, x) :: xs) ((keyD k, d) :: ds)
end
mutual
theorem DV.same {H H' : Hp} {c : Bool} (h : ∀ a o, H a = some o → H' a = some o) : ∀ {x : V} {d : PyData}, DV H c x d → DV H' c x d
  | _, _, .non => .non
  | _, _, .bl b => .bl b
  | _, _, .int i => .int i
  | _, _, .str x => .str x
  | _, _, .lst z e r => .lst z (h _ _ e) (DVs.same h r)
  | _, _, .tup e r => .tup (h _ _ e) (DVs.same h r)
  | _, _, .dic e r => .dic (h _ _ e) (DVk.same h r)
theorem DVs.same {H H' : Hp} {c : Bool} (h : ∀ a o, H a = some o → H' a = some o) : ∀ {x : List V} {d : List PyData}, DVs H c x d → DVs H' c x d
  | _, _, .nil => .nil
  | _, _, .cons r t => .cons (DV.same h r) (DVs.same h t)
theorem DVk.same {H H' : Hp} {c : Bool} (h : ∀ a o, H a = some o → H' a = some o) : ∀ {x : List (Key × V)} {d : List (PyData × PyData)}, DVk H c x d → DVk H' c x d
  | _, _, .nil => .nil
  | _, _, .cons r t => .cons (DV.same h r) (DVk.same h t)
end
theorem pairs_rd {P : Program} {w : World} : ∀ {es : List DictEntry} {kvs : List (Key × V)} {vs : List (Key × Value)}, PySem.Pairs (mixKind P w) es vs → KV kvs vs →
    Paired (fun (p : Key × V) (e : DictEntry) => keyIs p.1 e.key = true ∧ RelV p.2 e.val) kvs es
  | _, _, _, .nil, .nil => .nil
  | _, _, _, .cons h1 h2 t, .cons r k => .cons ⟨by rw [r.1]; exact h1, by rw [h2]; exact r.2⟩ (pairs_rd t k)
theorem key_rd {h : Heap} {k : Key} {v : Value} (e : keyIs k v = true) : Reads h v (keyD k) [] := by
  rcases keyIs_shape e with ⟨i, t, rfl, rfl⟩ | ⟨x, t, rfl, rfl⟩
  · exact .int i t
  · exact .str x t
section
variable {P : Program} {w : World} {H : Hp} {h : Heap} {c : Bool}
mutual
theorem DV.rd (ok : HOk P w H h) : ∀ {x : V} {d : PyData} {u : Value}, DV H c x d → RelV x u → ∃ as, Reads h u d as ∧ (c = true → sysModules ∉ as)
  | _, _, _, .non, r => by cases (show _ = Value.none from r); exact ⟨_, .none, fun _ => by simp⟩
  | _, _, _, .bl b, r => by cases (show _ = Value.bool b from r); exact ⟨_, .bool b, fun _ => by simp⟩
  | _, _, _, .int i, r => by obtain ⟨t, rfl⟩ := (show ∃ t, _ = Value.int i t from r); exact ⟨_, .int i t, fun _ => by simp⟩
  | _, _, _, .str x, r => by obtain ⟨t, rfl⟩ := (show ∃ t, _ = Value.str x t from r); exact ⟨_, .str x t, fun _ => by simp⟩
  | _, _, _, @DV.lst _ _ a xs ds y e q, r => by
    cases (show _ = Value.ref a from r)
    obtain ⟨_, its, n, rv, g⟩ := (show ObjOk P w H h a (.lst xs) from ok a _ e)
    obtain ⟨as, z, zs⟩ := DVs.rd ok q rv
    exact ⟨_, .list (vs := its.toArray) g rfl rfl z, fun hc => by simpa using ⟨(y hc).symm, zs hc⟩⟩
  | _, _, _, @DV.tup _ _ a xs ds e q, r => by
    cases (show _ = Value.ref a from r)
    obtain ⟨_, its, rv, o, g, k, n, dt⟩ := (show ObjOk P w H h a (.tup xs) from ok a _ e)
    obtain ⟨as, z, zs⟩ := DVs.rd ok q rv
    exact ⟨_, .tuple (vs := its.toArray) g k dt z, zs⟩
  | _, _, _, @DV.dic _ _ a kvs ds e q, r => by
    cases (show _ = Value.ref a from r)
    obtain ⟨_, sm, vs, kv, o, es, ep, g, k, dt, _, pr, _⟩ := (show ObjOk P w H h a (.dK kvs) from ok a _ e)
    obtain ⟨as, bs, z1, z2, z3, z4⟩ := DVk.rd ok q (pairs_rd pr kv)
    exact ⟨_, .dict g k.1 dt z1 z2, fun hc => by simpa using ⟨(beq_eq_false_iff_ne.mp sm).symm, z3 hc, z4 hc⟩⟩
theorem DVs.rd (ok : HOk P w H h) : ∀ {x : List V} {d : List PyData} {u : List Value}, DVs H c x d → Vals x u → ∃ as, ReadsAll h u d as ∧ (c = true → sysModules ∉ as)
  | _, _, _, .nil, .nil => ⟨_, .nil, fun _ => by simp⟩
  | _, _, _, .cons q t, .cons r s => by
    obtain ⟨_, z, y⟩ := DV.rd ok q r
    obtain ⟨_, z', y'⟩ := DVs.rd ok t s
    exact ⟨_, .cons z z', fun hc => by simpa using ⟨y hc, y' hc⟩⟩
theorem DVk.rd (ok : HOk P w H h) : ∀ {x : List (Key × V)} {d : List (PyData × PyData)} {es : List DictEntry}, DVk H c x d → Paired (fun (p : Key × V) (e : DictEntry) => keyIs p.1 e.key = true ∧ RelV p.2 e.val) x es →
    ∃ as bs, ReadsAll h (es.map (·.key)) (d.map (·.1)) as ∧ ReadsAll h (es.map (·.val)) (d.map (·.2)) bs ∧ (c = true → sysModules ∉ as) ∧ (c = true → sysModules ∉ bs)
  | _, _, _, .nil, .nil => ⟨_, _, .nil, .nil, fun _ => by simp, fun _ => by simp⟩
  | _, _, _, .cons q t, .cons r s => by
    obtain ⟨_, z, y⟩ := DV.rd ok q r.2
    obtain ⟨_, _, z1, z2, z3, z4⟩ := DVk.rd ok t s
    exact ⟨_, _, .cons (key_rd r.1) z1, .cons z z2, fun hc => by simpa using z3 hc, fun hc => by simpa using ⟨y hc, z4 hc⟩⟩
end
end
/-- repr(x) of plain data -/
def rRepr : List V → Hp → VK → Prop := fun xs H Q => ∃ (a : Addr) (d : PyData) (c : Bool), xs = [.ref a] ∧ DV H c (.ref a) d ∧ (d.hasDict = true → c = true) ∧ d.showable = true ∧ d.depth ≤ 60 ∧ d.shown.length ≤ sizeLine ∧ Q (.str d.shown) H
theorem cr_repr {X : Cx} (hg : X.A.guards = some []) (hu : X.A.units + 64 < cLine) : CallR X (.builtin "repr") rRepr := by
  intro pins s σ H xs us Q I r h
  obtain ⟨a, d, c, rfl, hd, hc, hs, hp, hz, q⟩ := h
  obtain ⟨u, rfl, ru⟩ := r.one
  cases (show u = Value.ref a from ru)
  obtain ⟨as, rd, ap⟩ := DV.rd I.hok hd (show RelV (.ref a) (.ref a) from rfl)
  exact repr_of_reads' rd hs (fun z => ap (hc z)) hg (by omega) (fun _ _ z => z) (fun h' u tk hk => ⟨.str d.shown, H, I.kept (t' := tk) hk, ⟨u, rfl⟩, q⟩) hz

/-! ### lists whose address is known not to be the table of modules -/
def rCatN : R2 := fun x y H Q => ∃ l b xs zs, x = .ref l ∧ y = .ref b ∧ H l = some (.lst xs) ∧ H b = some (.lst zs) ∧ xs.length + zs.length ≤ sizeLine ∧ ∀ p, H p = none → p ≠ sysModules → Q (.ref p) (upd H p (.lst (xs ++ zs)))
theorem op_catN {X : Cx} : OpR X (binaryOp .Add) rCatN := by
  intro pins s σ H x y v u Q I rx ry hh
  obtain ⟨l, b, xs, zs, e1, e2, hl, hb, hz, k⟩ := hh
  subst e1 e2
  cases rx
  cases ry
  obtain ⟨_, us, n, rl, ll, gl⟩ := I.lstM hl
  obtain ⟨_, ws, m, rb, lb, gb⟩ := I.lstM hb
  refine PySem.P.add_list gl gb ?_ (by simp only [List.size_toArray]; omega)
  rw [show us.toArray ++ ws.toArray = (us ++ ws).toArray by simp]
  exact ⟨.ref _, _, I.lnew (t' := s.toks) (rl.append rb) (by simpa using hz), rfl, k _ I.fresh (Nat.ne_of_gt I.big)⟩
def rRepN : R2 := fun x y H Q => ∃ l z k, x = .ref l ∧ y = .int k ∧ H l = some (.lst [z]) ∧ 0 ≤ k ∧ k ≤ 1000 ∧ ∀ p, H p = none → p ≠ sysModules → Q (.ref p) (upd H p (.lst (List.replicate k.toNat z)))
theorem op_repN {X : Cx} : OpR X (binaryOp .Mult) rRepN := by
  intro pins s σ H x y v u Q I rx ry hh
  obtain ⟨l, z, k, e1, e2, hl, k0, k1, go⟩ := hh
  subst e1 e2
  cases rx
  obtain ⟨tk, rfl⟩ := ry
  obtain ⟨_, us, n, rl, ll, gl⟩ := I.lstM hl
  have small : us.toArray.size * k.toNat ≤ sizeLine := by
    rw [List.size_toArray, ← ll, sizeLine_eq]; simp; omega
  have cap : ¬ us.toArray.size * k.toNat > (2 ^ 63 - 1) / 8 := by
    have : (sizeLine : Nat) ≤ (2 ^ 63 - 1) / 8 := by decide
    omega
  have fits : ¬ (!Builtin.List.listFitsIndex k) = true := by
    rw [fitsIndex_both (by omega) (by omega)]; decide
  have long : ¬ Builtin.List.listTooLong (us.toArray.size * k.toNat) = true := by
    rw [notLongL small]; decide
  have all : List.foldl (fun x1 x2 => x1 ++ x2) #[] (List.replicate (if us.toArray.isEmpty = true then 0 else k.toNat) us.toArray) = (List.replicate k.toNat us).flatten.toArray := by
    have go : ∀ m : Nat, List.foldl (fun x1 x2 => x1 ++ x2) #[] (List.replicate m us.toArray) = (List.replicate m us).flatten.toArray := fun m => by
      simpa using foldl_rep us m []
    rw [go]
    cases us with
    | nil => simp
    | cons _ _ => simp
  refine wpAny_binaryOp_repeat_ref (T := "list") (U := "int") (by decide) ⟨_, gl, rfl⟩ (fun s' => typeIs_int s' k tk) noFill_list_mul F.fills_int_mul F.slot_int_rmul repeat_list F.slot_int_index.lookup ?_
  refine call_meets F.slot_int_rmul (typeIs_int s k tk) F.entry_int_rmul (F.args_int_rmul_2 _ _) (int___rmul___int_list k tk l us.toArray n) ⟨gl, rfl, ⟨_, gl, rfl⟩, ?_⟩
  refine call_meets F.slot_list_mul ⟨_, gl, rfl⟩ F.entry_list_mul (F.args_list_mul_2 _ _) (AutoListH.list___mul___list_int_3 l us.toArray n k tk fits cap long) ⟨gl, ?_⟩
  rw [all]
  have e : (List.replicate k.toNat [z]).flatten = List.replicate k.toNat z := by
    simp [List.flatten_replicate_singleton]
  have rr := rl.rep k.toNat
  rw [e] at rr
  exact ⟨.ref _, _, I.lnew (t' := s.toks) rr (by rw [List.length_replicate, sizeLine_eq]; omega), rfl, go _ I.fresh (Nat.ne_of_gt I.big)⟩

/-! ### defs around which no repr is under way -/
structure FnG (P : Program) (w : World) (K : PySem.W.Frag) (mg : Str → Option Value) (base : Heap) (CX : CXT) (k : Nat) (f : Addr) (fd : FuncData) (ps : List Str) (sp : Sp) : Prop where
  len : ∀ vs H Q E, sp vs H Q E → vs.length = ps.length
  run : ∀ (A : Around), A.guards = some [] → ∀ (outer : List Env) (s : Shared) (H : Hp) (args : Args) (us : List Value) (vs : List V) (Q : VK) (E : XK), Room k A → Env0 P w K mg base A outer s H → BindsTo s fd args (ps.zip us) → Vals vs us → sp vs H Q E →
    codeAny (model P w) A (.call (.ref f) args) (CR CX outer P w H s Q E) s
section
variable {X : Cx} {CX : CXT} {k : Nat} {f : Addr} {fd : FuncData} {ps : List Str} {sp : Sp} {ds : List Value} {dvs : List V} {E : XK} {x : Str} {e : Expr} {es : List Expr} {t : TA} {p pos : Pos}
theorem pe_callG (F : FnG X.prog X.w X.K X.mg X.base CX k f fd ps sp) (hG : X.A.guards = some []) (hr : Room k X.A) (hg : Gl X x) (hm : X.mg x = some (.ref f)) (hk : PySem.W.keepIn X.K (.ref f) = true) (hb : Binds X.K fd ps ds) (hd : Vals dvs ds) (hx : Passes CX X E)
    (ha : PA X (e :: es) t) (hdb : (x == ("__debug__" : Str)) = false := by decide) (he : starEach (e :: es) X.env = (false, eval e X.env) :: starEach es X.env := by rfl) (hpl : (backTo pos (starEach es X.env)).any (·.1) = false := by rfl) :
    PE X (.Call (.Name x p) (e :: es) [] pos) (tCall sp dvs E t) := by
  refine ⟨fun pins s σ H Q I h => wpAny_Call_Name_kw (ld_glob I hg hm ?_ hdb)⟩
  refine PySem.W.callWith_K (h₀ := X.base) I.ok.mod.kin hk (thn (ha.run pos pins s σ H _ I h) fun us s1 ⟨vs, H1, J, r, q⟩ => ⟨J.kIn, ?_⟩) he hpl
  have rr : Vals (vs ++ dvs) (us ++ ds) := r.append hd
  have bound := hb s1 us J.kIn (rr.length.symm.trans (F.len _ _ _ _ q))
  refine wpAny_call (codeAny_mono (F.run X.A hG X.stack s1 H1 ⟨us, []⟩ (us ++ ds) (vs ++ dvs) Q E hr J.env0 bound rr q) fun res s' z => ?_)
  cases res with
  | error er => exact hx pins σ H1 s1 er s' J z
  | ok fl =>
    cases fl with
    | ret u => exact J.after z
    | next => exact False.elim z
    | brk => exact False.elim z
    | cont => exact False.elim z
end
section
variable {P : Program} {w : World} {K : PySem.W.Frag} {mg : Str → Option Value} {base : Heap}
/-- a def by its body, no repr under way -/
theorem okG {x qual : Str} {st : Stmt} {f : Addr} {fd : FuncData} {N ps : List Str} {k : Nat} {sp : Sp} (F : Fun K x qual st f fd) (S : FnScope N ps (defScope st)) (len : ∀ vs H Q E, sp vs H Q E → vs.length = ps.length)
    (hbody : ∀ (cdv : Value) (A : Around) (outer : List Env) (s : Shared) (H : Hp) (vs : List V) (Q : VK) (E : XK), (A.deeper (envOfC qual (defScope st) s.heap.objs.size f cdv)).guards = some [] → Room k (A.deeper (envOfC qual (defScope st) s.heap.objs.size f cdv)) → sp vs H Q E →
      ∃ t, PSs (cxOf CX0 P w K mg base N qual (defScope st) f cdv A outer s H E).nox (defBody st) t ∧ t { nx := fun _ H' => Q .non H', rt := Q } (start N vs) H) : FnG P w K mg base CX0 (k + 1) f fd ps sp := by
  obtain ⟨oc, od, kV, doc, pm, an, cdv, ct, osl, rfl, lk, hcd⟩ := F.ex
  refine ⟨len, fun A hG outer s H args us vs Q E room e0 bound r pre => ?_⟩
  have many := len _ _ _ _ pre
  have KX : K.In s.heap := e0.mod.kin.keeps fun b o z => (e0.bs b o z).1
  have lim : s.heap.NoLimit := e0.mod.nolimit.keeps fun b o z => (e0.bs b o z).1
  have kinds : ∀ y ∈ ps.zip us, (defScope st).names.lookup y.1 = some .local ∨ ((defScope st).names.lookup y.1 = some .cell ∧ ((cellsFrom (s.heap.objs.size + 1) (defScope st).names []).lookup y.1).isSome = true) := fun y hy => by
    have mem : y.1 ∈ ps := (List.of_mem_zip (show (y.1, y.2) ∈ ps.zip us from hy)).1
    rcases S.par y.1 mem with z | z
    · exact .inl z
    · exact .inr ⟨z, PySem.W.cellsFrom_some _ _ _ (.inl z)⟩
  refine codeAny_call_function room.depth (KX _ _ lk) rfl S.co S.gen rfl (PySem.W.codeRec_of KX hcd) (bound _ _ _ _ ?_)
  refine wpAny_newFunctionEnv_cells S.kind kinds fun env henv s1 inside => ?_
  subst henv
  refine ⟨lim.keeps inside.toInCall.keep, codeAny_func ?_⟩
  obtain ⟨t, ht0, go⟩ := hbody cdv A outer s H vs Q E hG (room.deeper _) pre
  have ht := ht0.nox
  have I : Inv (cxOf CX0 P w K mg base N qual (defScope st) f cdv A outer s H E) [] (start N vs) H s1 := inv_start S room.hd e0 many r inside
  refine wpAny_mono (ht.run [] s1 (start N vs) H _ I go) (fun fl s' z => ?_) fun _ _ z => z
  have back : ∀ {σ' : L2.St} {H' : Hp} {v : V} {u : Value}, Inv (cxOf CX0 P w K mg base N qual (defScope st) f cdv A outer s H E) [] σ' H' s' → RelV v u → Q v H' → CE outer P w H s Q u s' := fun {σ' H' v u} J rv q => ⟨v, H', J.os, J.bare, J.base, J.hok, rv, q⟩
  cases fl with
  | ret u =>
    obtain ⟨v, σ', H', J, rv, q⟩ := z
    exact back J rv q
  | next =>
    obtain ⟨σ', H', J, q⟩ := z
    exact back (v := V.non) (u := Value.none) J rfl q
  | brk => exact False.elim z.choose_spec.choose_spec.2
  | cont => exact False.elim z.choose_spec.choose_spec.2
end

/-! ### the law's own def -/
section
variable {P : Program} {w : World} {K : PySem.W.Frag} {mg mb : Str → Option Value} {CX : CXT} {k : Nat} {fa a : Addr} {fd : FuncData} {x : Str} {sp : Sp} {t : Shared} {us : List Value} {ns : List Int}
/-- what the call leaves -/
abbrev Fine (t : Shared) : Result → Shared → Prop := fun r t' => r = .ok (.ret (.bool true)) ∧ OldK t.heap t'.heap ∧ t'.os = t.os ∧ AllBare t'.gens
theorem lawH (inK : K.In t.heap) (nsM : t.heap.Ns mainGlobals mg) (nsB : t.heap.Ns builtinsNs mb) (bb : ∀ y : Str, y ≠ "__name__" → mb y = bootBuiltins y) (nl : t.heap.NoLimit) (ng : t.gens = #[])
    (at_a : t.heap.get? a = some { cls := .type "list", data := .seq us.toArray }) (room : Room k callerA) (F : ∀ base : Heap, K.In base → base.Ns mainGlobals mg → FnG P w K mg base CX k fa fd [x] sp)
    (bind1 : ∀ (s : Shared) (u : Value), BindsTo s fd ⟨[u], []⟩ [(x, u)]) (noX : ∀ H e s', CX [] H t (fun _ _ _ => False) e s' → False)
    {H : Hp} (only : Only H) (pre : sp [.ref a] H (fun v _ => v = .bl true) fun _ _ _ => False) (hok : HOk P w H t.heap) (onA : ∀ b, H b ≠ none → b = a) (offK : H a ≠ none → K.lookup a = none) :
    codeAny (model P w) callerA (.call (.ref fa) ⟨[.ref a], []⟩) (Fine t) t := by
  have sees : ∀ {b : Addr} {o : Obj}, t.heap.get? b = some o → H b = none → (hidT t.heap H).get? b = some o := fun z n => hidT_get z n
  have untr : ∀ {b : Addr}, b ≠ a → H b = none := fun {b} nb => by
    cases q : H b with
    | none => rfl
    | some u => exact absurd (onA b (by rw [q]; simp)) nb
  have dictNs : ∀ {b : Addr} {m : Str → Option Value}, t.heap.Ns b m → (hidT t.heap H).Ns b m := fun {b m} ⟨o, es, ep, g, d, r⟩ => by
    refine ⟨o, es, ep, sees g (untr fun z => ?_), d, r⟩
    subst z
    rw [at_a] at g
    cases g
    exact nomatch (show Data.seq us.toArray _ = Data.dict es ep from d)
  have inB : K.In (hidT t.heap H) := fun b o z => by
    refine sees (inK b o z) ?_
    cases q : H b with
    | none => rfl
    | some u =>
      have nn : H b ≠ none := by rw [q]; simp
      have eb := onA b nn
      subst eb
      rw [offK nn] at z
      cases z
  obtain ⟨mc, l1, l2⟩ := nl
  have md : Mod K mg (hidT t.heap H) := ⟨inB, dictNs nsM, ⟨mb, dictNs nsB, bb⟩, ⟨mc, dictNs l1, l2⟩⟩
  have e0 : Env0 P w K mg (hidT t.heap H) callerA [] t H := ⟨rfl, md, fun b o z => of_hidT z, Nat.le_of_eq (hidT_size _ _), trivial, fun b z => (by cases z), hok, .of_eq ng⟩
  refine codeAny_mono ((F _ inB (dictNs nsM)).run callerA rfl [] t H ⟨[.ref a], []⟩ [.ref a] [.ref a] _ _ room e0 (bind1 t (.ref a)) (.cons rfl .nil) pre) fun r t' z => ?_
  cases r with
  | error e => exact (noX H e t' z).elim
  | ok fl =>
    cases fl with
    | next => exact False.elim z
    | brk => exact False.elim z
    | cont => exact False.elim z
    | ret u =>
      obtain ⟨v, H', os, bare, un, hok', rv, ev⟩ := z
      cases (show v = .bl true from ev)
      cases (show u = Value.bool true from rv)
      refine ⟨rfl, OldK.of_keep fun b o g => ?_, os, bare⟩
      rcases only b with n | ⟨ob, xs, z⟩
      · exact un.keep b o g n (fun q => by cases q) (fun q => by cases q)
      · have g1 := (hok b _ z).1
        have g2 := (hok' b _ (un.frzs b ob _ z)).1
        rw [g] at g1
        cases g1
        exact g2
theorem lawG (inK : K.In t.heap) (nsM : t.heap.Ns mainGlobals mg) (nsB : t.heap.Ns builtinsNs mb) (bb : ∀ y : Str, y ≠ "__name__" → mb y = bootBuiltins y) (nl : t.heap.NoLimit) (ng : t.gens = #[])
    (at_a : t.heap.get? a = some { cls := .type "list", data := .seq us.toArray }) (areInts : IntsAre us ns) (hz : ns.length ≤ sizeLine) (room : Room k callerA) (F : ∀ base : Heap, K.In base → base.Ns mainGlobals mg → FnG P w K mg base CX k fa fd [x] sp)
    (bind1 : ∀ (s : Shared) (u : Value), BindsTo s fd ⟨[u], []⟩ [(x, u)]) (noX : ∀ H e s', CX [] H t (fun _ _ _ => False) e s' → False)
    (pre : ∀ H : Hp, Only H → SqL K H a (ns.map V.int) → sp [.ref a] H (fun v _ => v = .bl true) fun _ _ _ => False) : codeAny (model P w) callerA (.call (.ref fa) ⟨[.ref a], []⟩) (Fine t) t := by
  have rv := vals_ints areInts
  have many := areInts.length
  cases own : K.lookup a with
  | some o =>
    have g := inK a o own
    rw [at_a] at g
    cases g
    have none0 : Only fun _ => none := fun _ => .inl rfl
    exact lawH inK nsM nsB bb nl ng at_a room F bind1 noX none0 (pre _ none0 (.inr ⟨_, us.toArray, _, own, rfl, rfl, rfl, by rw [List.size_toArray, many]; exact hz, by simpa using rv⟩)) (fun b u z => nomatch (show (none : Option HO) = some u from z)) (fun b z => absurd rfl z) fun z => absurd rfl z
  | none =>
    let H1 : Hp := fun b => if b = a then some (.frz { cls := .type "list", data := .seq us.toArray } (.lst (ns.map V.int))) else none
    have yes : H1 a = some (.frz { cls := .type "list", data := .seq us.toArray } (.lst (ns.map V.int))) := if_pos rfl
    have no : ∀ {b : Addr}, b ≠ a → H1 b = none := fun nb => if_neg nb
    have one : Only H1 := fun b => by
      by_cases e : b = a
      · exact .inr ⟨_, _, by rw [e]; exact yes⟩
      · exact .inl (no e)
    refine lawH inK nsM nsB bb nl ng at_a room F bind1 noX one (pre _ one (.inl (.inr ⟨_, yes⟩))) (fun b u z => ?_) (fun b z => ?_) fun _ => own
    · by_cases e : b = a
      · subst e
        rw [yes] at z
        cases z
        exact ⟨at_a, by rw [List.length_map]; exact hz, us, _, rv, at_a⟩
      · rw [no e] at z
        cases z
    · exact Decidable.byContradiction fun e => z (no e)
end
theorem walkG {l : PySem.W.OpenLaw} {n k : Nat} {q : Program} {loose : List Str} {XP : (Str → Option Value) → Heap → Prop} {YP : World → Heap → Prop} {d : DefRec} {K : Params → PySem.W.Frag} {sp : World → Sp} {x : Str}
    (hn : l.most = some n) (hz : n ≤ sizeLine) (hdf : d.params.defaults = []) (room : Room k callerA) (hY : ∀ (w : World) (h : Heap), YP w h → (K w.params).In h)
    (F : ∀ (w : World) (mg : Str → Option Value) (fa : Addr) (h : Heap), (K w.params).In h → h.Ns mainGlobals mg → mg d.name = some (.ref fa) →
      ∃ fd : FuncData, (∀ (s : Shared) (u : Value), BindsTo s fd ⟨[u], []⟩ [(x, u)]) ∧ ∀ base : Heap, (K w.params).In base → base.Ns mainGlobals mg → FnG l.prog w (K w.params) mg base CX0 k fa fd [x] (sp w))
    (pre : ∀ (w : World) (H : Hp) (a : Addr) (ns : List Int), ns.length ≤ n → Only H → SqL (K w.params) H a (ns.map V.int) → sp w [.ref a] H (fun v _ => v = .bl true) fun _ _ _ => False) :
    PySem.W.WalkO q loose XP YP l.row.toRowW d [] (fun f vs => PySem.call f vs) := by
  refine Att.attach_call hn hdf fun w t0 t mg mb fa o pm cd doc a us ns G Y ho hd hcd hmg at_a areInts many ng => ?_
  obtain ⟨fd, hb, hF⟩ := F w mg fa _ (hY w _ Y) G.T.g hmg
  exact lawG (hY w _ Y) G.T.g G.T.b G.T.builtins G.T.nolimit ng at_a areInts (Nat.le_trans many hz) room hF hb (fun _ _ _ z => z) fun H h1 h2 => pre w H a ns many h1 h2
end TR

set_option Elab.async false
set_option linter.all false
set_option maxRecDepth 100000
set_option maxHeartbeats 4000000
/-! TQ: an error that is caught and kept in a name. -/
namespace TQ
open PySem PySem.Spec PyProof.Rows L2 TX

/-- at a: a caught error of the class at C, its dict at d -/
def kxo (a C : Addr) (d : Option Addr) : HO := .ext fun h => ∃ (oe : Obj) (vs : Array Value), h.get? a = some oe ∧ Zc (.ref C) d oe ∧ oe.data = .fields vs
theorem kxo_ok {P : Program} {w : World} {H : Hp} {h : Heap} {a C : Addr} {d : Option Addr} {oe : Obj} {vs : Array Value} (e : h.get? a = some oe) (z : Zc (.ref C) d oe) (f : oe.data = .fields vs) : ObjOk P w H h a (kxo a C d) :=
  ⟨⟨oe, vs, e, z, f⟩, ⟨oe, e⟩, fun h1 h2 ⟨o, us, q, r⟩ k => ⟨o, us, k _ q, r⟩⟩
theorem kxo_at {P : Program} {w : World} {H : Hp} {h : Heap} {a C : Addr} {d : Option Addr} (ok : HOk P w H h) (e : H a = some (kxo a C d)) : ∃ (oe : Obj) (vs : Array Value), h.get? a = some oe ∧ Zc (.ref C) d oe ∧ oe.data = .fields vs := by
  have x : ObjOk P w H h a (.ext fun h => ∃ (oe : Obj) (vs : Array Value), h.get? a = some oe ∧ Zc (.ref C) d oe ∧ oe.data = .fields vs) := ok a _ e
  exact x.1
/-- a caught error with the field f -/
def Kept (H : Hp) (a C : Addr) (fs : List (Str × V)) : Prop := ∃ d, H a = some (kxo a C (some d)) ∧ H d = some (.xd fs)
theorem Kept.same {H H' : Hp} {a C : Addr} {fs : List (Str × V)} (e : Kept H a C fs) (h : ∀ b o, H b = some o → H' b = some o) : Kept H' a C fs :=
  let ⟨d, h1, h2⟩ := e
  ⟨d, h _ _ h1, h _ _ h2⟩
section
variable {X : Cx} {pins : List (Addr × Obj)} {σ : L2.St} {H : Hp} {s : Shared} {a C : Addr} {fs : List (Str × V)}
/-- an object that was made since the entry is looked at from here on -/
theorem track {φ : Heap → Prop} (I : Inv X pins σ H s) (new : ObjOk X.prog X.w (upd H a (.ext φ)) s.heap a (.ext φ)) (na : H a = none) (n0 : X.s_0.heap.get? a = none) (nL : a ≠ X.env.locals) (nC : ∀ x c, X.env.cells.lookup x = some c → c ≠ a) (nP : ∀ p ∈ X.pn ++ pins, p.1 ≠ a) :
    Inv X pins σ (upd H a (.ext φ)) s := by
  have ne : ∀ {b : Addr} {o : HO}, H b = some o → b ≠ a := fun {b o} e z => by
    rw [z, na] at e
    cases e
  have up : ∀ {b : Addr} {o : HO}, H b = some o → upd H a (.ext φ) b = some o := fun {b o} e => by
    rw [upd_ne (ne e)]
    exact e
  have off : ∀ {b : Addr}, b ≠ a → H b = none → upd H a (.ext φ) b = none := fun {b} nb e => by
    rw [upd_ne nb]
    exact e
  refine ⟨I.ok, I.os, I.bare, ⟨I.base.keep, I.base.slot, fun b o e n hx => off (fun z => ?_) (I.base.free b o e n hx), I.base.there, fun b xs e => up (I.base.tups b xs e), fun b o u e => up (I.base.frzs b o u e), fun b ps e => ?_⟩, I.loc, I.cell, off nL.symm I.free, fun x c e => off (nC x c e) (I.freeC x c e), fun p hp => ?_, fun b o e => ?_, I.len⟩
  · rw [z, n0] at e
    cases e
  · obtain ⟨more, q⟩ := I.base.tbls b ps e
    exact ⟨more, up q⟩
  · obtain ⟨h1, h2, h3⟩ := I.pin p hp
    exact ⟨h1, off (nP p hp) h2, h3⟩
  · by_cases hb : b = a
    · subst hb
      rw [upd_same] at e
      cases e
      exact new
    · rw [upd_ne hb] at e
      exact (I.hok b o e).stay (fun _ _ _ q => q) (fun _ q => up q) fun _ _ q => up q
theorem kinst_of (I : Inv X pins σ H s) (e : Kept H a C fs) : ∃ ox od, PySem.W.InstAt s.heap a ox C (some od) ∧ ∃ d, ox.dict = some d ∧ H d = some (.xd fs) ∧ s.heap.get? d = some od := by
  obtain ⟨d, h1, h2⟩ := e
  obtain ⟨oe, vs, ho, hz, hf⟩ := kxo_at I.hok h1
  have hx : ObjOk X.prog X.w H s.heap d (.xd fs) := I.hok d _ h2
  obtain ⟨mA, hns, _⟩ := hx
  obtain ⟨od, hd, _⟩ := lookIn_ns hns
  exact ⟨oe, od, ⟨ho, hz.1, by unfold PySem.W.notCls; rw [hf] <;> rfl, by rw [hz.2]; exact hd⟩, d, hz.2, h2, hd⟩
end
/-- isinstance(e, c): e a caught error -/
def rIsQ (K : PySem.W.Frag) : List V → Hp → VK → Prop := fun xs H Q => ∃ (a C : Addr) (fs : List (Str × V)) (c : V) (cv : Value) (b : Bool), xs = [.ref a, c] ∧ ExcC K C ∧ Kept H a C fs ∧ ClsV c cv ∧ PySem.W.kitOne K (.ref C) cv = some b ∧ Q (.bl b) H
theorem call_isQ {X : Cx} : CallR X (.builtin "isinstance") (rIsQ X.K) := by
  intro pins s σ H xs us Q I r h
  obtain ⟨a, C, fs, c, cv, b, rfl, hC, he, k, e, q⟩ := h
  obtain ⟨u1, u2, rfl, r1, r2⟩ := vals2 r
  cases (show u1 = Value.ref a from r1)
  have e2 := k.eq r2
  subst e2
  obtain ⟨ox, od, J, _⟩ := kinst_of I he
  refine PySem.W.kia_one (PySem.W.kitx_exc (ox := ox) (od := some od) ?_ hC.hg hC.hk hC.hs hC.ha hC.hn hC.ht hC.hm) I.kIn J e (fun z => nomatch z) fun tk => ⟨.bl b, H, I.tok tk, rfl, q⟩
  have z := hC.hd
  unfold PySem.W.hasDictIn at z
  cases w : PySem.W.clsIn X.K C with
  | some _ => rfl
  | none => rw [w] at z; cases z
/-- e.f: a field of a caught error -/
def tQx (K : PySem.W.Frag) (f : Str) (te : TE) : TE := fun σ H Q => te σ H fun x H1 => ∃ (a C : Addr) (fs : List (Str × V)) (v : V), x = .ref a ∧ XfC K C ∧ PySem.W.findIn K (.ref C) f = some none ∧ Kept H1 a C fs ∧ fs.lookup f = some v ∧ Q v H1
theorem pe_qx {X : Cx} {e : Expr} {te : TE} {pos : Pos} {f : Str} (he : PE X e te) (hb : attributeBase e f X.env (eval e X.env) = eval e X.env := by rfl) : PE X (.Attribute e f pos) (tQx X.K f te) := by
  refine ⟨fun pins s σ H Q I h => attr_of hb (thn (he.run pins s σ H _ I h) fun u s1 ⟨x, H1, I1, rx, a, C, fs, v, ex, T, hno, he, l, q⟩ => ?_)⟩
  subst ex
  cases (show u = Value.ref a from rx)
  obtain ⟨d, h1, h2⟩ := he
  obtain ⟨oe, vs, ho, hz, hf⟩ := kxo_at I1.hok h1
  have hx : ObjOk X.prog X.w H1 s1.heap d (.xd fs) := I1.hok d _ h2
  obtain ⟨mA, hns, hr⟩ := hx
  obtain ⟨od, hd, hl⟩ := lookIn_ns hns
  obtain ⟨y, hy, ry⟩ := RelO.some_of (v := v) (o := mA f) (by rw [← l]; exact hr f)
  have J : PySem.W.InstAt s1.heap a oe C (some od) := ⟨ho, hz.1, by unfold PySem.W.notCls; rw [hf] <;> rfl, by rw [hz.2]; exact hd⟩
  exact HandSPX.exc_get I1.kIn J T.ga T.gg T.exC (PySem.W.findObj_own T.hdC hno rfl (by rw [hl, hy])) (handed_of ry) ⟨v, H1, I1.tok _, ry, q⟩

/-! ### try: body, except x as n: y = n -/
def wKeep (K : PySem.W.Frag) (c : Value) (i j : Nat) (Wout : WX) (D : Ends) : WX := fun cls d σ H => ∃ (C : Addr) (b : Bool), cls = .ref C ∧ PySem.W.exmOne K cls c = some b ∧
  (b = true → ∀ a, H a = none → D.nx (((σ.set i (some (.ref a))).set j (some (.ref a))).set i none) (upd H a (kxo a C d))) ∧ (b = false → Wout cls d σ H)
section
variable {X : Cx} {x n y : Str} {c : Value} {i j : Nat} {body : List Stmt} {np np2 yp ap pos pos' : Pos} {tb : WX → TS} {Wout : WX}
theorem ps_try_keep (hex : X.ex = []) (hs : X.stack = X.env :: X.outer) (hf : X.env.frame = some X.env.locals) (hN : X.N.Nodup) (hi : X.N[i]? = some n) (hln : X.env.kindOf n = some .local) (hj : X.N[j]? = some y) (hly : X.env.kindOf y = some .local) (hij : i ≠ j) (hc : Names X x c) (tk : Takes X Wout)
    (hb : ∀ (W : WX) (pn : List (Addr × Obj)) (xe : Value → Shared → Prop), Takes (X.tr pn xe) W → PassesOwn (model X.prog X.w) X.A X.env xe → PSs (X.tr pn xe) body (tb W))
    (hsu : ∀ (a : Addr) (pn : List (Addr × Obj)), PSs (X.suite a pn) [.Assign [.Name y yp] (.Name n np2) ap] (tAsg (tVar i) (gName j))) :
    PS X (.Try body [.ExceptHandler (some (.Name x np)) (some n) [.Assign [.Name y yp] (.Name n np2) ap] pos'] [] [] pos) (fun D σ H => tb (wKeep X.K c i j Wout D) D σ H) := by
  refine ⟨fun pins s σ H D I h => ?_⟩
  have ok := I.ok
  have frames : X.A.frames = some (X.env :: X.outer) := by rw [ok.frames, hs]
  refine wpAny_Try_except ?_
  refine wpAny_mono ((hb (wKeep X.K c i j Wout D) (X.pn ++ pins) (fun e t1 => wpAny (model X.prog X.w) X.A (noteFrame e X.env) (fun _ t2 => wpAny (model X.prog X.w) X.A (setFlight e none) (fun _ t3 =>
    wpAny (model X.prog X.w) X.A (handleBy e X.env [.ExceptHandler (some (.Name x np)) (some n) [.Assign [.Name y yp] (.Name n np2) ap] pos']) (SP X pins D) X.xe t3) X.xe t2) X.xe t1) (fun u s' air => ?_) PassesOwn.looking).run [] s σ H D (I.toTry _) h) (fun fl s1 q => ?_) (fun _ _ q => q)
  · obtain ⟨a, B, sI, pins', σ', H', cls, d, rfl, J', nb, up, sky, na, os, ag, C, b, hcls, hb1, yes, no⟩ := air
    have J : Inv X pins σ' H' sI := J'.ofTry ok
    rw [show (X.tr (X.pn ++ pins) _).stack = X.env :: X.outer from hs] at sky
    show wpAny (model X.prog X.w) X.A (noteFrame (.ref a) X.env) _ _ _
    refine Sky.land Zc.steady frames hf sky fun h3 fl3 up3 => ?_
    have J3 : Inv X pins σ' H' { s' with heap := h3 } := J.landed nb fl3.1 (up.trans up3) os ag
    obtain ⟨o3, f3, g3, z3, d3⟩ := fl3.there
    have outside : ∀ {h : Heap} {o : Obj} {vs : Array Value}, h.FunFrames B (X.env :: X.outer) → h.get? a = some o → o.data = .fields vs → a ∉ frs (X.env :: X.outer) := fun {h o vs} ff e dd hm => by
      obtain ⟨_, o', e', nf⟩ := ff.mem hm
      rw [e] at e'
      cases e'
      exact nf _ dd
    have off := outside fl3.2.2.1 g3 d3
    have nL : a ≠ X.env.locals := fun z => off (List.mem_filterMap.mpr ⟨X.env, List.mem_cons_self, by rw [hf, z]⟩)
    have nF : a ∉ X.fs := fun hm => by
      obtain ⟨e, he, q⟩ := List.mem_filterMap.mp hm
      exact off (List.mem_filterMap.mpr ⟨e, List.mem_cons_of_mem _ he, q⟩)
    -- it is new to the state ahead of it
    have newI : ∀ {b : Addr} {o : Obj}, sI.heap.get? b = some o → b ∉ frs X.stack → b ≠ a := fun {b o} e nf z => by
      have q := nb b o e nf
      rw [z, fl3.2.1] at q
      cases q
    have n0 : X.s_0.heap.get? a = none := by
      cases q : X.s_0.heap.get? a with
      | none => rfl
      | some o =>
        by_cases hx : a ∈ X.ex
        · rw [hex] at hx
          cases hx
        · obtain ⟨o', e'⟩ := J.base.there a o q hx
          exact absurd rfl (newI e' (by rw [hs]; exact off))
    have nP : ∀ p ∈ X.pn ++ pins, p.1 ≠ a := fun p hp z => by
      have q := (J.pin p hp).1
      rw [z] at q
      exact newI q (by rw [hs]; exact off) rfl
    have S3 := J3.suite g3 d3 na nL nF
    refine wpAny_handleBy_cons (codeAny_handlers_test ?_) (by intro q; cases q)
    have LT : PySem.W.Looks (model X.prog X.w) h3 (typeOf (.ref a)) cls := fun A Q E s k q => wpAny_typeOf_ref (k _ _ g3) (by rw [z3.1]; exact q)
    have LM := PySem.W.exm_one (M := model X.prog X.w) J3.kIn LT hb1
    have named : ∀ {Q : Value → Shared → Prop} {E : Value → Shared → Prop}, Q c { s' with heap := h3 } → wpAny (model X.prog X.w) (X.A.mark (some (.ref a))) (eval (.Name x np) X.env) Q E { s' with heap := h3 } := fun {Q E} q => by
      obtain ⟨hg, hdbg, hm | ⟨hm, hv, hnn⟩⟩ := hc
      · exact ld_glob (X := X.suite a ((a, o3) :: (X.pn ++ pins))) S3 hg hm q hdbg
      · exact ld_blt (X := X.suite a ((a, o3) :: (X.pn ++ pins))) S3 hg hm hv q hnn hdbg
    refine named (LM.here ?_)
    cases b with
    | true =>
      refine codeAny_handlers_suite_as (HandSPX.lands_againZ fl3 fun h4 fl4 up4 => ?_)
      have J4 : Inv X pins σ' H' { s' with heap := h4 } := J.landed nb fl4.1 ((up.trans up3).trans up4) os ag
      obtain ⟨o4, f4, g4, z4, d4⟩ := fl4.there
      have S4 := J4.suite g4 d4 na nL nF
      have hiσ : i < σ'.length := by rw [J.len]; exact (List.getElem?_eq_some_iff.mp hi).1
      refine store_ok (X := X.suite a ((a, o4) :: (X.pn ++ pins))) (v := .ref a) S4 hN hi (.inl hln) rfl (fun s5 S5 => ?_) (.inr hln)
      have go := (hsu a ((a, o4) :: (X.pn ++ pins))).run [] s5 _ H' { nx := fun σ6 H6 => σ6 = (σ'.set i (some (.ref a))).set j (some (.ref a)) ∧ H6 = H', rt := fun _ _ => False, bk := fun _ _ => False, ct := fun _ _ => False } S5
        ⟨.ref a, by rw [List.getElem?_set_self hiσ], rfl, rfl⟩
      refine wpAny_mono go (fun fl s6 q => ?_) (fun _ _ z => False.elim z)
      cases fl with
      | next =>
        obtain ⟨σ6, H6, S6, e6, e7⟩ := q
        rw [e6, e7] at S6
        show wpAny (model X.prog X.w) X.A (do bindName X.env n .none; unbindBehindTheSuite X.env n pos') _ _ _
        refine gone_ok (X := X.suite a ((a, o4) :: (X.pn ++ pins))) S6 hN hi hln fun s7 S7 => ?_
        have g7 : s7.heap.get? a = some o4 := (S7.pin (a, o4) (List.mem_append_left _ List.mem_cons_self)).1
        have J7 : Inv X pins _ H' s7 := S7.unsuite ok
        rw [hcls] at z4
        refine ⟨_, _, track J7 (kxo_ok g7 z4 d4) na n0 nL (fun x0 c0 e z => ?_) nP, yes rfl a na⟩
        obtain ⟨v, hv⟩ := J7.cell x0 c0 e
        rw [z] at hv
        obtain ⟨oc, hoc, hdc⟩ := hv
        rw [g7] at hoc
        cases hoc
        rw [d4] at hdc
        cases hdc
      | brk => obtain ⟨_, _, _, z⟩ := q; exact False.elim z
      | cont => obtain ⟨_, _, _, z⟩ := q; exact False.elim z
      | ret u => obtain ⟨_, _, _, _, _, z⟩ := q; exact False.elim z
    | false =>
      show wpAny _ X.A (handleBy (.ref a) X.env []) _ _ _
      refine wpAny_handleBy_nil ?_
      obtain ⟨_, _, _, oe, vs, T, oT, ts', he, hz, hd, h1, hr⟩ := id fl3
      unfold PySem.passOn
      refine wpAny_bind (wpAny_field he hd h1 ?_)
      rw [if_neg (show ¬ ((Value.ref T == Value.none) = true) from by simp)]
      have away : wpAny (model X.prog X.w) X.A (setFlight (.ref a) X.env.frame) (fun _ s4 => wpAny (model X.prog X.w) X.A (throw (.ref a) : Sem Flow) (SP X pins D) X.xe s4) X.xe { s' with heap := h3 } := by
        rw [hf]
        refine HandSPX.setFlight_upZ fl3 fun h4 hh4 up4 => wpAny_throw (tk _ _ ⟨a, B, sI, pins, σ', H', cls, d, rfl, J, nb, (up.trans up3).trans up4, .inr (.inr (by rw [hs]; exact hh4)), na, os, ag, no rfl⟩)
      first
        | exact wpAny_bind (wpAny_pure (wpAny_bind away))
        | exact wpAny_bind away
  · cases fl with
    | next =>
      obtain ⟨σ', H', J', q⟩ := q
      exact wpAny_execs_nil ⟨σ', H', J'.ofTry ok, q⟩
    | brk =>
      obtain ⟨σ', H', J', q⟩ := q
      exact ⟨σ', H', J'.ofTry ok, q⟩
    | cont =>
      obtain ⟨σ', H', J', q⟩ := q
      exact ⟨σ', H', J'.ofTry ok, q⟩
    | ret u =>
      obtain ⟨v, σ', H', J', r, q⟩ := q
      exact ⟨v, σ', H', J'.ofTry ok, r, q⟩
end

/-! ### raise, and calls that may raise -/
/-- a reading that may be weakened -/
def tLax (te : TE) : TE := fun σ H Q => ∃ Q0 : VK, te σ H Q0 ∧ ∀ v H1, Q0 v H1 → Q v H1
theorem pe_lax {X : Cx} {e : Expr} {te : TE} (h : PE X e te) : PE X e (tLax te) :=
  ⟨fun pins s σ H Q I ⟨Q0, h0, im⟩ => wpAny_mono (h.run pins s σ H Q0 I h0) (fun u s' ⟨v, H1, J, r, q⟩ => ⟨v, H1, J, r, im v H1 q⟩) fun _ _ z => z⟩
/-- raise C(e) -/
def tRs (C : Addr) (f : Str) (te : TE) : L2.St → Hp → XK → Prop := fun σ H Q => te σ H fun y H1 => ∀ d H2, Same H1 H2 → H1 d = none → H2 d = some (.xd [(f, y)]) → Q (.ref C) (some d) H2
section
variable {X : Cx} {x f q : Str} {C : Addr} {e : Expr} {te : TE} {p pos : Pos}
theorem pmk_err (O : OwnE X.K X.mg x C f q) (hr : Room 2 X.A) (hg : Gl X x) (he : PE X e te) (hdb : (x == ("__debug__" : Str)) = false := by decide) (hs : starEach [e] X.env = (false, eval e X.env) :: starEach [] X.env := by rfl) :
    PMk X (.Call (.Name x p) [e] [] pos) (tRs C f te) := by
  obtain ⟨fI, fd, iC, tI, _, b1, _, ok⟩ := O.ex
  intro pins s σ H Q I h
  refine pmk_oex (ta := tCons (tLax te) tNil) (dvs := []) (ds := []) O.ox iC tI (ok X.prog X.w X.base) hr b1 .nil pass0 hg O.m (pa_cons (pe_lax he) pa_nil hs) hdb hs (by rfl) pins s σ H Q I ⟨_, h, fun y H1 hy => ?_⟩
  refine ⟨by simp, fun a na => ⟨a, y, rfl, upd_same, fun dx nd ne => ⟨rfl, dx, [(f, y)], upd_same, ?_, ?_, ?_⟩⟩⟩
  · rw [upd_ne ne, upd_same]
  · rw [upd_ne ne] at nd
    exact nd
  · rw [upd_ne ne] at nd
    refine hy dx _ (fun b o hb => ?_) nd upd_same
    have e1 : b ≠ a := fun z => by rw [z, na] at hb; cases hb
    have e2 : b ≠ dx := fun z => by rw [z, nd] at hb; cases hb
    rw [upd_ne e2, del_ne e1, upd_ne e1, upd_ne e2, upd_ne e1]
    exact hb
end
/-- f(e, ..), f may raise: W by the slots as they stand -/
def tCallX (sp : Sp) (dvs : List V) (W : WX) (t : TA) : TE := fun σ H Q => t σ H fun vs H1 => sp (vs ++ dvs) H1 Q fun cls d H2 => W cls d σ H2
section
variable {X : Cx} {k : Nat} {f : Addr} {fd : FuncData} {ps : List Str} {sp : Sp} {ds : List Value} {dvs : List V} {W : WX} {x : Str} {e : Expr} {es : List Expr} {t : TA} {p pos : Pos}
theorem run_fnX {pins : List (Addr × Obj)} {σ : L2.St} {H : Hp} {s : Shared} {Q : VK} {us : List Value} {vs : List V} (F : FnOk X.prog X.w X.K X.mg X.base (L2.CX X.prog X.w) k f fd ps sp) (tk : Takes X W) (hr : Room k X.A) (hb : Binds X.K fd ps ds) (hd : Vals dvs ds)
    (J : Inv X pins σ H s) (r : Vals vs us) (q : sp (vs ++ dvs) H Q fun cls d H2 => W cls d σ H2) : wpAny (model X.prog X.w) X.A (call (.ref f) us) (EP X pins σ Q) X.xe s := by
  have rr : Vals (vs ++ dvs) (us ++ ds) := r.append hd
  refine wpAny_call (codeAny_mono (F.run X.A X.stack s H ⟨us, []⟩ (us ++ ds) (vs ++ dvs) Q _ hr J.env0 (hb s us J.kIn (rr.length.symm.trans (F.len _ _ _ _ q))) rr q) fun res s' z => ?_)
  cases res with
  | error er => exact tk er s' (XE.of_call J (fun cls d H' w => w) z)
  | ok fl =>
    cases fl with
    | ret u => exact J.after z
    | next => exact False.elim z
    | brk => exact False.elim z
    | cont => exact False.elim z
theorem pe_callX (F : FnOk X.prog X.w X.K X.mg X.base (L2.CX X.prog X.w) k f fd ps sp) (tk : Takes X W) (hr : Room k X.A) (hg : Gl X x) (hm : X.mg x = some (.ref f)) (hk : PySem.W.keepIn X.K (.ref f) = true) (hb : Binds X.K fd ps ds) (hd : Vals dvs ds)
    (ha : PA X (e :: es) t) (hdb : (x == ("__debug__" : Str)) = false := by decide) (he : starEach (e :: es) X.env = (false, eval e X.env) :: starEach es X.env := by rfl) (hpl : (backTo pos (starEach es X.env)).any (·.1) = false := by rfl) :
    PE X (.Call (.Name x p) (e :: es) [] pos) (tCallX sp dvs W t) :=
  ⟨fun pins s σ H Q I h => wpAny_Call_Name_kw (ld_glob I hg hm (PySem.W.callWith_K (h₀ := X.base) I.ok.mod.kin hk (thn (ha.run pos pins s σ H _ I h) fun us s1 ⟨vs, H1, J, r, q⟩ => ⟨J.kIn, run_fnX F tk hr hb hd J r q⟩) he hpl) hdb)⟩
end

open TR in
/-- repr(x) of plain data of any kind -/
def rReprV : List V → Hp → VK → Prop := fun xs H Q => ∃ (x : V) (d : PyData) (c : Bool), xs = [x] ∧ DV H c x d ∧ (d.hasDict = true → c = true) ∧ d.showable = true ∧ d.depth ≤ 60 ∧ d.shown.length ≤ sizeLine ∧ Q (.str d.shown) H
open TR in
theorem cr_reprV {X : Cx} (hg : X.A.guards = some []) (hu : X.A.units + 64 < cLine) : CallR X (.builtin "repr") rReprV := by
  intro pins s σ H xs us Q I r h
  obtain ⟨x, d, c, rfl, hd, hc, hs, hp, hz, q⟩ := h
  have asRef : ∀ a, x = .ref a → wpAny (model X.prog X.w) X.A (call (.builtin "repr") us) (EP X pins σ Q) X.xe s := fun a e => by
    subst e
    exact cr_repr hg hu pins s σ H _ us Q I r ⟨a, d, c, rfl, hd, hc, hs, hp, hz, q⟩
  cases hd with
  | non =>
    obtain ⟨u, rfl, ru⟩ := r.one
    cases (show u = Value.none from ru)
    simp only [PyData.shown] at q
    exact PySem.P.repr_of_none ⟨.str "None", H, I.tok _, ⟨_, rfl⟩, q⟩
  | bl b =>
    obtain ⟨u, rfl, ru⟩ := r.one
    cases (show u = Value.bool b from ru)
    simp only [PyData.shown] at q
    exact PySem.P.repr_of_bool ⟨.str (if b then "True" else "False"), H, I.tok _, ⟨_, rfl⟩, q⟩
  | int i =>
    obtain ⟨u, rfl, ru⟩ := r.one
    obtain ⟨t, rfl⟩ := (show ∃ t, u = Value.int i t from ru)
    simp only [PyData.shown] at q
    exact PySem.P.repr_of_int (by simpa only [PyData.showable, decide_eq_true_eq] using hs) ⟨.str (toString i), H, I.tok _, ⟨_, rfl⟩, q⟩
  | str z =>
    obtain ⟨u, rfl, ru⟩ := r.one
    obtain ⟨t, rfl⟩ := (show ∃ t, u = Value.str z t from ru)
    simp only [PyData.shown] at q hz
    exact PySem.P.repr_of_str ⟨.str (reprText z), H, I.tok _, ⟨_, rfl⟩, q⟩ hz
  | lst a b c => exact asRef _ rfl
  | tup a b => exact asRef _ rfl
  | dic a b => exact asRef _ rfl

/-- fs[i](e, ..): a function out of a list, it may raise -/
def tCallSX (P : Program) (w : World) (K : PySem.W.Frag) (mg : Str → Option Value) (base : Heap) (A : Around) (W : WX) (tf : TE) (t : TA) : TE := fun σ H Q => tf σ H fun x H1 => ∃ (f : Addr) (fd : FuncData) (ps : List Str) (sp : Sp) (k : Nat), x = .ref f ∧ FnOk P w K mg base (L2.CX P w) k f fd ps sp ∧ Room k A ∧ PySem.W.keepIn K (.ref f) = true ∧ Binds K fd ps [] ∧
  t σ H1 fun vs H2 => sp vs H2 Q fun cls d H3 => W cls d σ H3
theorem pe_callSX {X : Cx} {W : WX} {a i : Expr} {e : Expr} {es : List Expr} {tf : TE} {t : TA} {p pos : Pos} (tk : Takes X W) (hf : PE X (.Subscript a i p) tf) (ha : PA X (e :: es) t)
    (hc : eval (.Call (.Subscript a i p) (e :: es) [] pos) X.env = (do let f ← eval (.Subscript a i p) X.env; callWith pos f [] (backTo pos (starEach (e :: es) X.env)) (backToKw pos (keywordEach [] X.env))) := by rfl)
    (he : starEach (e :: es) X.env = (false, eval e X.env) :: starEach es X.env := by rfl) (hpl : (backTo pos (starEach es X.env)).any (·.1) = false := by rfl) :
    PE X (.Call (.Subscript a i p) (e :: es) [] pos) (tCallSX X.prog X.w X.K X.mg X.base X.A W tf t) := by
  refine ⟨fun pins s σ H Q I h => ?_⟩
  rw [hc]
  refine wpAny_bind (thn (hf.run pins s σ H _ I h) fun u s1 ⟨x, H1, J, rx, f, fd, ps, sp, k, ex, F, hr, hk, hb, q⟩ => ?_)
  subst ex
  cases (show u = Value.ref f from rx)
  exact PySem.W.callWith_K (h₀ := X.base) J.ok.mod.kin hk (thn (ha.run pos pins s1 σ H1 _ J q) fun us s2 ⟨vs, H2, J2, r, q2⟩ => ⟨J2.kIn, run_fnX (dvs := []) (ds := []) F tk hr hb .nil J2 r (by rw [List.append_nil]; exact q2)⟩) he hpl
end TQ

set_option Elab.async false
set_option linter.all false
set_option maxRecDepth 100000
set_option maxHeartbeats 4000000
/-! TV: texts with a sign struck out, behind a list of a written text; nested data beside an empty tuple. -/
namespace TV
open PySem PySem.Spec PyProof.Rows L2 TX CwR
section
variable {X : Cx} {rest : List Stmt} {u : TS}
/-- a list of one written text is stored under a name: behind it a token is out -/
theorem pss_lstT {i j : Nat} {x c : Str} {cpos lpos pos' pos : Pos} (hN : X.N.Nodup) (hi : X.N[i]? = some x) (hx : Loc X.env.scope x) (h2 : PSsT X rest u)
    (hs : swapsWith (.List [.Constant (.str c) j cpos] lpos) (some (.Name x pos')) pos.line X.env = pure false := by rfl) (hf : X.fn x = true ∨ X.env.scope.names.lookup x = some .local := by first | exact .inl rfl | exact .inr rfl | assumption) :
    PSs X (.Assign [.Name x pos'] (.List [.Constant (.str c) j cpos] lpos) pos :: rest) (tSeq (tAsg (tLst (tCons (tC (.str c)) tNil)) (gName i)) u) := by
  refine ⟨fun pins s σ H D I h => ?_⟩
  refine wpAny_execs_cons (wpAny_Assign_Name (wpAny_List_spliced ?_) hs)
  show wpAny _ _ (spliced ((false, eval (.Constant (.str c) j cpos) X.env) :: backTo lpos (starEach [] X.env))) _ _ s
  refine Calls.spliced_cons (Calls.Constant_str (Calls.spliced_nil ?_))
  have h1 : (1 : Nat) ≤ sizeLine := by decide
  refine ⟨h1, ?_⟩
  have hfr : H s.heap.objs.size = none := I.hok.fresh (Nat.le_refl _)
  have I1 : Inv X pins σ (upd H s.heap.objs.size (.lst [.str c])) _ := I.laid (t' := s.toks + 1) (fun b u e => Heap.get?_push_of_some _ e) (Nat.le_refl _) ⟨h1, [.str c s.toks], 0, .cons ⟨_, rfl⟩ .nil, Heap.get?_push_size _ rfl⟩
  refine wpAny_mono (PySem.wpAny_toks (store_ok (v := V.ref s.heap.objs.size) (u := Value.ref s.heap.objs.size) (Q := fun _ s2 => Inv X pins (σ.set i (some (V.ref s.heap.objs.size))) (upd H s.heap.objs.size (.lst [.str c])) s2) I1 hN hi hx rfl (fun _ I2 => I2) hf)) (fun _ s2 q => ?_) fun _ _ z => z.2
  have hk : s.toks + 1 ≤ s2.toks := q.1
  exact h2 pins s2 _ _ D (by omega) q.2 (h.2 _ hfr)
theorem pit_str {tg e : Expr} {te : TE} (he : PET X e te) : PIT X tg e (iStr te) := by
  intro pins s σ H R h0 I h
  refine thn (he pins s σ H _ h0 I h) fun v s1 ⟨y, H1, I1, r1, x, ex, q⟩ => ?_
  subst ex
  obtain ⟨t, rfl⟩ := r1
  cases ha : x.cps.all (· < 128)
  · exact wpAny_pyIter_wide ha (pi_one (tk := s1.toks) I1 _ (turn_str _ x t "str_iterator" (.inr rfl)) ⟨_, Heap.get?_push_size _ rfl, rfl, rfl⟩ q)
  · exact wpAny_pyIter_ascii ha (pi_one (tk := s1.toks) I1 _ (turn_str _ x t "str_ascii_iterator" (.inl rfl)) ⟨_, Heap.get?_push_size _ rfl, rfl, rfl⟩ q)
end
section
variable {X : Cx}
/-- equality of data one of which is not deep -/
def rEqE (K : PySem.W.Frag) : R2 := fun x y H Q => ∃ d e, Dp K H x d ∧ Dp K H y e ∧ d.canLay0 = true ∧ e.canLay0 = true ∧ min d.depth e.depth ≤ 64 ∧ Q (.bl (PyData.eqv d e)) H
theorem op_eqE (hu : X.A.units + 64 < cLine) : OpR X (compareOp .Eq) (rEqE X.K) := by
  intro pins s σ H x y v u Q I rx ry h
  obtain ⟨d, e, hd, he, sd, se, hm, q⟩ := h
  obtain ⟨as, r1⟩ := Dp.reads I d x v hd rx
  obtain ⟨bs, r2⟩ := Dp.reads I e y u he ry
  exact PySem.SeqAt.compareEq_reads r1 r2 sd se (by omega) ⟨.bl _, H, I, rfl, q⟩
end
end TV

set_option Elab.async false
set_option linter.all false
set_option maxRecDepth 100000
set_option maxHeartbeats 4000000
/-! TU: a text from its end to its beginning. -/
namespace TU
open PySem PySem.Spec PyProof.Rows L2
def tRevS (te : TE) : TE := fun σ H Q => te σ H fun x H1 => ∃ z : Str, x = .str z ∧ z.length ≤ sizeLine ∧ Q (.str ⟨z.cps.toList.reverse.toArray⟩) H1
theorem rev_list (x : Str) (u : Tok) : ((Builtin.Str.strSliceIndices none none (-1) x.length).filterMap (x.cps[·]?)) = x.cps.toList.reverse := by
  rw [picked_rev, filterMap_get, List.map_map]
  · refine List.ext_getElem (by simp [Str.length]) fun i h1 h2 => ?_
    simp only [List.length_map, List.length_range] at h1
    have hx : x.length - 1 - i < x.cps.size := by show x.length - 1 - i < x.length; omega
    rw [List.getElem_map, List.getElem_range, List.getElem_reverse]
    show x.cps.getD (x.length - 1 - i) 0 = _
    rw [Array.getD_eq_getD_getElem?, Array.getElem?_eq_getElem hx]
    simp [Str.length]
  · intro i hi
    obtain ⟨k, hk, rfl⟩ := List.mem_map.mp hi
    have hk' : k < x.length := List.mem_range.mp hk
    show x.length - 1 - k < x.length
    omega
section
variable {X : Cx}
theorem pe_revS {e : Expr} {te : TE} {k : Nat} {p1 p2 p3 pos : Pos} (he : PE X e te) : PE X (.Subscript e (.Slice none none (some (.UnaryOp .USub (.Constant (.int 1) k p1) p2)) p3) pos) (tRevS te) := by
  refine ⟨fun pins s σ H Q I h => ?_⟩
  refine Subscript_ (thn (he.run pins s σ H _ I h) fun v s1 ⟨x, H1, I1, r1, q1⟩ => ?_)
  obtain ⟨z, ex, hz, q⟩ := q1
  subst ex
  obtain ⟨t, rfl⟩ := r1
  have hst : PO X (some (.UnaryOp .USub (.Constant (.int 1) k p1) p2)) (tPart (tUn (rU fun i => .int (-i)) (tC (.int 1)))) := po_some (pe_un un_neg pe_int)
  refine wpAny_Slice (thn (po_none.run pins s1 σ H1 (fun o H2 => o = none ∧ H2 = H1) I1 ⟨rfl, rfl⟩) fun vl s2 ⟨l, H2, I2, pl, el, e2⟩ => ?_)
  subst el e2
  refine thn (po_none.run pins s2 σ H2 (fun o H3 => o = none ∧ H3 = H2) I2 ⟨rfl, rfl⟩) fun vu s3 ⟨u, H3, I3, pu, eu, e3⟩ => ?_
  subst eu e3
  refine thn (hst.run pins s3 σ H3 (fun o H4 => o = some (-1) ∧ H4 = H3) I3 ⟨1, rfl, -1, rfl, rfl, rfl⟩) fun vs s4 ⟨o, H4, I4, ps, eo, e4⟩ => ?_
  subst eo e4
  have I5 : Inv X pins σ H4 { s4 with heap := s4.heap.push { cls := .type "slice", data := .fields #[vl, vu, vs] } } := I4.kept (t' := s4.toks) fun b ob q => Heap.get?_push_of_some _ q
  show wpAny (model X.prog X.w) X.A (subscriptTail e (.Slice none none (some (.UnaryOp .USub (.Constant (.int 1) k p1) p2)) p3) (.str z t) (.ref s4.heap.objs.size)) (EP X pins σ Q) X.xe { s4 with heap := s4.heap.push { cls := .type "slice", data := .fields #[vl, vu, vs] } }
  cases pl
  cases pu
  obtain ⟨tk, rfl⟩ : ∃ tk, vs = Value.int (-1) tk := by
    cases ps
    exact ⟨_, rfl⟩
  have hsl : ({ s4 with heap := s4.heap.push { cls := .type "slice", data := .fields #[_, _, _] } } : Shared).heap.IsSlice s4.heap.objs.size none none (some (-1, tk)) := ⟨_, Heap.get?_push_size _ rfl, rfl, rfl⟩
  refine tail_any (ops := [.str z t, .ref s4.heap.objs.size]) (typeIs_str _ _ _) (PySem.F.slot_str_getitem.lookup) ?_ (by with_unfolding_all rfl)
  refine wpAny_getItem_str_slice (l := none) (u := none) (st := some (-1, tk)) hsl rfl ?_
  have e9 : ((Builtin.Str.strSliceIndices none none (-1) z.length).filterMap (z.cps[·]?)) = z.cps.toList.reverse := rev_list z tk
  show Made.post (if ((-1 : Int) == 1 && (Builtin.Str.strSliceIndices none none (-1) z.length).length == z.length) = true then Made.val (.str z t)
    else Made.str ⟨((Builtin.Str.strSliceIndices none none (-1) z.length).filterMap (z.cps[·]?)).toArray⟩) (EP X pins σ Q) _
  rw [if_neg (by rw [show ((-1 : Int) == 1) = false from rfl]; simp), e9]
  exact ⟨by show (z.cps.toList.reverse.toArray).size ≤ _; simp only [List.size_toArray, List.length_reverse]; exact hz, .str _, H4, I5.tok _, ⟨_, rfl⟩, q⟩
/-- text * n -/
def rRep1 : R2 := fun x y H Q => ∃ (z : Str) (n : Nat), x = .str z ∧ y = .int (n : Nat) ∧ 2 ≤ n ∧ n ≤ 100000 ∧ 1 ≤ z.length ∧ z.length ≤ 100 ∧ Q (.str ⟨(List.replicate n z.cps.toList).flatten.toArray⟩) H
theorem fold_rep (a : Array Nat) : ∀ (k : Nat) (acc : Array Nat), (List.replicate k a).foldl (· ++ ·) acc = acc ++ (List.replicate k a.toList).flatten.toArray
  | 0, acc => by simp
  | k + 1, acc => by
    rw [List.replicate_succ, List.foldl_cons, fold_rep a k, List.replicate_succ, List.flatten_cons]
    apply Array.ext'
    simp
theorem op_rep_str : OpR X (binaryOp .Mult) rRep1 := by
  intro pins s σ H x y v u Q I rx ry h
  obtain ⟨z, n, rfl, rfl, h2, h3, h4, h5, q⟩ := h
  obtain ⟨t, rfl⟩ := rx
  obtain ⟨t', rfl⟩ := ry
  have hz : z.length * n ≤ 100 * 100000 := Nat.mul_le_mul h5 h3
  have e : (⟨(List.replicate n z.cps).foldl (· ++ ·) #[]⟩ : Str) = ⟨(List.replicate n z.cps.toList).flatten.toArray⟩ := by
    rw [fold_rep]
    simp
  have e1 : ((n : Int) == 1 || z.length == 0) = false := by
    have a1 : ((n : Int) == 1) = false := by simp; omega
    have a2 : (z.length == 0) = false := by simp; omega
    rw [a1, a2]
    rfl
  refine PySem.P.mul_str ?_ (fun _ _ => ?_) (fun _ _ => ?_) ?_
  · have a1 : ¬ ((n : Int) < -(2 ^ 63 : Int)) := by omega
    have a2 : ¬ ((n : Int) ≥ 2 ^ 63) := by omega
    rw [decide_eq_false a1, decide_eq_false a2]
    rfl
  · have : (100000 : Int) ≤ (2 ^ 63 - 1) / (n : Int) := by
      refine (Int.le_ediv_iff_mul_le (by omega)).mpr ?_
      omega
    omega
  · rw [Int.toNat_natCast]
    unfold PySem.Builtin.Str.tooLong
    simp
    have := sizeLine_eq
    omega
  · rw [if_neg (by omega), e1, if_neg Bool.false_ne_true, Int.toNat_natCast, e]
    refine ⟨?_, .str _, H, I.tok _, ⟨_, rfl⟩, q⟩
    show ((List.replicate n z.cps.toList).flatten.toArray).size ≤ _
    have hl : z.cps.toList.length = z.length := by simp [Str.length]
    have : (List.replicate n z.cps.toList).flatten.length = n * z.length := by
      rw [List.length_flatten, List.map_replicate, List.sum_replicate_nat, hl]
    rw [List.size_toArray, this, Nat.mul_comm, sizeLine_eq]
    omega
end
end TU

set_option Elab.async false
set_option linter.all false
set_option maxRecDepth 100000
set_option maxHeartbeats 4000000

/-! TY: defs that call themselves some hundred levels down. -/
namespace TY
open PySem PySem.Spec PyProof.Rows L2
open TR
/-- room for n calls straight down, and for k more as Room counts them -/
structure RoomD (n k : Nat) (A : Around) : Prop where
  hd : A.handled = none
  dp : A.depth + n + 3 * k + 5 < recursionLimit
  un : A.units + 3 * n + 16 * k + 200 < cLine
theorem RoomD.mono {j n i k : Nat} {A : Around} (r : RoomD n k A) (h : j ≤ n) (g : i ≤ k) : RoomD j i A := ⟨r.hd, by have := r.dp; omega, by have := r.un; omega⟩
theorem RoomD.deeper {n k : Nat} {A : Around} (r : RoomD (n + 1) k A) (env : Env) : RoomD n k (A.deeper env) :=
  ⟨r.hd, by have := r.dp; show A.depth + 1 + n + 3 * k + 5 < _; omega, by have := r.un; show A.units + 3 + 3 * n + 16 * k + 200 < _; omega⟩
theorem RoomD.room {n k : Nat} {A : Around} (r : RoomD n k A) : Room k A := ⟨r.hd, by have := r.dp; omega, by have := r.un; omega⟩
structure FnD (P : Program) (w : World) (K : PySem.W.Frag) (mg : Str → Option Value) (base : Heap) (CX : CXT) (n k : Nat) (f : Addr) (fd : FuncData) (ps : List Str) (sp : Sp) : Prop where
  len : ∀ vs H Q E, sp vs H Q E → vs.length = ps.length
  run : ∀ (A : Around) (outer : List Env) (s : Shared) (H : Hp) (args : Args) (us : List Value) (vs : List V) (Q : VK) (E : XK), RoomD n k A → Env0 P w K mg base A outer s H → BindsTo s fd args (ps.zip us) → Vals vs us → sp vs H Q E →
    codeAny (model P w) A (.call (.ref f) args) (CR CX outer P w H s Q E) s
section
variable {X : Cx} {CX : CXT} {n k : Nat} {f : Addr} {fd : FuncData} {ps : List Str} {sp : Sp} {ds : List Value} {dvs : List V} {E : XK} {x : Str} {e : Expr} {es : List Expr} {t : TA} {p pos : Pos}
theorem pe_callD (F : FnD X.prog X.w X.K X.mg X.base CX n k f fd ps sp) (hr : RoomD n k X.A) (hg : Gl X x) (hm : X.mg x = some (.ref f)) (hk : PySem.W.keepIn X.K (.ref f) = true) (hb : Binds X.K fd ps ds) (hd : Vals dvs ds) (hx : Passes CX X E)
    (ha : PA X (e :: es) t) (hdb : (x == ("__debug__" : Str)) = false := by decide) (he : starEach (e :: es) X.env = (false, eval e X.env) :: starEach es X.env := by rfl) (hpl : (backTo pos (starEach es X.env)).any (·.1) = false := by rfl) :
    PE X (.Call (.Name x p) (e :: es) [] pos) (tCall sp dvs E t) := by
  refine ⟨fun pins s σ H Q I h => wpAny_Call_Name_kw (ld_glob I hg hm ?_ hdb)⟩
  refine PySem.W.callWith_K (h₀ := X.base) I.ok.mod.kin hk (thn (ha.run pos pins s σ H _ I h) fun us s1 ⟨vs, H1, J, r, q⟩ => ⟨J.kIn, ?_⟩) he hpl
  have rr : Vals (vs ++ dvs) (us ++ ds) := r.append hd
  have bound := hb s1 us J.kIn (rr.length.symm.trans (F.len _ _ _ _ q))
  refine wpAny_call (codeAny_mono (F.run X.A X.stack s1 H1 ⟨us, []⟩ (us ++ ds) (vs ++ dvs) Q E hr J.env0 bound rr q) fun res s' z => ?_)
  cases res with
  | error er => exact hx pins σ H1 s1 er s' J z
  | ok fl =>
    cases fl with
    | ret u => exact J.after z
    | next => exact False.elim z
    | brk => exact False.elim z
    | cont => exact False.elim z
end
section
variable {P : Program} {w : World} {K : PySem.W.Frag} {mg : Str → Option Value} {base : Heap}
/-- a def by its body, no repr under way -/
theorem okD {x qual : Str} {st : Stmt} {f : Addr} {fd : FuncData} {N ps : List Str} {n k : Nat} {sp : Sp} (F : Fun K x qual st f fd) (S : FnScope N ps (defScope st)) (len : ∀ vs H Q E, sp vs H Q E → vs.length = ps.length)
    (hbody : ∀ (cdv : Value) (A : Around) (outer : List Env) (s : Shared) (H : Hp) (vs : List V) (Q : VK) (E : XK), RoomD n k (A.deeper (envOfC qual (defScope st) s.heap.objs.size f cdv)) → sp vs H Q E →
      ∃ t, PSs (cxOf CX0 P w K mg base N qual (defScope st) f cdv A outer s H E).nox (defBody st) t ∧ t { nx := fun _ H' => Q .non H', rt := Q } (start N vs) H) : FnD P w K mg base CX0 (n + 1) k f fd ps sp := by
  obtain ⟨oc, od, kV, doc, pm, an, cdv, ct, osl, rfl, lk, hcd⟩ := F.ex
  refine ⟨len, fun A outer s H args us vs Q E room e0 bound r pre => ?_⟩
  have many := len _ _ _ _ pre
  have KX : K.In s.heap := e0.mod.kin.keeps fun b o z => (e0.bs b o z).1
  have lim : s.heap.NoLimit := e0.mod.nolimit.keeps fun b o z => (e0.bs b o z).1
  have kinds : ∀ y ∈ ps.zip us, (defScope st).names.lookup y.1 = some .local ∨ ((defScope st).names.lookup y.1 = some .cell ∧ ((cellsFrom (s.heap.objs.size + 1) (defScope st).names []).lookup y.1).isSome = true) := fun y hy => by
    have mem : y.1 ∈ ps := (List.of_mem_zip (show (y.1, y.2) ∈ ps.zip us from hy)).1
    rcases S.par y.1 mem with z | z
    · exact .inl z
    · exact .inr ⟨z, PySem.W.cellsFrom_some _ _ _ (.inl z)⟩
  refine codeAny_call_function room.room.depth (KX _ _ lk) rfl S.co S.gen rfl (PySem.W.codeRec_of KX hcd) (bound _ _ _ _ ?_)
  refine wpAny_newFunctionEnv_cells S.kind kinds fun env henv s1 inside => ?_
  subst henv
  refine ⟨lim.keeps inside.toInCall.keep, codeAny_func ?_⟩
  obtain ⟨t, ht0, go⟩ := hbody cdv A outer s H vs Q E (room.deeper _) pre
  have ht := ht0.nox
  have I : Inv (cxOf CX0 P w K mg base N qual (defScope st) f cdv A outer s H E) [] (start N vs) H s1 := inv_start S room.hd e0 many r inside
  refine wpAny_mono (ht.run [] s1 (start N vs) H _ I go) (fun fl s' z => ?_) fun _ _ z => z
  have back : ∀ {σ' : L2.St} {H' : Hp} {v : V} {u : Value}, Inv (cxOf CX0 P w K mg base N qual (defScope st) f cdv A outer s H E) [] σ' H' s' → RelV v u → Q v H' → CE outer P w H s Q u s' := fun {σ' H' v u} J rv q => ⟨v, H', J.os, J.bare, J.base, J.hok, rv, q⟩
  cases fl with
  | ret u =>
    obtain ⟨v, σ', H', J, rv, q⟩ := z
    exact back J rv q
  | next =>
    obtain ⟨σ', H', J, q⟩ := z
    exact back (v := V.non) (u := Value.none) J rfl q
  | brk => exact False.elim z.choose_spec.choose_spec.2
  | cont => exact False.elim z.choose_spec.choose_spec.2
end

structure FnDG (P : Program) (w : World) (K : PySem.W.Frag) (mg : Str → Option Value) (base : Heap) (CX : CXT) (n k : Nat) (f : Addr) (fd : FuncData) (ps : List Str) (sp : Sp) : Prop where
  len : ∀ vs H Q E, sp vs H Q E → vs.length = ps.length
  run : ∀ (A : Around), A.guards = some [] → ∀ (outer : List Env) (s : Shared) (H : Hp) (args : Args) (us : List Value) (vs : List V) (Q : VK) (E : XK), RoomD n k A → Env0 P w K mg base A outer s H → BindsTo s fd args (ps.zip us) → Vals vs us → sp vs H Q E →
    codeAny (model P w) A (.call (.ref f) args) (CR CX outer P w H s Q E) s
section
variable {X : Cx} {CX : CXT} {n k : Nat} {f : Addr} {fd : FuncData} {ps : List Str} {sp : Sp} {ds : List Value} {dvs : List V} {E : XK} {x : Str} {e : Expr} {es : List Expr} {t : TA} {p pos : Pos}
theorem pe_callDG (F : FnDG X.prog X.w X.K X.mg X.base CX n k f fd ps sp) (hG : X.A.guards = some []) (hr : RoomD n k X.A) (hg : Gl X x) (hm : X.mg x = some (.ref f)) (hk : PySem.W.keepIn X.K (.ref f) = true) (hb : Binds X.K fd ps ds) (hd : Vals dvs ds) (hx : Passes CX X E)
    (ha : PA X (e :: es) t) (hdb : (x == ("__debug__" : Str)) = false := by decide) (he : starEach (e :: es) X.env = (false, eval e X.env) :: starEach es X.env := by rfl) (hpl : (backTo pos (starEach es X.env)).any (·.1) = false := by rfl) :
    PE X (.Call (.Name x p) (e :: es) [] pos) (tCall sp dvs E t) := by
  refine ⟨fun pins s σ H Q I h => wpAny_Call_Name_kw (ld_glob I hg hm ?_ hdb)⟩
  refine PySem.W.callWith_K (h₀ := X.base) I.ok.mod.kin hk (thn (ha.run pos pins s σ H _ I h) fun us s1 ⟨vs, H1, J, r, q⟩ => ⟨J.kIn, ?_⟩) he hpl
  have rr : Vals (vs ++ dvs) (us ++ ds) := r.append hd
  have bound := hb s1 us J.kIn (rr.length.symm.trans (F.len _ _ _ _ q))
  refine wpAny_call (codeAny_mono (F.run X.A hG X.stack s1 H1 ⟨us, []⟩ (us ++ ds) (vs ++ dvs) Q E hr J.env0 bound rr q) fun res s' z => ?_)
  cases res with
  | error er => exact hx pins σ H1 s1 er s' J z
  | ok fl =>
    cases fl with
    | ret u => exact J.after z
    | next => exact False.elim z
    | brk => exact False.elim z
    | cont => exact False.elim z
end
section
variable {P : Program} {w : World} {K : PySem.W.Frag} {mg : Str → Option Value} {base : Heap}
/-- a def by its body, no repr under way -/
theorem okDG {x qual : Str} {st : Stmt} {f : Addr} {fd : FuncData} {N ps : List Str} {n k : Nat} {sp : Sp} (F : Fun K x qual st f fd) (S : FnScope N ps (defScope st)) (len : ∀ vs H Q E, sp vs H Q E → vs.length = ps.length)
    (hbody : ∀ (cdv : Value) (A : Around) (outer : List Env) (s : Shared) (H : Hp) (vs : List V) (Q : VK) (E : XK), (A.deeper (envOfC qual (defScope st) s.heap.objs.size f cdv)).guards = some [] → RoomD n k (A.deeper (envOfC qual (defScope st) s.heap.objs.size f cdv)) → sp vs H Q E →
      ∃ t, PSs (cxOf CX0 P w K mg base N qual (defScope st) f cdv A outer s H E).nox (defBody st) t ∧ t { nx := fun _ H' => Q .non H', rt := Q } (start N vs) H) : FnDG P w K mg base CX0 (n + 1) k f fd ps sp := by
  obtain ⟨oc, od, kV, doc, pm, an, cdv, ct, osl, rfl, lk, hcd⟩ := F.ex
  refine ⟨len, fun A hG outer s H args us vs Q E room e0 bound r pre => ?_⟩
  have many := len _ _ _ _ pre
  have KX : K.In s.heap := e0.mod.kin.keeps fun b o z => (e0.bs b o z).1
  have lim : s.heap.NoLimit := e0.mod.nolimit.keeps fun b o z => (e0.bs b o z).1
  have kinds : ∀ y ∈ ps.zip us, (defScope st).names.lookup y.1 = some .local ∨ ((defScope st).names.lookup y.1 = some .cell ∧ ((cellsFrom (s.heap.objs.size + 1) (defScope st).names []).lookup y.1).isSome = true) := fun y hy => by
    have mem : y.1 ∈ ps := (List.of_mem_zip (show (y.1, y.2) ∈ ps.zip us from hy)).1
    rcases S.par y.1 mem with z | z
    · exact .inl z
    · exact .inr ⟨z, PySem.W.cellsFrom_some _ _ _ (.inl z)⟩
  refine codeAny_call_function room.room.depth (KX _ _ lk) rfl S.co S.gen rfl (PySem.W.codeRec_of KX hcd) (bound _ _ _ _ ?_)
  refine wpAny_newFunctionEnv_cells S.kind kinds fun env henv s1 inside => ?_
  subst henv
  refine ⟨lim.keeps inside.toInCall.keep, codeAny_func ?_⟩
  obtain ⟨t, ht0, go⟩ := hbody cdv A outer s H vs Q E hG (room.deeper _) pre
  have ht := ht0.nox
  have I : Inv (cxOf CX0 P w K mg base N qual (defScope st) f cdv A outer s H E) [] (start N vs) H s1 := inv_start S room.hd e0 many r inside
  refine wpAny_mono (ht.run [] s1 (start N vs) H _ I go) (fun fl s' z => ?_) fun _ _ z => z
  have back : ∀ {σ' : L2.St} {H' : Hp} {v : V} {u : Value}, Inv (cxOf CX0 P w K mg base N qual (defScope st) f cdv A outer s H E) [] σ' H' s' → RelV v u → Q v H' → CE outer P w H s Q u s' := fun {σ' H' v u} J rv q => ⟨v, H', J.os, J.bare, J.base, J.hok, rv, q⟩
  cases fl with
  | ret u =>
    obtain ⟨v, σ', H', J, rv, q⟩ := z
    exact back J rv q
  | next =>
    obtain ⟨σ', H', J, q⟩ := z
    exact back (v := V.non) (u := Value.none) J rfl q
  | brk => exact False.elim z.choose_spec.choose_spec.2
  | cont => exact False.elim z.choose_spec.choose_spec.2
end

/-! ### the law's own def -/
section
variable {P : Program} {w : World} {K : PySem.W.Frag} {mg mb : Str → Option Value} {CX : CXT} {m k : Nat} {fa a : Addr} {fd : FuncData} {x : Str} {sp : Sp} {t : Shared} {us : List Value} {ns : List Int}
/-- what the call leaves -/
abbrev FineD (t : Shared) : Result → Shared → Prop := fun r t' => r = .ok (.ret (.bool true)) ∧ OldK t.heap t'.heap ∧ t'.os = t.os ∧ AllBare t'.gens
theorem lawHD (inK : K.In t.heap) (nsM : t.heap.Ns mainGlobals mg) (nsB : t.heap.Ns builtinsNs mb) (bb : ∀ y : Str, y ≠ "__name__" → mb y = bootBuiltins y) (nl : t.heap.NoLimit) (ng : t.gens = #[])
    (at_a : t.heap.get? a = some { cls := .type "list", data := .seq us.toArray }) (room : RoomD m k callerA) (F : ∀ base : Heap, K.In base → base.Ns mainGlobals mg → FnDG P w K mg base CX m k fa fd [x] sp)
    (bind1 : ∀ (s : Shared) (u : Value), BindsTo s fd ⟨[u], []⟩ [(x, u)]) (noX : ∀ H e s', CX [] H t (fun _ _ _ => False) e s' → False)
    {H : Hp} (only : Only H) (pre : sp [.ref a] H (fun v _ => v = .bl true) fun _ _ _ => False) (hok : HOk P w H t.heap) (onA : ∀ b, H b ≠ none → b = a) (offK : H a ≠ none → K.lookup a = none) :
    codeAny (model P w) callerA (.call (.ref fa) ⟨[.ref a], []⟩) (FineD t) t := by
  have sees : ∀ {b : Addr} {o : Obj}, t.heap.get? b = some o → H b = none → (hidT t.heap H).get? b = some o := fun z n => hidT_get z n
  have untr : ∀ {b : Addr}, b ≠ a → H b = none := fun {b} nb => by
    cases q : H b with
    | none => rfl
    | some u => exact absurd (onA b (by rw [q]; simp)) nb
  have dictNs : ∀ {b : Addr} {m : Str → Option Value}, t.heap.Ns b m → (hidT t.heap H).Ns b m := fun {b m} ⟨o, es, ep, g, d, r⟩ => by
    refine ⟨o, es, ep, sees g (untr fun z => ?_), d, r⟩
    subst z
    rw [at_a] at g
    cases g
    exact nomatch (show Data.seq us.toArray _ = Data.dict es ep from d)
  have inB : K.In (hidT t.heap H) := fun b o z => by
    refine sees (inK b o z) ?_
    cases q : H b with
    | none => rfl
    | some u =>
      have nn : H b ≠ none := by rw [q]; simp
      have eb := onA b nn
      subst eb
      rw [offK nn] at z
      cases z
  obtain ⟨mc, l1, l2⟩ := nl
  have md : Mod K mg (hidT t.heap H) := ⟨inB, dictNs nsM, ⟨mb, dictNs nsB, bb⟩, ⟨mc, dictNs l1, l2⟩⟩
  have e0 : Env0 P w K mg (hidT t.heap H) callerA [] t H := ⟨rfl, md, fun b o z => of_hidT z, Nat.le_of_eq (hidT_size _ _), trivial, fun b z => (by cases z), hok, .of_eq ng⟩
  refine codeAny_mono ((F _ inB (dictNs nsM)).run callerA rfl [] t H ⟨[.ref a], []⟩ [.ref a] [.ref a] _ _ room e0 (bind1 t (.ref a)) (.cons rfl .nil) pre) fun r t' z => ?_
  cases r with
  | error e => exact (noX H e t' z).elim
  | ok fl =>
    cases fl with
    | next => exact False.elim z
    | brk => exact False.elim z
    | cont => exact False.elim z
    | ret u =>
      obtain ⟨v, H', os, bare, un, hok', rv, ev⟩ := z
      cases (show v = .bl true from ev)
      cases (show u = Value.bool true from rv)
      refine ⟨rfl, OldK.of_keep fun b o g => ?_, os, bare⟩
      rcases only b with n | ⟨ob, xs, z⟩
      · exact un.keep b o g n (fun q => by cases q) (fun q => by cases q)
      · have g1 := (hok b _ z).1
        have g2 := (hok' b _ (un.frzs b ob _ z)).1
        rw [g] at g1
        cases g1
        exact g2
theorem lawGD (inK : K.In t.heap) (nsM : t.heap.Ns mainGlobals mg) (nsB : t.heap.Ns builtinsNs mb) (bb : ∀ y : Str, y ≠ "__name__" → mb y = bootBuiltins y) (nl : t.heap.NoLimit) (ng : t.gens = #[])
    (at_a : t.heap.get? a = some { cls := .type "list", data := .seq us.toArray }) (areInts : IntsAre us ns) (hz : ns.length ≤ sizeLine) (room : RoomD m k callerA) (F : ∀ base : Heap, K.In base → base.Ns mainGlobals mg → FnDG P w K mg base CX m k fa fd [x] sp)
    (bind1 : ∀ (s : Shared) (u : Value), BindsTo s fd ⟨[u], []⟩ [(x, u)]) (noX : ∀ H e s', CX [] H t (fun _ _ _ => False) e s' → False)
    (pre : ∀ H : Hp, Only H → SqL K H a (ns.map V.int) → sp [.ref a] H (fun v _ => v = .bl true) fun _ _ _ => False) : codeAny (model P w) callerA (.call (.ref fa) ⟨[.ref a], []⟩) (FineD t) t := by
  have rv := vals_ints areInts
  have many := areInts.length
  cases own : K.lookup a with
  | some o =>
    have g := inK a o own
    rw [at_a] at g
    cases g
    have none0 : Only fun _ => none := fun _ => .inl rfl
    exact lawHD inK nsM nsB bb nl ng at_a room F bind1 noX none0 (pre _ none0 (.inr ⟨_, us.toArray, _, own, rfl, rfl, rfl, by rw [List.size_toArray, many]; exact hz, by simpa using rv⟩)) (fun b u z => nomatch (show (none : Option HO) = some u from z)) (fun b z => absurd rfl z) fun z => absurd rfl z
  | none =>
    let H1 : Hp := fun b => if b = a then some (.frz { cls := .type "list", data := .seq us.toArray } (.lst (ns.map V.int))) else none
    have yes : H1 a = some (.frz { cls := .type "list", data := .seq us.toArray } (.lst (ns.map V.int))) := if_pos rfl
    have no : ∀ {b : Addr}, b ≠ a → H1 b = none := fun nb => if_neg nb
    have one : Only H1 := fun b => by
      by_cases e : b = a
      · exact .inr ⟨_, _, by rw [e]; exact yes⟩
      · exact .inl (no e)
    refine lawHD inK nsM nsB bb nl ng at_a room F bind1 noX one (pre _ one (.inl (.inr ⟨_, yes⟩))) (fun b u z => ?_) (fun b z => ?_) fun _ => own
    · by_cases e : b = a
      · subst e
        rw [yes] at z
        cases z
        exact ⟨at_a, by rw [List.length_map]; exact hz, us, _, rv, at_a⟩
      · rw [no e] at z
        cases z
    · exact Decidable.byContradiction fun e => z (no e)
end
theorem walkGD {l : PySem.W.OpenLaw} {n m k : Nat} {q : Program} {loose : List Str} {XP : (Str → Option Value) → Heap → Prop} {YP : World → Heap → Prop} {d : DefRec} {K : Params → PySem.W.Frag} {sp : World → Sp} {x : Str}
    (hn : l.most = some n) (hz : n ≤ sizeLine) (hdf : d.params.defaults = []) (room : RoomD m k callerA) (hY : ∀ (w : World) (h : Heap), YP w h → (K w.params).In h)
    (F : ∀ (w : World) (mg : Str → Option Value) (fa : Addr) (h : Heap), (K w.params).In h → h.Ns mainGlobals mg → mg d.name = some (.ref fa) →
      ∃ fd : FuncData, (∀ (s : Shared) (u : Value), BindsTo s fd ⟨[u], []⟩ [(x, u)]) ∧ ∀ base : Heap, (K w.params).In base → base.Ns mainGlobals mg → FnDG l.prog w (K w.params) mg base CX0 m k fa fd [x] (sp w))
    (pre : ∀ (w : World) (H : Hp) (a : Addr) (ns : List Int), ns.length ≤ n → Only H → SqL (K w.params) H a (ns.map V.int) → sp w [.ref a] H (fun v _ => v = .bl true) fun _ _ _ => False) :
    PySem.W.WalkO q loose XP YP l.row.toRowW d [] (fun f vs => PySem.call f vs) := by
  refine Att.attach_call hn hdf fun w t0 t mg mb fa o pm cd doc a us ns G Y ho hd hcd hmg at_a areInts many ng => ?_
  obtain ⟨fd, hb, hF⟩ := F w mg fa _ (hY w _ Y) G.T.g hmg
  exact lawGD (hY w _ Y) G.T.g G.T.b G.T.builtins G.T.nolimit ng at_a areInts (Nat.le_trans many hz) room hF hb (fun _ _ _ z => z) fun H h1 h2 => pre w H a ns many h1 h2
end TY

set_option Elab.async false
set_option linter.all false
set_option maxRecDepth 100000
set_option maxHeartbeats 4000000
/-! TZ: two lists of the same plain values. -/
namespace TZ
open PySem PySem.Spec PyProof.Rows L2
theorem valsAt : ∀ {xs : List V} {us ws : List Value}, Vals xs us → Vals xs ws → (∀ z ∈ xs, flatB z = true) → ∀ (A : Around) (s : Shared) (j : Nat) (h1 : j < us.length) (h2 : j < ws.length), SeqAt.EqAt A s us[j] ws[j] true
  | _, _, _, .nil, .nil, _, _, _, j, h1, _ => absurd h1 (Nat.not_lt_zero j)
  | _, _, _, .cons r1 t1, .cons r2 t2, hf, A, s, 0, _, _ => eqAt_same r1 r2 (hf _ (List.mem_cons_self ..))
  | _, _, _, .cons r1 t1, .cons r2 t2, hf, A, s, j + 1, h1, h2 => valsAt t1 t2 (fun z hz => hf z (List.mem_cons_of_mem _ hz)) A s j (by simpa using h1) (by simpa using h2)
section
variable {X : Cx}
def rNeV (K : PySem.W.Frag) : R2 := fun x y H Q => ∃ a b xs, x = .ref a ∧ y = .ref b ∧ SqL K H a xs ∧ SqL K H b xs ∧ (∀ z ∈ xs, flatB z = true) ∧ Q (.bl false) H
theorem op_neV (hu : X.A.units + 64 < cLine) : OpR X (compareOp .NotEq) (rNeV X.K) := by
  intro pins s σ H x y v u Q I rx ry h
  obtain ⟨a, b, xs, rfl, rfl, ha, hb, hf, q⟩ := h
  cases (show v = Value.ref a from rx)
  cases (show u = Value.ref b from ry)
  obtain ⟨us, r1, p1, _⟩ := I.list ha
  obtain ⟨ws, r2, p2, _⟩ := I.list hb
  have hsz : us.toArray.size = ws.toArray.size := by
    rw [List.size_toArray, List.size_toArray, ← r1.length, ← r2.length]
  have he : ∀ j (h1 : j < us.toArray.size) (h2 : j < ws.toArray.size), SeqAt.EqAt X.A.in1 s us.toArray[j] ws.toArray[j] ((fun _ => true) j) := fun j h1 h2 => by
    have k := valsAt r1 r2 hf X.A.in1 s j (by simpa using h1) (by simpa using h2)
    simpa using k
  refine SeqAt.RcNeAt.lists (e := fun _ => true) p1.isList p2.isList hsz (by omega) he _ _ _ _ ?_
  rw [show (!(List.range us.toArray.size).all fun _ => true) = false from by rw [show ((List.range us.toArray.size).all fun _ => true) = true from List.all_eq_true.mpr fun _ _ => rfl]; rfl]
  exact ⟨.bl false, H, I, rfl, q⟩
end
end TZ

set_option Elab.async false
set_option linter.all false
set_option maxRecDepth 100000
set_option maxHeartbeats 4000000
/-! TO: texts put in order, however many there are; there is one such list. -/
namespace TO
open PySem PySem.Spec PyProof.Rows L2
def rSrtA (K : PySem.W.Frag) : List V → Hp → VK → Prop := fun vs H Q => ∃ (a : Addr) (xs : List Str), vs = [V.ref a] ∧ SqL K H a (xs.map V.str) ∧
  ∀ (ys : List Str) (p : Addr), ys.Perm xs ∧ sortedS ys = true → H p = none → Q (.ref p) (upd H p (.lst (ys.map V.str)))
section
variable {X : Cx}
theorem cr_srtA : CallR X (.builtin "sorted") (rSrtA X.K) := by
  intro pins s σ H vs us Q I r h
  obtain ⟨a, xs, e, hs, q⟩ := h
  subst e
  obtain ⟨its, rv, hl, hz⟩ := I.list hs
  rw [Vals.ref1 r]
  have n1 : its.length ≤ sizeLine := by rw [← rv.length]; exact hz
  refine PyProof.Rows.sorted_strsAny hl.isList rv.strs n1 fun out ys h1 h2 h3 => ?_
  obtain ⟨ep, at_⟩ := PyProof.Rows.sortedAll_at s.heap its out
  have n2 : (ys.map V.str).length ≤ sizeLine := by
    rw [List.length_map, h2.length_eq]
    rw [List.length_map] at hz
    exact hz
  have J := I.laid (t' := s.toks) (o := .lst (ys.map V.str)) (fun _ _ => PyProof.Rows.sortedAll_old) (Nat.le_succ _) ⟨n2, out.toList, ep, vals_of_strs h1, at_⟩
  exact ⟨.ref _, _, J, rfl, q ys _ ⟨h2, h3⟩ (I.hok.fresh (Nat.le_succ _))⟩
end
/-! ### the order of texts -/
theorem lt_irr : ∀ a : List Nat, ltCps a a = false
  | [] => rfl
  | x :: a => by simp [ltCps, lt_irr a]
theorem lt_tri : ∀ a b : List Nat, ltCps a b = false → ltCps b a = false → a = b
  | [], [], _, _ => rfl
  | [], _ :: _, h, _ => by simp [ltCps] at h
  | _ :: _, [], _, h => by simp [ltCps] at h
  | x :: a, y :: b, h, g => by
    simp only [ltCps, Bool.or_eq_false_iff, Bool.and_eq_false_iff, decide_eq_false_iff_not, beq_eq_false_iff_ne] at h g
    have e : x = y := by omega
    subst e
    rw [lt_tri a b (by rcases h.2 with z | z; exact absurd rfl z; exact z) (by rcases g.2 with z | z; exact absurd rfl z; exact z)]
/-- not after -/
theorem nl_trans : ∀ a b c : List Nat, ltCps b a = false → ltCps c b = false → ltCps c a = false
  | [], _, [], _, _ => rfl
  | [], _, _ :: _, _, _ => rfl
  | _ :: _, [], _, h, _ => by simp [ltCps] at h
  | x :: a, y :: b, [], _, g => by simp [ltCps] at g
  | x :: a, y :: b, z :: c, h, g => by
    simp only [ltCps, Bool.or_eq_false_iff, Bool.and_eq_false_iff, decide_eq_false_iff_not, beq_eq_false_iff_ne] at h g ⊢
    refine ⟨by omega, ?_⟩
    by_cases e : z = x
    · have e1 : y = x := by omega
      have e2 : z = y := by omega
      exact .inr (nl_trans a b c (by rcases h.2 with q | q; exact absurd e1 q; exact q) (by rcases g.2 with q | q; exact absurd e2 q; exact q))
    · exact .inl e
theorem up_all : ∀ (l : List Str) (p : Str), risingS p l = true → ∀ x ∈ l, ltCps x.cps.toList p.cps.toList = false
  | [], _, _, _, h => nomatch h
  | y :: l, p, h, x, hx => by
    simp only [risingS, Bool.and_eq_true, Bool.not_eq_true'] at h
    rcases List.mem_cons.mp hx with rfl | hx
    · exact h.1
    · exact nl_trans _ _ _ h.1 (up_all l y h.2 x hx)
theorem up_tail {x : Str} {l : List Str} (h : sortedS (x :: l) = true) : sortedS l = true := by
  cases l with
  | nil => rfl
  | cons y l =>
    have h : risingS x (y :: l) = true := h
    simp only [risingS, Bool.and_eq_true] at h
    exact h.2
/-- texts in order: one list -/
theorem one_list : ∀ {xs ys : List Str}, xs.Perm ys → sortedS xs = true → sortedS ys = true → xs = ys
  | [], ys, h, _, _ => (List.Perm.eq_nil h.symm).symm
  | x :: xs, [], h, _, _ => absurd h.length_eq (by simp)
  | x :: xs, y :: ys, h, hx, hy => by
    have e : x = y := by
      by_cases e : x = y
      · exact e
      · have m1 : x ∈ ys := by
          rcases List.mem_cons.mp (h.mem_iff.mp (List.mem_cons_self (a := x) (l := xs))) with z | z
          · exact absurd z e
          · exact z
        have m2 : y ∈ xs := by
          rcases List.mem_cons.mp (h.mem_iff.mpr (List.mem_cons_self (a := y) (l := ys))) with z | z
          · exact absurd z.symm e
          · exact z
        have a1 := up_all ys y hy x m1
        have a2 := up_all xs x hx y m2
        have := lt_tri _ _ a1 a2
        cases x; cases y
        simp only [Str.mk.injEq] at *
        exact absurd (Array.toList_inj.mp this) e
    subst e
    rw [one_list (List.Perm.cons_inv h) (up_tail hx) (up_tail hy)]
end TO

set_option Elab.async false
set_option linter.all false
set_option maxRecDepth 100000
set_option maxHeartbeats 4000000
/-! TD: dicts of the module from texts to texts; text * 0 or 1. -/
namespace TD
open PySem PySem.Spec PyProof.Rows L2
/-- at d stands, for good, a dict from texts to texts -/
structure KD (K : PySem.W.Frag) (w : World) (d : Addr) (kvs : List (Str × Str)) : Prop where
  ex : ∃ es n, KDict K w d es n
  get : ∀ z, ∃ r, PySem.W.nsIn K d z = some r ∧ ((∃ y t, kvs.lookup z = some y ∧ r = some (.str y t)) ∨ (kvs.lookup z = none ∧ r = none))
def rInKD (d : Addr) (kvs : List (Str × Str)) : R2 := fun x y H Q => ∃ z, x = .str z ∧ y = .ref d ∧ Q (.bl (kvs.lookup z).isSome) H
def rNiKD (d : Addr) (kvs : List (Str × Str)) : R2 := fun x y H Q => ∃ z, x = .str z ∧ y = .ref d ∧ Q (.bl (!(kvs.lookup z).isSome)) H
def rIxKD (d : Addr) (kvs : List (Str × Str)) : R2 := fun x y H Q => ∃ z u, x = .ref d ∧ y = .str z ∧ kvs.lookup z = some u ∧ Q (.str u) H
section
variable {X : Cx} {d : Addr} {kvs : List (Str × Str)}
theorem op_inKD (D : KD X.K X.w d kvs) : OpR X (compareOp .In) (rInKD d kvs) := by
  obtain ⟨es, n, kd⟩ := D.ex
  intro pins s σ H x y v u Q I rx ry h
  obtain ⟨z, e1, e2, q⟩ := h
  obtain ⟨r, hr, hc⟩ := D.get z
  refine op_in_kd kd pins s σ H x y v u Q I rx ry ⟨z, r, e1, e2, hr, ?_⟩
  rcases hc with ⟨y, t, l, rfl⟩ | ⟨l, rfl⟩
  · rw [l] at q; exact q
  · rw [l] at q; exact q
theorem op_niKD (D : KD X.K X.w d kvs) : OpR X (compareOp .NotIn) (rNiKD d kvs) := by
  obtain ⟨es, n, kd⟩ := D.ex
  intro pins s σ H x y v u Q I rx ry h
  obtain ⟨z, e1, e2, q⟩ := h
  obtain ⟨r, hr, hc⟩ := D.get z
  refine op_notIn_kd kd pins s σ H x y v u Q I rx ry ⟨z, r, e1, e2, hr, ?_⟩
  rcases hc with ⟨y, t, l, rfl⟩ | ⟨l, rfl⟩
  · rw [l] at q; exact q
  · rw [l] at q; exact q
theorem ix_KD (D : KD X.K X.w d kvs) : IxR X (rIxKD d kvs) := by
  obtain ⟨es, n, kd⟩ := D.ex
  intro value slice pins s σ H x y v u Q I rx ry h hs
  obtain ⟨z, u0, e1, e2, l, q⟩ := h
  obtain ⟨r, hr, hc⟩ := D.get z
  rcases hc with ⟨y', t, l', rfl⟩ | ⟨l', rfl⟩
  · rw [l] at l'
    cases l'
    exact ix_kdict value slice pins s σ H x y v u Q I rx ry ⟨d, z, .str u0, e1, e2, ⟨es, n, _, kd.at_, kd.lit, hr, t, rfl⟩, q⟩ hs
  · rw [l] at l'; cases l'
end
/-- how such a dict is found among what the top leaves -/
theorem kd_mk2 {K : PySem.W.Frag} {w : World} {d : Addr} {n : Nat} {h1 h2 : Int} {a b c e : Str} {t1 t2 t3 t4 : Tok} (l : K.lookup d = some ⟨.type "dict", none, .dict #[⟨h1, .str a t1, .str b t2⟩, ⟨h2, .str c t3, .str e t4⟩] n, #[]⟩)
    (e1 : h1 = PyData.keyHash w.params a) (e2 : h2 = PyData.keyHash w.params c) (low : (d == sysModules) = false) : KD K w d [(a, b), (c, e)] := by
  refine ⟨⟨_, _, l, ⟨⟨a, t1, rfl, e1⟩, ⟨c, t3, rfl, e2⟩, trivial⟩, low⟩, fun z => ?_⟩
  unfold PySem.W.nsIn
  rw [l]
  simp only [List.find?, Value.isStr]
  by_cases ha : a = z
  · subst ha
    refine ⟨_, by simp, .inl ⟨b, t2, ?_, rfl⟩⟩
    simp [List.lookup]
  · have ha' : (a == z) = false := by simpa using ha
    have ha2 : (z == a) = false := by simpa using fun q : z = a => ha q.symm
    by_cases hc : c = z
    · subst hc
      refine ⟨_, by simp [ha'], .inl ⟨e, t4, ?_, rfl⟩⟩
      simp [List.lookup, ha2]
    · have hc' : (c == z) = false := by simpa using hc
      have hc2 : (z == c) = false := by simpa using fun q : z = c => hc q.symm
      refine ⟨none, by simp [ha', hc', DictEntry.refKey], .inr ⟨?_, rfl⟩⟩
      simp [List.lookup, ha2, hc2]
/-- text * 0, text * 1 -/
def rRep01 : R2 := fun x y H Q => ∃ (z : Str) (n : Nat), x = .str z ∧ y = .int (n : Nat) ∧ n ≤ 1 ∧ z.length ≤ 100 ∧ Q (.str (if n = 1 then z else Str.empty)) H
theorem op_rep01 {X : Cx} : OpR X (binaryOp .Mult) rRep01 := by
  intro pins s σ H x y v u Q I rx ry h
  obtain ⟨z, n, rfl, rfl, h2, h3, q⟩ := h
  obtain ⟨t, rfl⟩ := rx
  obtain ⟨t', rfl⟩ := ry
  rcases (show n = 0 ∨ n = 1 by omega) with rfl | rfl
  · exact PySem.P.mul_str_none (by decide) (by decide) ⟨.str _, H, I.tok _, ⟨_, rfl⟩, q⟩
  · have e : (((1 : Nat) : Int) == 1 || z.length == 0) = true := rfl
    refine PySem.P.mul_str (by decide) (fun _ h => by rw [e] at h; cases h) (fun _ h => by rw [e] at h; cases h) ?_
    rw [if_neg (by decide), if_pos e]
    exact ⟨.str z, H, I, ⟨_, rfl⟩, q⟩
/-- what is never reached -/
theorem pss_dead {X : Cx} {b : List Stmt} : PSs X b (fun _ _ _ => False) := ⟨fun _ _ _ _ _ _ h => False.elim h⟩
/-- a comprehension over a text's signs -/
theorem lc_str {x : Str} {g : TG} {tt : TT} {te : TE} {vs : List Nat} {σ : L2.St} {H1 : Hp} {D : Addr} {Qd : Hp → Prop} (Pv : Nat → Hp → Prop) (h0 : Pv 0 (upd H1 D (.lst [])))
    (hs : ∀ i c H, x.cps[i]? = some c → Pv i H → g (.str ⟨#[c]⟩) (wipe σ vs) H fun σ2 H2 => wipe σ2 vs = wipe σ vs ∧ tt σ2 H2 fun b H3 =>
      if b = true then te σ2 H3 fun y H4 => ∃ acc, H4 D = some (.lst acc) ∧ acc.length < sizeLine ∧ Pv (i + 1) (upd H4 D (.lst (acc ++ [y]))) else Pv (i + 1) H3)
    (hd : ∀ H, Pv x.cps.size H → Qd H) :
    ∃ W : Nat → Nat → Hp → Prop, (∃ m, W 0 m (upd H1 D (.lst []))) ∧ ∀ i m H, W i m H →
      ((Its x).stop i H ∧ Qd H) ∨ ((Its x).go i H ∧ ∃ Nx : Hp → Prop, (∀ H', Nx H' → ∃ m', m' < m ∧ W (i + 1) m' H') ∧ ∀ y H', (Its x).yld i H y H' → g y (wipe σ vs) H' fun σ2 H2 => wipe σ2 vs = wipe σ vs ∧ tt σ2 H2 fun b H3 =>
        if b = true then te σ2 H3 fun y H4 => ∃ acc, H4 D = some (.lst acc) ∧ acc.length < sizeLine ∧ Nx (upd H4 D (.lst (acc ++ [y]))) else Nx H3) := by
  refine ⟨fun i m H => m = x.cps.size - i ∧ i ≤ x.cps.size ∧ Pv i H, ⟨x.cps.size, by simp, Nat.zero_le _, h0⟩, ?_⟩
  rintro i m H ⟨rfl, hi, p⟩
  by_cases hlt : i < x.cps.size
  · refine .inr ⟨hlt, Pv (i + 1), fun H' q => ⟨x.cps.size - (i + 1), by omega, rfl, hlt, q⟩, fun v H' y => ?_⟩
    obtain ⟨rfl, c, hc, rfl⟩ := y
    exact hs i c H' hc p
  · have : i = x.cps.size := by omega
    subst this
    exact .inl ⟨Nat.le_refl _, hd H p⟩
/-- any comprehension's loop over a list: what a turn does, by its item, its heap and what it is to reach -/
theorem lco_list {K : PySem.W.Frag} {a : Addr} {xs : List V} {H0 : Hp} {Qd : Hp → Prop} {B : V → Hp → (Hp → Prop) → Prop} (Pv : Nat → Hp → Prop) (h0 : Pv 0 H0) (hl : ∀ i H, i ≤ xs.length → Pv i H → SqL K H a xs)
    (hs : ∀ i x H, xs[i]? = some x → Pv i H → B x H (Pv (i + 1))) (hd : ∀ H, Pv xs.length H → Qd H) :
    ∃ W : Nat → Nat → Hp → Prop, (∃ m, W 0 m H0) ∧ ∀ i m H, W i m H →
      ((Itl K a).stop i H ∧ Qd H) ∨ ((Itl K a).go i H ∧ ∃ Nx : Hp → Prop, (∀ H', Nx H' → ∃ m', m' < m ∧ W (i + 1) m' H') ∧ ∀ x H', (Itl K a).yld i H x H' → B x H' Nx) := by
  refine ⟨fun i m H => m = xs.length - i ∧ i ≤ xs.length ∧ Pv i H, ⟨xs.length, by simp, Nat.zero_le _, h0⟩, ?_⟩
  rintro i m H ⟨rfl, hi, p⟩
  have q := hl i H hi p
  by_cases hlt : i < xs.length
  · refine .inr ⟨⟨xs, xs[i], q, by simp [hlt]⟩, Pv (i + 1), fun H' p' => ⟨xs.length - (i + 1), by omega, rfl, hlt, p'⟩, fun x H' y => ?_⟩
    obtain ⟨e, y⟩ := y
    subst e
    exact hs i x _ (y xs q) p
  · have e : i = xs.length := by omega
    subst e
    exact .inl ⟨⟨xs, q, Nat.le_refl _⟩, hd H p⟩
/-- the same over a tuple -/
theorem lco_tup {K : PySem.W.Frag} {a : Addr} {xs : List V} {H0 : Hp} {Qd : Hp → Prop} {B : V → Hp → (Hp → Prop) → Prop} (Pv : Nat → Hp → Prop) (h0 : Pv 0 H0) (hl : ∀ i H, i ≤ xs.length → Pv i H → SqT K H a xs)
    (hs : ∀ i x H, xs[i]? = some x → Pv i H → B x H (Pv (i + 1))) (hd : ∀ H, Pv xs.length H → Qd H) :
    ∃ W : Nat → Nat → Hp → Prop, (∃ m, W 0 m H0) ∧ ∀ i m H, W i m H →
      ((Itt K a).stop i H ∧ Qd H) ∨ ((Itt K a).go i H ∧ ∃ Nx : Hp → Prop, (∀ H', Nx H' → ∃ m', m' < m ∧ W (i + 1) m' H') ∧ ∀ x H', (Itt K a).yld i H x H' → B x H' Nx) := by
  refine ⟨fun i m H => m = xs.length - i ∧ i ≤ xs.length ∧ Pv i H, ⟨xs.length, by simp, Nat.zero_le _, h0⟩, ?_⟩
  rintro i m H ⟨rfl, hi, p⟩
  have q := hl i H hi p
  by_cases hlt : i < xs.length
  · refine .inr ⟨⟨xs, xs[i], q, by simp [hlt]⟩, Pv (i + 1), fun H' p' => ⟨xs.length - (i + 1), by omega, rfl, hlt, p'⟩, fun x H' y => ?_⟩
    obtain ⟨e, y⟩ := y
    subst e
    exact hs i x _ (y xs q) p
  · have e : i = xs.length := by omega
    subst e
    exact .inl ⟨⟨xs, q, Nat.le_refl _⟩, hd H p⟩
/-- a loop over enumerate(a list) -/
theorem for_enumL {K : PySem.W.Frag} {a : Addr} {xs : List V} {g : TG} {tb : TS} {D : Ends} {σ : L2.St} {H : Hp} (Pv : Nat → L2.St → Hp → Prop) (h0 : Pv 0 σ H) (hl : ∀ i σ H, Pv i σ H → SqL K H a xs)
    (hs : ∀ i x σ H T, xs[i]? = some x → Pv i σ H → H T = none → g (.ref T) σ (upd H T (.tup [.int (i : Nat), x])) fun σ2 H2 => tb { D with nx := Pv (i + 1), ct := Pv (i + 1), bk := D.nx } σ2 H2) (hd : ∀ σ H, Pv xs.length σ H → D.nx σ H) :
    ∃ W : Nat → Nat → L2.St → Hp → Prop, (∃ m, W 0 m σ H) ∧ ∀ i m σ H, W i m σ H →
      ((Ite K a).stop i H ∧ D.nx σ H) ∨ ((Ite K a).go i H ∧ ∃ N : L2.St → Hp → Prop, (∀ σ' H', N σ' H' → ∃ m', m' < m ∧ W (i + 1) m' σ' H') ∧ ∀ v H', (Ite K a).yld i H v H' → g v σ H' fun σ2 H2 => tb { D with nx := N, ct := N, bk := D.nx } σ2 H2) := by
  refine ⟨fun i m σ H => m = xs.length - i ∧ i ≤ xs.length ∧ Pv i σ H, ⟨xs.length, by simp, Nat.zero_le _, h0⟩, ?_⟩
  rintro i m σ H ⟨rfl, hi, p⟩
  have q := hl i σ H p
  by_cases hlt : i < xs.length
  · refine .inr ⟨⟨xs, xs[i], q, List.getElem?_eq_getElem hlt⟩, Pv (i + 1), fun σ' H' z => ⟨xs.length - (i + 1), by omega, rfl, hlt, z⟩, fun v H' y => ?_⟩
    obtain ⟨T, x, rfl, hT, rfl, hx⟩ := y
    exact hs i x σ H T (hx xs q) p hT
  · have : i = xs.length := by omega
    subst this
    exact .inl ⟨⟨xs, q, by omega⟩, hd σ H p⟩
end TD

set_option Elab.async false
set_option linter.all false
set_option maxRecDepth 100000
set_option maxHeartbeats 4000000
/-! TG: the set of a list of texts, and whether a text is in it. -/
namespace TG
open PySem PySem.Spec PyProof.Rows L2
theorem txt_get : ∀ {us : List Value} {zs : List Str}, StrsAre us zs → ∀ (i : Nat) (v : Value), us[i]? = some v → ∃ z t, zs[i]? = some z ∧ v = .str z t
  | _, _, .nil, i, v, h => by simp at h
  | _, _, .cons z t r, 0, v, h => ⟨z, t, rfl, by simpa using h.symm⟩
  | _, _, .cons z t r, i + 1, v, h => by
    obtain ⟨y, u, h1, h2⟩ := txt_get r i v (by simpa using h)
    exact ⟨y, u, by simpa using h1, h2⟩
/-- the first i texts are in -/
def In (P : Program) (w : World) (h : Heap) (D : Addr) (zs : List Str) (i : Nat) : Prop := ∃ n, n ≤ i ∧ h.SetOf (strKind P w) D (fun y => decide (y ∈ zs.take i)) n
theorem In.move {P : Program} {w : World} {h h' : Heap} {D : Addr} {zs : List Str} {i : Nat} (a : In P w h D zs i) (k : ∀ o, h.get? D = some o → h'.get? D = some o) : In P w h' D zs i := by
  obtain ⟨n, hn, o, es, ep, t, ho, r⟩ := a
  exact ⟨n, hn, o, es, ep, t, k o ho, r⟩
section
variable {P : Program} {w : World} {A : Around} {R : Result → Shared → Prop} {it : Addr} {fp wr : List Addr} {G : Array GenState → Array GenState → Prop} {n : Nat} {Pv : Nat → Value → Prop} {St : Nat → Shared → Prop}
theorem run_fill (W : WalksS P w A.in1 it fp wr G n Pv St) (D : Addr) (out : D ∉ fp) (zs : List Str) (few : n + 1 < scanBound) (told : ∀ i v, Pv i v → ∃ z t, zs[i]? = some z ∧ v = .str z t) :
    ∀ (left i : Nat) (s : Shared), n - i = left → i ≤ n → St i s → In P w s.heap D zs i → (∀ s2, Moved (D :: wr) G s s2 → In P w s2.heap D zs n → R (.ok (.ret .none)) s2) →
      codeAny (model P w) A (.builtin "set.update.loop" ⟨[.ref D, .ref it], []⟩) R s := by
  have outW : D ∉ wr := fun m => out (W.sub _ m)
  have wider : ∀ b ∈ wr, b ∈ D :: wr := fun b m => List.mem_cons_of_mem _ m
  intro left
  induction left with
  | zero =>
    intro i s e le st a go
    obtain rfl : i = n := by omega
    refine codeAny_builtin PyProof.Rows.F.entry_set_update_loop ?_
    rw [Around.under_plainId PyProof.Rows.F.plain_set_update_loop _]
    show wpAny _ A.in1 (pyNext (.ref it) >>= _) _ _ s
    refine wpAny_bind (W.done s _ _ st fun s2 mv => ?_)
    show wpAny _ A.in1 (ret Value.none) _ _ s2
    exact wpAny_pure (go s2 (mv.mono wider) (a.move fun o ho => mv.heap D _ outW ho))
  | succ left ih =>
    intro i s e le st a go
    have lt : i < n := by omega
    refine codeAny_builtin PyProof.Rows.F.entry_set_update_loop ?_
    rw [Around.under_plainId PyProof.Rows.F.plain_set_update_loop _]
    show wpAny _ A.in1 (pyNext (.ref it) >>= _) _ _ s
    refine wpAny_bind (W.item i s _ _ lt st fun v s2 pv st2 mv => ?_)
    obtain ⟨z, t, hz, rfl⟩ := told i v pv
    obtain ⟨k, hk, hS⟩ := a.move fun o ho => mv.heap D _ outW ho
    show wpAny _ A.in1 (holding [Value.str z t] (setAdd D (.str z t)) >>= _) _ _ s2
    refine wpAny_bind (wpAny_holding ?_)
    unfold setAdd
    refine wpAny_holding (wpAny_bind ((strKind P w).pyHash (k := z) (strKind_is _ _ _ _) ?_))
    refine wpAny_setAddHashed_of (knd := strKind P w) (s := { s2 with toks := s2.toks + 1 }) (strKind_is _ _ _ _) rfl hS (by omega) fun h2 but hS2 => ?_
    have a2 : In P w h2 D zs (i + 1) := by
      refine ⟨_, ?_, SetOf_congr hS2 (fun y => ?_) rfl⟩
      · split <;> omega
      · rw [List.take_succ, hz]
        show (decide (y ∈ zs.take i) || decide (y = z)) = decide (y ∈ zs.take i ++ [z])
        rw [← Bool.decide_or]
        exact decide_eq_decide.mpr (by simp)
    have keep : ∀ b o, b ≠ D → s2.heap.get? b = some o → h2.get? b = some o := fun b o nb ho => (but.2 b nb).trans ho
    refine wpAny_pure ⟨plainId_quiet PyProof.Rows.F.plain_set_update_loop _, ih (i + 1) _ (by omega) lt (W.frame _ s2 _ _ st2 (Nat.le_succ _) fun b m o ho => keep b o (fun z => out (z ▸ m)) ho) a2 fun s3 mv3 a3 => ?_⟩
    exact go s3 (Moved.trans W.gtrans ((mv.mono wider).then_heap (Nat.le_succ _) fun b o nb ho => keep b o (fun z => nb (by rw [z]; exact List.mem_cons_self)) ho) mv3) a3
end
section
variable {P : Program} {w : World} {A : Around} {E : Value → Shared → Prop} {s : Shared}
abbrev bare (led : Bool) : Obj := { cls := .type "set", dict := none, data := .set #[] 0 (.fresh 0 0 led) }
theorem call_texts {l : Addr} {its : Array Value} {zs : List Str} {Q : Value → Shared → Prop} (nh : A.handled = none) (hl : s.heap.IsList l its) (hz : StrsAre its.toList zs) (few : its.size + 1 < scanBound)
    (go : ∀ (h2 : Heap) (tk : Nat), In P w h2 s.heap.objs.size zs its.size → (∀ b o, b < s.heap.objs.size → s.heap.get? b = some o → h2.get? b = some o) → Q (.ref s.heap.objs.size) { s with heap := h2, toks := tk }) :
    wpAny (model P w) A (call (.type "set") [.ref l]) Q E s := by
  obtain ⟨c0, r0, order⟩ := PySem.F.called_set.mro
  have made := PySem.F.called_set.made
  have subs := PySem.F.called_set.sub
  refine wpAny_call (codeAny_of_tree ?_)
  show wpAny _ _ (callAny (.type "set") _) _ _ _
  refine wpAny_pure ⟨Code.quiet_builtin _ (by decide +kernel), codeAny_builtin PySem.F.entry_type_call ?_⟩
  rw [Around.under_plain (weight_type_call_type "set" [.ref l] []) rfl]
  have f1 := PySem.F.called_set.notType
  have f2 := PySem.F.called_set.canCreate
  have f3 := PySem.F.typeCall_set_1 (.ref l)
  repeat (any_goals (first | assumption | wp_step))
  refine codeAny_mono (PySem.code_set_new_1 (.ref l) (E := E) (Q₁ := fun x s1 => ∃ led, x = .ref s.heap.objs.size ∧ s1 = { s with heap := s.heap.push (bare led) }) fun led => ⟨led, rfl, rfl⟩) fun r1 s1 back1 => ?_
  rcases r1 with e1 | (x | _ | _ | _) <;> first | exact back1 | exact back1.elim | skip
  obtain ⟨led, rfl, rfl⟩ := back1
  have hD : (s.heap.push (bare led)).get? s.heap.objs.size = some (bare led) := Heap.get?_push_size _ rfl
  have tyD : Shared.TypeIs { s with heap := s.heap.push (bare led) } (.ref s.heap.objs.size) "set" := ⟨_, hD, rfl⟩
  have g1 := PySem.F.called_set.init.lookup
  have g2 := PySem.F.called_set.init.bind (.ref s.heap.objs.size)
  repeat (any_goals (first | assumption | wp_step))
  refine codeAny_mono (codeAny_call_builtin (R := wants (fun r s2 => r = .none ∧ ∃ h2 tk, s2 = { s with heap := h2, toks := tk } ∧ In P w h2 s.heap.objs.size zs its.size ∧ (∀ b o, b < s.heap.objs.size → s.heap.get? b = some o → h2.get? b = some o)) E) PySem.F.called_set.init.plain PySem.F.entry_set_init (PySem.check_set_init_1 tyD ?_)) fun r2 s2 back2 => ?_
  · obtain ⟨ol, hol, hc, nl, hd⟩ := hl
    obtain ⟨oc, od, ot, os⟩ := ol
    simp only at hc hd
    subst hc hd
    have up1 : ∀ b o, s.heap.get? b = some o → (s.heap.push (bare led)).get? b = some o := fun b o e => Heap.get?_push_of_some _ e
    have hol1 := up1 _ _ hol
    have k1 := PySem.F.sub_list_set
    have k2 := PySem.F.sub_list_frozenset
    have k3 : (Value.type "list" == Value.type "dict") = false := by decide
    have isl : (s.heap.push (bare led)).IsList l its := ⟨_, hol1, rfl, nl, rfl⟩
    unfold Builtin.«set.__init__» noKeywords Builtin.Frozenset.updateFrom
    generalize hIt : pyIter = It0
    wp_walk
    subst hIt
    refine wpAny_pyIter_list isl (wpAny_bind (wpAny_runValue ?_))
    have lS : l < s.heap.objs.size := Heap.lt_size hol
    have nh3 : A.in1.in1.in1.handled = none := by simp [nh]
    have sz1 : (s.heap.push (bare led)).objs.size = s.heap.objs.size + 1 := Heap.size_push ..
    have lI : l ≠ (s.heap.push (bare led)).objs.size := by rw [sz1]; exact Nat.ne_of_lt (Nat.lt_succ_of_lt lS)
    have nin : s.heap.objs.size ∉ [(s.heap.push (bare led)).objs.size, l] := by
      rw [sz1]
      simp only [List.mem_cons, List.not_mem_nil, or_false, not_or]
      exact ⟨Nat.ne_of_lt (Nat.lt_succ_self _), Nat.ne_of_gt lS⟩
    have told : ∀ (i : Nat) (v : Value), its[i]? = some v → ∃ z t, zs[i]? = some z ∧ v = .str z t := fun i v hv => txt_get hz i v (by rw [Array.getElem?_toList]; exact hv)
    refine run_fill (zs := zs) ((Walks.list nh3 _ l lI its).toS) s.heap.objs.size nin few told (its.size - 0) 0 _ (by omega) (Nat.zero_le _) ⟨⟨_, Heap.get?_push_size _ rfl, rfl, rfl⟩, isl.push _⟩ ?start ?fin
    case start =>
      have up2 : ((s.heap.push (bare led)).push { cls := .type "list_iterator", data := .fields #[.ref l, .int 0 0] }).get? s.heap.objs.size = some (bare led) := Heap.get?_push_of_some _ hD
      exact ⟨0, Nat.le_refl _, SetOf_congr ((setObjOf_fresh (knd := strKind P w) led).setOf up2 (by unfold scanBound; omega)) (fun y => by simp) rfl⟩
    case fin =>
      intro s3 mv a3
      obtain ⟨h3, g3, d3, tk3, os3⟩ := s3
      have q1 : g3 = s.gens := mv.gens
      have q2 : d3 = s.drawn := mv.drawn
      have q3 : os3 = s.os := mv.os
      subst q1 q2 q3
      show wpAny _ _ _ _ _ _
      refine wpAny_pure ?_
      show wpAny _ _ (ret Value.none) _ _ _
      refine wpAny_pure ⟨rfl, h3, tk3, rfl, a3, fun b o lt ho => ?_⟩
      refine mv.heap b o ?_ (Heap.get?_push_of_some _ (up1 b o ho))
      rw [sz1]
      simp only [List.mem_cons, List.not_mem_nil, or_false, not_or]
      exact ⟨Nat.ne_of_lt lt, Nat.ne_of_lt (Nat.lt_succ_of_lt lt)⟩
  · rcases r2 with e2 | (x | _ | _ | _) <;> first | exact back2 | exact back2.elim | skip
    obtain ⟨rfl, h2, tk, rfl, a2, kp⟩ := back2
    repeat (any_goals (first | assumption | wp_step))
    exact go _ _ a2 kp
end
/-- the object: a set of texts -/
def SetS (P : Program) (w : World) (a : Addr) (zs : List Str) : HO := .ext fun h => In P w h a zs zs.length
def rSetOf (P : Program) (w : World) (K : PySem.W.Frag) : List V → Hp → VK → Prop := fun xs H Q => ∃ (l : Addr) (zs : List Str), xs = [.ref l] ∧ SqL K H l (zs.map V.str) ∧ zs.length ≤ 4000 ∧ ∀ p, H p = none → Q (.ref p) (upd H p (SetS P w p zs))
def rInSet (P : Program) (w : World) : R2 := fun x y H Q => ∃ (z : Str) (a : Addr) (zs : List Str), x = .str z ∧ y = .ref a ∧ H a = some (SetS P w a zs) ∧ Q (.bl (decide (z ∈ zs))) H
section
variable {X : Cx}
theorem set_ok {P : Program} {w : World} {H : Hp} {h : Heap} {a : Addr} {zs : List Str} (R : In P w h a zs zs.length) : ObjOk P w H h a (SetS P w a zs) := by
  have ⟨_, _, o, _, _, _, ho, _⟩ := R
  exact ⟨R, ⟨o, ho⟩, fun h1 h2 p k => p.move k⟩
theorem cr_setOf (hc : X.calm = true) : CallR X (.type "set") (rSetOf X.prog X.w X.K) := by
  intro pins s σ H xs us Q I r h
  obtain ⟨l, zs, rfl, hl, few, q⟩ := h
  rw [Vals.ref1 r]
  obtain ⟨its, rv, pl, hz⟩ := I.list hl
  have n1 : its.length = zs.length := by rw [← rv.length, List.length_map]
  refine call_texts (zs := zs) (I.ok.hd hc) pl.isList (by simpa using rv.strs) (by rw [List.size_toArray]; unfold scanBound; omega) fun h2 tk a2 kp => ?_
  have n2 : its.toArray.size = zs.length := by rw [List.size_toArray]; exact n1
  rw [n2] at a2
  exact ⟨.ref _, _, I.laid (t' := tk) (fun b o e => kp b o (Heap.lt_size e) e) (Nat.le_refl _) (set_ok a2), rfl, q _ (I.hok.fresh (Nat.le_refl _))⟩
theorem op_inS : OpR X (compareOp .In) (rInSet X.prog X.w) := by
  intro pins s σ H x y v u Q I rx ry h
  obtain ⟨z, a, zs, rfl, rfl, ha, q⟩ := h
  cases ry
  obtain ⟨t, rfl⟩ := rx
  obtain ⟨n, hn, hS⟩ : In X.prog X.w s.heap a zs zs.length := (I.hok a _ ha).1
  have hS : s.heap.SetOf (strKind X.prog X.w) a (fun y => decide (y ∈ zs)) n := SetOf_congr hS (fun y => by rw [List.take_length]) rfl
  exact wpAny_inSet_of (strKind_is _ _ z t) rfl hS ⟨.bl _, H, I.tok _, rfl, q⟩
end
end TG

set_option Elab.async false
set_option linter.all false
set_option maxRecDepth 100000
set_option maxHeartbeats 4000000
/-! TI: equality of data of which one is at most 200 deep. -/
namespace TI
open PySem PySem.Spec PyProof.Rows L2 TX CwR
theorem far {n k : Nat} {A : Around} (r : TY.RoomD n k A) : A.units + 200 < cLine := by have := r.un; omega
section
variable {X : Cx}
def rEqF (K : PySem.W.Frag) : R2 := fun x y H Q => ∃ d e, Dp K H x d ∧ Dp K H y e ∧ d.canLay0 = true ∧ e.canLay0 = true ∧ min d.depth e.depth ≤ 200 ∧ Q (.bl (PyData.eqv d e)) H
def rNeF (K : PySem.W.Frag) : R2 := fun x y H Q => ∃ d e, Dp K H x d ∧ Dp K H y e ∧ d.canLay0 = true ∧ e.canLay0 = true ∧ min d.depth e.depth ≤ 200 ∧ Q (.bl (!PyData.eqv d e)) H
theorem op_eqF (hu : X.A.units + 200 < cLine) : OpR X (compareOp .Eq) (rEqF X.K) := by
  intro pins s σ H x y v u Q I rx ry h
  obtain ⟨d, e, hd, he, sd, se, hm, q⟩ := h
  obtain ⟨as, r1⟩ := Dp.reads I d x v hd rx
  obtain ⟨bs, r2⟩ := Dp.reads I e y u he ry
  exact PySem.SeqAt.compareEq_reads r1 r2 sd se (by omega) ⟨.bl _, H, I, rfl, q⟩
theorem op_neF (hu : X.A.units + 200 < cLine) : OpR X (compareOp .NotEq) (rNeF X.K) := by
  intro pins s σ H x y v u Q I rx ry h
  obtain ⟨d, e, hd, he, sd, se, hm, q⟩ := h
  obtain ⟨as, r1⟩ := Dp.reads I d x v hd rx
  obtain ⟨bs, r2⟩ := Dp.reads I e y u he ry
  exact PySem.SeqAt.compareNe_reads r1 r2 sd se (by omega) ⟨.bl _, H, I, rfl, q⟩
end
/-- any comprehension's loop over a range -/
theorem lco_range {lo : Int} {n : Nat} {H0 : Hp} {Qd : Hp → Prop} {B : V → Hp → (Hp → Prop) → Prop} (Pv : Nat → Hp → Prop) (h0 : Pv 0 H0)
    (hs : ∀ i H, i < n → Pv i H → B (.int (lo + i)) H (Pv (i + 1))) (hd : ∀ H, Pv n H → Qd H) :
    ∃ W : Nat → Nat → Hp → Prop, (∃ m, W 0 m H0) ∧ ∀ i m H, W i m H →
      ((Itr lo n).stop i H ∧ Qd H) ∨ ((Itr lo n).go i H ∧ ∃ Nx : Hp → Prop, (∀ H', Nx H' → ∃ m', m' < m ∧ W (i + 1) m' H') ∧ ∀ x H', (Itr lo n).yld i H x H' → B x H' Nx) := by
  refine ⟨fun i m H => m = n - i ∧ i ≤ n ∧ Pv i H, ⟨n, by simp, Nat.zero_le _, h0⟩, ?_⟩
  rintro i m H ⟨rfl, hi, p⟩
  by_cases hlt : i < n
  · refine .inr ⟨hlt, Pv (i + 1), fun H' p' => ⟨n - (i + 1), by omega, rfl, hlt, p'⟩, fun x H' y => ?_⟩
    obtain ⟨e, y⟩ := y
    subst e y
    exact hs i _ hlt p
  · have e : i = n := by omega
    subst e
    exact .inl ⟨Nat.le_refl _, hd H p⟩
end TI

set_option linter.all false
/-! TJ: scripts on trees, their least trees, moves: plainly. -/
namespace TT
open Tr
def Tr.hgt : Tr → Nat
  | .leaf => 0
  | .node l r => max (hgt l) (hgt r) + 1
def tat : Tr → List Nat → Option Tr
  | t, [] => some t
  | .leaf, _ :: _ => none
  | .node l r, c :: cs => if c = 108 then tat l cs else tat r cs
def offs : Tr → List Nat → Nat
  | _, [] => 0
  | .leaf, _ :: _ => 0
  | .node l r, c :: cs => if c = 108 then 1 + offs l cs else 1 + l.len + offs r cs
def put : Tr → List Nat → Tr → Tr
  | _, [], x => x
  | .leaf, _ :: _, _ => .leaf
  | .node l r, c :: cs, x => if c = 108 then .node (put l cs x) r else .node l (put r cs x)
/-- a node turned at its top -/
def turnR : Tr → Tr → Option Tr
  | .node a b, c => some (.node a (.node b c))
  | .leaf, _ => none
def turnL : Tr → Tr → Option Tr
  | a, .node b c => some (.node (.node a b) c)
  | _, .leaf => none
/-- to the right: true -/
def turnB (r : Bool) : Tr → Option Tr
  | .leaf => none
  | .node x y => if r = true then turnR x y else turnL x y
def stepB (r : Bool) (a : List Nat) (t : Tr) : Option Tr := ((tat t a).bind (turnB r)).map (put t a)
def pth : List Nat → Tr → Tr
  | [], x => x
  | c :: cs, x => if c = 108 then .node (pth cs x) .leaf else .node .leaf (pth cs x)
def ttop : Bool → Tr
  | true => .node (.node .leaf .leaf) .leaf
  | false => .node .leaf (.node .leaf .leaf)
/-- the least tree of a step -/
def stp (r : Bool) (a : List Nat) : Tr := pth a (ttop r)
theorem stepB_nil (r : Bool) (t : Tr) : stepB r [] t = turnB r t := by
  unfold stepB
  have e : tat t [] = some t := by cases t <;> rfl
  have p : put t [] = id := by funext x; cases t <;> rfl
  rw [e, p]; simp
theorem stepB_leaf (r : Bool) (a : List Nat) : stepB r a .leaf = none := by
  cases a with
  | nil => rw [stepB_nil]; rfl
  | cons c cs => rfl
theorem stepB_cons (r : Bool) (c : Nat) (cs : List Nat) (x y : Tr) : stepB r (c :: cs) (.node x y) = if c = 108 then (stepB r cs x).map (fun z => .node z y) else (stepB r cs y).map (fun z => .node x z) := by
  unfold stepB
  have e : tat (.node x y) (c :: cs) = if c = 108 then tat x cs else tat y cs := rfl
  have p : put (.node x y) (c :: cs) = fun z => if c = 108 then .node (put x cs z) y else .node x (put y cs z) := by funext z; rfl
  rw [e, p]
  by_cases h : c = 108
  · simp only [h, if_true, Option.map_map]; rfl
  · simp only [h, if_false, Option.map_map]; rfl
theorem pth_cons (c : Nat) (cs : List Nat) (x : Tr) : pth (c :: cs) x = if c = 108 then .node (pth cs x) .leaf else .node .leaf (pth cs x) := rfl
theorem step_iff (r : Bool) : ∀ (a : List Nat) (t : Tr), (stepB r a t).isSome = (hang t (stp r a)).isSome
  | [], t => by
    rw [stepB_nil]
    show _ = (hang t (ttop r)).isSome
    cases t with
    | leaf => cases r <;> rfl
    | node x y =>
      cases r with
      | true => cases x <;> simp [turnB, turnR, ttop, hang]
      | false => cases y <;> simp [turnB, turnL, ttop, hang]
  | c :: cs, .leaf => by
    rw [stepB_leaf]
    show _ = (hang .leaf (pth (c :: cs) (ttop r))).isSome
    rw [pth_cons]; split <;> rfl
  | c :: cs, .node x y => by
    rw [stepB_cons]
    show _ = (hang (.node x y) (pth (c :: cs) (ttop r))).isSome
    rw [pth_cons]
    split
    · have ih := step_iff r cs x
      show _ = ((hang x (stp r cs)).bind fun u => (hang y .leaf).map fun v => u ++ v).isSome
      rw [Option.isSome_map, ih]
      cases hang x (stp r cs) <;> simp [hang]
    · have ih := step_iff r cs y
      show _ = ((hang x .leaf).bind fun u => (hang y (stp r cs)).map fun v => u ++ v).isSome
      rw [Option.isSome_map, ih]
      cases hang y (stp r cs) <;> simp [hang]
theorem turn_lvs {r : Bool} {t s : Tr} (h : turnB r t = some s) : s.lvs = t.lvs ∧ s.size = t.size ∧ s.hgt ≤ t.hgt + 1 ∧ t.hgt ≤ s.hgt + 1 := by
  cases t with
  | leaf => cases h
  | node x y =>
    cases r with
    | true =>
      cases x with
      | leaf => cases h
      | node a b => cases h; simp only [lvs, size, hgt]; omega
    | false =>
      cases y with
      | leaf => cases h
      | node a b => cases h; simp only [lvs, size, hgt]; omega
theorem step_lvs {r : Bool} : ∀ {a : List Nat} {t s : Tr}, stepB r a t = some s → s.lvs = t.lvs ∧ s.size = t.size ∧ s.hgt ≤ t.hgt + 1 ∧ t.hgt ≤ s.hgt + 1
  | [], t, s, h => by rw [stepB_nil] at h; exact turn_lvs h
  | c :: cs, .leaf, s, h => by rw [stepB_leaf] at h; cases h
  | c :: cs, .node x y, s, h => by
    rw [stepB_cons] at h
    split at h
    · obtain ⟨z, hz, rfl⟩ := Option.map_eq_some_iff.mp h
      have ih := step_lvs hz
      simp only [lvs, size, hgt]; omega
    · obtain ⟨z, hz, rfl⟩ := Option.map_eq_some_iff.mp h
      have ih := step_lvs hz
      simp only [lvs, size, hgt]; omega
theorem growR_app : ∀ (t : Tr) (xs ys : List Tr), xs.length = t.lvs → t.growR (xs ++ ys) = (t.grow xs, ys)
  | t, xs, ys, h => by
    have h1 := hang_growR t (xs ++ ys) (by rw [List.length_append]; omega)
    have h2 := hang_grow (c := t) (xs := xs) h
    rw [← h, List.take_left, List.drop_left] at h1
    have := grow_hang h1.1
    refine Prod.ext ?_ h1.2
    exact this.symm
theorem grow_node (l r : Tr) (xs ys : List Tr) (h : xs.length = l.lvs) (h' : ys.length = r.lvs) : (Tr.node l r).grow (xs ++ ys) = .node (l.grow xs) (r.grow ys) := by
  unfold grow
  show Tr.node (l.growR (xs ++ ys)).1 (r.growR (l.growR (xs ++ ys)).2).1 = _
  rw [growR_app l xs ys h]
  rfl
theorem split_len {l r : Tr} {xs : List Tr} (h : xs.length = (Tr.node l r).lvs) : ∃ ys zs, xs = ys ++ zs ∧ ys.length = l.lvs ∧ zs.length = r.lvs := by
  have h : xs.length = l.lvs + r.lvs := h
  exact ⟨xs.take l.lvs, xs.drop l.lvs, (List.take_append_drop _ _).symm, by rw [List.length_take]; omega, by rw [List.length_drop]; omega⟩
theorem grow_leaf1 (x : Tr) : Tr.leaf.grow [x] = x := rfl
theorem turn_grow {r : Bool} {t s : Tr} (h : turnB r t = some s) {xs : List Tr} (hl : xs.length = t.lvs) : turnB r (t.grow xs) = some (s.grow xs) := by
  cases t with
  | leaf => cases h
  | node x y =>
    obtain ⟨ys, zs, rfl, h1, h2⟩ := split_len hl
    rw [grow_node x y ys zs h1 h2]
    cases r with
    | true =>
      cases x with
      | leaf => cases h
      | node a b =>
        cases h
        obtain ⟨us, vs, rfl, h3, h4⟩ := split_len h1
        rw [grow_node a b us vs h3 h4, List.append_assoc, grow_node a _ us (vs ++ zs) h3 (by simp only [List.length_append, lvs]; omega), grow_node b y vs zs h4 h2]
        rfl
    | false =>
      cases y with
      | leaf => cases h
      | node a b =>
        cases h
        obtain ⟨us, vs, rfl, h3, h4⟩ := split_len h2
        rw [grow_node a b us vs h3 h4, ← List.append_assoc, grow_node _ b (ys ++ us) vs (by simp only [List.length_append, lvs]; omega) h4, grow_node x a ys us h1 h3]
        rfl
theorem step_grow {r : Bool} : ∀ {a : List Nat} {t s : Tr}, stepB r a t = some s → ∀ {xs : List Tr}, xs.length = t.lvs → stepB r a (t.grow xs) = some (s.grow xs)
  | [], t, s, h, xs, hl => by rw [stepB_nil] at h ⊢; exact turn_grow h hl
  | c :: cs, .leaf, s, h, xs, hl => by rw [stepB_leaf] at h; cases h
  | c :: cs, .node x y, s, h, xs, hl => by
    obtain ⟨ys, zs, rfl, h1, h2⟩ := split_len hl
    rw [grow_node x y ys zs h1 h2, stepB_cons]
    rw [stepB_cons] at h
    by_cases hc : c = 108
    · rw [if_pos hc] at h ⊢
      obtain ⟨z, hz, rfl⟩ := Option.map_eq_some_iff.mp h
      rw [step_grow hz h1, grow_node z y ys zs (by rw [(step_lvs hz).1, h1]) h2]; rfl
    · rw [if_neg hc] at h ⊢
      obtain ⟨z, hz, rfl⟩ := Option.map_eq_some_iff.mp h
      rw [step_grow hz h2, grow_node x z ys zs h1 (by rw [(step_lvs hz).1, h2])]; rfl
/-! ### growing into both -/
theorem hang_some_join {q a b : Tr} : (hang q (join a b)).isSome = true ↔ (hang q a).isSome = true ∧ (hang q b).isSome = true := by
  rw [hang_iff_join, hang_iff_join, hang_iff_join]
  constructor
  · intro h
    refine ⟨?_, ?_⟩
    · rw [← h, join_assoc, join_comm (join a b) a, ← join_assoc a a b, join_self]
    · rw [← h, join_assoc, join_assoc a b b, join_self]
  · rintro ⟨h1, h2⟩
    rw [← join_assoc, h1, h2]
/-- the lists hung one by one -/
def hangL : List Tr → List Tr → Option (List Tr)
  | [], [] => some []
  | x :: xs, y :: ys => (hang x y).bind fun u => (hangL xs ys).map fun v => u ++ v
  | _, _ => none
theorem hangL_append : ∀ {xs ys us vs : List Tr}, xs.length = us.length → hangL (xs ++ ys) (us ++ vs) = (hangL xs us).bind fun u => (hangL ys vs).map fun v => u ++ v
  | [], ys, [], vs, _ => by simp [hangL]
  | x :: xs, ys, u :: us, vs, h => by
    have ih := hangL_append (xs := xs) (ys := ys) (us := us) (vs := vs) (by simpa using h)
    simp only [List.cons_append, hangL, ih]
    cases hang x u <;> simp
    cases hangL xs us <;> simp
    cases hangL ys vs <;> simp
theorem hang_grows : ∀ {t : Tr} {xs us : List Tr}, xs.length = t.lvs → us.length = t.lvs → hang (t.grow xs) (t.grow us) = hangL xs us
  | .leaf, xs, us, h1, h2 => by
    obtain ⟨x, rfl⟩ := List.length_eq_one_iff.mp h1
    obtain ⟨u, rfl⟩ := List.length_eq_one_iff.mp h2
    rw [grow_leaf1, grow_leaf1]
    simp only [hangL]
    cases hang x u <;> simp
  | .node l r, xs, us, h1, h2 => by
    obtain ⟨a, b, rfl, ha, hb⟩ := split_len h1
    obtain ⟨c, d, rfl, hc, hd⟩ := split_len h2
    rw [grow_node l r a b ha hb, grow_node l r c d hc hd, hangL_append (by omega)]
    show (hang (l.grow a) (l.grow c)).bind _ = _
    rw [hang_grows ha hc, hang_grows hb hd]
theorem lvs_grow : ∀ {t : Tr} {xs : List Tr}, xs.length = t.lvs → (t.grow xs).lvs = (xs.map lvs).sum
  | .leaf, xs, h1 => by
    obtain ⟨x, rfl⟩ := List.length_eq_one_iff.mp h1
    rw [grow_leaf1]; simp
  | .node l r, xs, h1 => by
    obtain ⟨a, b, rfl, ha, hb⟩ := split_len h1
    rw [grow_node l r a b ha hb, List.map_append, List.sum_append, ← lvs_grow ha, ← lvs_grow hb]
    rfl
theorem grow_leaves : ∀ t : Tr, t.grow (List.replicate t.lvs .leaf) = t
  | .leaf => rfl
  | .node l r => by
    show (Tr.node l r).grow (List.replicate (l.lvs + r.lvs) .leaf) = _
    rw [← List.replicate_append_replicate, grow_node l r _ _ (by simp) (by simp), grow_leaves l, grow_leaves r]
theorem hang_self (t : Tr) : hang t t = some (List.replicate t.lvs .leaf) := by
  have := hang_grow (c := t) (xs := List.replicate t.lvs .leaf) (by simp)
  rwa [grow_leaves] at this
theorem hang_trans {p a b : Tr} (h1 : (hang p b).isSome = true) (h2 : (hang b a).isSome = true) : (hang p a).isSome = true := by
  rw [hang_iff_join] at *
  rw [← h1, join_assoc, h2]
theorem hang_size_le {s c : Tr} (h : (hang s c).isSome = true) : c.size ≤ s.size := by
  rw [hang_iff_meet] at h
  rw [← h]; exact size_meet_le s c
/-! ### scripts -/
def runO : List (Bool × List Nat) → Tr → Option Tr
  | [], t => some t
  | x :: xs, t => (stepB x.1 x.2 t).bind (runO xs)
theorem runO_snoc (t : Tr) : ∀ (xs : List (Bool × List Nat)) (x : Bool × List Nat), runO (xs ++ [x]) t = (runO xs t).bind (stepB x.1 x.2) := by
  intro xs
  induction xs generalizing t with
  | nil => intro x; show (stepB x.1 x.2 t).bind (fun s => some s) = (some t).bind _; simp
  | cons y ys ih =>
    intro x
    show (stepB y.1 y.2 t).bind (runO (ys ++ [x])) = ((stepB y.1 y.2 t).bind (runO ys)).bind _
    cases stepB y.1 y.2 t with
    | none => rfl
    | some s => exact ih s x
/-- the first tree grows, as the second has to, so that the step can be done -/
def unf (AB : Tr × Tr) (x : Bool × List Nat) : Tr × Tr :=
  (AB.1.grow ((hang (join AB.2 (stp x.1 x.2)) AB.2).getD []), (stepB x.1 x.2 (join AB.2 (stp x.1 x.2))).getD .leaf)
def pairT (xs : List (Bool × List Nat)) : Tr × Tr := xs.foldl unf (.leaf, .leaf)
/-- what a pair of trees tells of all trees -/
def Tells (f : Tr → Option Tr) (A B : Tr) : Prop := A.lvs = B.lvs ∧ ∀ p, f p = (hang p A).map B.grow
theorem unf_tells {f : Tr → Option Tr} {A B : Tr} (h : Tells f A B) (x : Bool × List Nat) :
    ∃ us, us.length = A.lvs ∧ us.length = B.lvs ∧ join B (stp x.1 x.2) = B.grow us ∧ (unf (A, B) x).1 = A.grow us ∧ stepB x.1 x.2 (B.grow us) = some (unf (A, B) x).2 ∧
      Tells (fun p => (f p).bind (stepB x.1 x.2)) (unf (A, B) x).1 (unf (A, B) x).2 := by
  obtain ⟨hl, hf⟩ := h
  obtain ⟨us, hus⟩ := hang_join B (stp x.1 x.2)
  have ul := hang_len _ _ _ hus
  have jg := (grow_hang hus).symm
  have st : (stepB x.1 x.2 (join B (stp x.1 x.2))).isSome = true := by
    rw [step_iff]
    obtain ⟨ys, hy⟩ := hang_join (stp x.1 x.2) B
    rw [join_comm] at hy
    rw [hy]; rfl
  obtain ⟨C, hC⟩ := Option.isSome_iff_exists.mp st
  have e1 : (unf (A, B) x).1 = A.grow us := by show A.grow ((hang (join B (stp x.1 x.2)) B).getD []) = _; rw [hus]; rfl
  have e2 : (unf (A, B) x).2 = C := by show (stepB x.1 x.2 (join B (stp x.1 x.2))).getD .leaf = _; rw [hC]; rfl
  rw [jg] at hC
  refine ⟨us, by omega, ul, jg, e1, by rw [hC, e2], ?_⟩
  rw [e1, e2]
  have ll := step_lvs hC
  refine ⟨by rw [ll.1, lvs_grow (by omega), lvs_grow ul], fun p => ?_⟩
  show (f p).bind (stepB x.1 x.2) = _
  rw [hf p]
  cases hp : hang p A with
  | none =>
    have : hang p (A.grow us) = none := by
      cases hq : hang p (A.grow us) with
      | none => rfl
      | some zs =>
        have h1 : (hang p A).isSome = true := hang_trans (b := A.grow us) (by rw [hq]; rfl) (by rw [hang_grow (by omega)]; rfl)
        rw [hp] at h1; cases h1
    rw [this]; rfl
  | some ts =>
    have tl := hang_len _ _ _ hp
    have pg := grow_hang hp
    have e3 : hang p (A.grow us) = hang (B.grow ts) (B.grow us) := by rw [← pg, hang_grows (by omega) (by omega), hang_grows (by omega) ul]
    rw [e3]
    show stepB x.1 x.2 (B.grow ts) = _
    cases hq : hang (B.grow ts) (B.grow us) with
    | none =>
      have : (stepB x.1 x.2 (B.grow ts)).isSome = false := by
        rw [step_iff]
        cases hz : hang (B.grow ts) (stp x.1 x.2) with
        | none => rfl
        | some zs =>
          have := hang_some_join.mpr ⟨(by rw [hang_grow (by omega)]; rfl : (hang (B.grow ts) B).isSome = true), (by rw [hz]; rfl : (hang (B.grow ts) (stp x.1 x.2)).isSome = true)⟩
          rw [jg, hq] at this; cases this
      cases hz : stepB x.1 x.2 (B.grow ts) with
      | none => rfl
      | some z => rw [hz] at this; cases this
    | some zs =>
      have zl := hang_len _ _ _ hq
      have e4 := step_grow hC zl
      rw [grow_hang hq] at e4
      rw [e4]; rfl
theorem tells_nil : Tells (runO []) .leaf .leaf := ⟨rfl, fun p => by cases p <;> rfl⟩
theorem foldl_snoc {α β : Type} (f : α → β → α) (a : α) (xs : List β) (x : β) : (xs ++ [x]).foldl f a = f (xs.foldl f a) x := by rw [List.foldl_append]; rfl
theorem pairT_snoc (xs : List (Bool × List Nat)) (x : Bool × List Nat) : pairT (xs ++ [x]) = unf (pairT xs) x := foldl_snoc _ _ _ _
theorem pairT_tells_rev : ∀ xs : List (Bool × List Nat), Tells (runO xs.reverse) (pairT xs.reverse).1 (pairT xs.reverse).2
  | [] => tells_nil
  | x :: xs => by
    rw [List.reverse_cons, pairT_snoc]
    obtain ⟨us, _, _, _, _, _, h⟩ := unf_tells (pairT_tells_rev xs) x
    have : (fun p => (runO xs.reverse p).bind (stepB x.1 x.2)) = runO (xs.reverse ++ [x]) := by funext p; rw [runO_snoc]
    rw [this] at h
    exact h
theorem pairT_tells (xs : List (Bool × List Nat)) : Tells (runO xs) (pairT xs).1 (pairT xs).2 := by
  have := pairT_tells_rev xs.reverse
  rwa [List.reverse_reverse] at this
theorem grow_replicate_self {A B : Tr} (h : A.lvs = B.lvs) : B.grow (List.replicate A.lvs .leaf) = B := by rw [h, grow_leaves]
theorem run_first {f : Tr → Option Tr} {A B : Tr} (h : Tells f A B) : f A = some B := by
  rw [h.2, hang_self]
  show some _ = _
  rw [grow_replicate_self h.1]
/-- on a smaller tree nothing can be done -/
theorem run_smaller {f : Tr → Option Tr} {A B p : Tr} (h : Tells f A B) (l : p.size < A.size) : f p = none := by
  rw [h.2]
  cases hp : hang p A with
  | none => rfl
  | some zs =>
    have := hang_size_le (s := p) (c := A) (by rw [hp]; rfl)
    omega
/-! ### sizes and heights -/
theorem pth_size : ∀ (a : List Nat) (x : Tr), (pth a x).size = a.length + x.size
  | [], x => by simp [pth]
  | c :: cs, x => by
    rw [pth_cons]
    split <;> simp only [size, pth_size cs x, List.length_cons] <;> omega
theorem pth_hgt : ∀ (a : List Nat) (x : Tr), (pth a x).hgt = a.length + x.hgt
  | [], x => by simp [pth]
  | c :: cs, x => by
    rw [pth_cons]
    split <;> simp only [hgt, pth_hgt cs x, List.length_cons] <;> omega
theorem stp_size (r : Bool) (a : List Nat) : (stp r a).size = a.length + 2 := by unfold stp; rw [pth_size]; cases r <;> rfl
theorem stp_hgt (r : Bool) (a : List Nat) : (stp r a).hgt = a.length + 2 := by unfold stp; rw [pth_hgt]; cases r <;> rfl
theorem join_hgt : ∀ a b : Tr, (join a b).hgt = max a.hgt b.hgt
  | .leaf, t => by simp [join, hgt]
  | .node a b, .leaf => by simp [join, hgt]
  | .node a b, .node c d => by
    simp only [join, hgt, join_hgt a c, join_hgt b d]; omega
theorem grow_size_lvs {A B : Tr} (h : A.lvs = B.lvs) : A.size = B.size := by rw [lvs_size, lvs_size] at h; omega
theorem unf_size {f : Tr → Option Tr} {A B : Tr} (h : Tells f A B) (x : Bool × List Nat) : (unf (A, B) x).1.size ≤ A.size + x.2.length + 2 ∧ (unf (A, B) x).2.hgt ≤ max B.hgt (x.2.length + 2) + 1 := by
  obtain ⟨us, u1, u2, e1, e2, e3, h3⟩ := unf_tells h x
  have s1 := size_join_le B (stp x.1 x.2)
  have s2 := stp_size x.1 x.2
  have s3 := grow_size_lvs h.1
  have s4 := step_lvs e3
  have s5 := grow_size_lvs h3.1
  have s6 := join_hgt B (stp x.1 x.2)
  have s7 := stp_hgt x.1 x.2
  rw [← e1] at s4
  exact ⟨by omega, by omega⟩
theorem pairT_size {D : Nat} : ∀ xs : List (Bool × List Nat), (∀ x ∈ xs, x.2.length ≤ D) → (pairT xs.reverse).1.size ≤ xs.length * (D + 2) ∧ (pairT xs.reverse).2.hgt ≤ D + 2 + xs.length
  | [], _ => ⟨Nat.zero_le _, Nat.zero_le _⟩
  | x :: xs, h => by
    have ih := pairT_size xs fun y hy => h y (List.mem_cons_of_mem _ hy)
    have hx := h x List.mem_cons_self
    rw [List.reverse_cons, pairT_snoc]
    have := unf_size (pairT_tells_rev xs) x
    rw [List.length_cons, Nat.succ_mul]
    have e : unf ((pairT xs.reverse).1, (pairT xs.reverse).2) x = unf (pairT xs.reverse) x := rfl
    rw [e] at this
    omega
theorem runO_hgt : ∀ (xs : List (Bool × List Nat)) {t s : Tr}, runO xs t = some s → t.hgt ≤ s.hgt + xs.length ∧ s.size = t.size
  | [], t, s, h => by cases h; exact ⟨by omega, rfl⟩
  | x :: xs, t, s, h => by
    have h : (stepB x.1 x.2 t).bind (runO xs) = some s := h
    obtain ⟨u, hu, h⟩ := Option.bind_eq_some_iff.mp h
    have h1 := step_lvs hu
    have h2 := runO_hgt xs h
    rw [List.length_cons]
    omega
theorem hang_hgt : ∀ (s c : Tr) (xs : List Tr), hang s c = some xs → ∀ x ∈ xs, x.hgt ≤ s.hgt
  | s, .leaf, xs, h => by
    simp [hang] at h; subst h
    intro x hx
    rw [List.mem_singleton.mp hx]
    exact Nat.le_refl _
  | .leaf, .node _ _, xs, h => by simp [hang] at h
  | .node a b, .node c d, xs, h => by
    simp only [hang, Option.bind_eq_some_iff, Option.map_eq_some_iff] at h
    obtain ⟨x, hx, y, hy, rfl⟩ := h
    intro z hz
    show z.hgt ≤ max a.hgt b.hgt + 1
    rcases List.mem_append.mp hz with hz | hz
    · have := hang_hgt a c x hx z hz; omega
    · have := hang_hgt b d y hy z hz; omega
theorem growR_hgt {M : Nat} : ∀ (t : Tr) (xs : List Tr), (∀ x ∈ xs, x.hgt ≤ M) → (t.growR xs).1.hgt ≤ t.hgt + M ∧ ∀ x ∈ (t.growR xs).2, x.hgt ≤ M
  | .leaf, [], h => ⟨Nat.zero_le _, fun _ h => nomatch h⟩
  | .leaf, x :: xs, h => ⟨by have := h x List.mem_cons_self; show x.hgt ≤ 0 + M; omega, fun y hy => h y (List.mem_cons_of_mem _ hy)⟩
  | .node l r, xs, h => by
    have h1 := growR_hgt l xs h
    have h2 := growR_hgt r _ h1.2
    refine ⟨?_, h2.2⟩
    show max (l.growR xs).1.hgt (r.growR (l.growR xs).2).1.hgt + 1 ≤ max l.hgt r.hgt + 1 + M
    omega
theorem grow_hgt {M : Nat} (t : Tr) (xs : List Tr) (h : ∀ x ∈ xs, x.hgt ≤ M) : (t.grow xs).hgt ≤ t.hgt + M := (growR_hgt t xs h).1
theorem pairT_bounds {D : Nat} (xs : List (Bool × List Nat)) (h : ∀ x ∈ xs, x.2.length ≤ D) :
    (pairT xs).1.size ≤ xs.length * (D + 2) ∧ (pairT xs).2.size = (pairT xs).1.size ∧ (pairT xs).2.hgt ≤ D + 2 + xs.length ∧ (pairT xs).1.hgt ≤ D + 2 + 2 * xs.length := by
  have h1 := pairT_size xs.reverse fun x hx => h x (List.mem_reverse.mp hx)
  rw [List.reverse_reverse, List.length_reverse] at h1
  have h2 := runO_hgt xs (run_first (pairT_tells xs))
  omega
/-! ### trees whose parts have numbers -/
theorem put_nil (t x : Tr) : put t [] x = x := by cases t <;> rfl
theorem tat_nil (t : Tr) : tat t [] = some t := by cases t <;> rfl
inductive LT where
  | lf (n : Nat)
  | nd (n : Nat) (l r : LT)
namespace LT
def lab : LT → Nat
  | lf n => n
  | nd n _ _ => n
def shape : LT → Tr
  | lf _ => .leaf
  | nd _ l r => .node l.shape r.shape
def lls : LT → List Nat
  | lf n => [n]
  | nd _ l r => l.lls ++ r.lls
def labs : LT → List Nat
  | lf n => [n]
  | nd n l r => n :: (l.labs ++ r.labs)
def Rep (f : Nat → Option (Nat × Nat)) : LT → Prop
  | lf n => f n = none
  | nd n l r => f n = some (l.lab, r.lab) ∧ Rep f l ∧ Rep f r
def subst (σ : Nat → LT) : LT → LT
  | lf n => σ n
  | nd n l r => nd n (subst σ l) (subst σ r)
/-- a leaf becomes a node -/
def sb (n m k : Nat) : LT := if k = n then nd n (lf m) (lf (m + 1)) else lf k
def lat : LT → List Nat → Option LT
  | t, [] => some t
  | lf _, _ :: _ => none
  | nd _ l r, c :: cs => if c = 108 then lat l cs else lat r cs
def lput : LT → List Nat → LT → LT
  | _, [], x => x
  | lf n, _ :: _, _ => lf n
  | nd n l r, c :: cs, x => if c = 108 then nd n (lput l cs x) r else nd n l (lput r cs x)
theorem lat_nil (t : LT) : lat t [] = some t := by cases t <;> rfl
theorem lput_nil (t x : LT) : lput t [] x = x := by cases t <;> rfl
theorem lls_len : ∀ t : LT, t.lls.length = t.shape.lvs
  | lf n => rfl
  | nd n l r => by simp [lls, shape, lvs, lls_len l, lls_len r]
theorem lls_labs : ∀ (t : LT), ∀ n ∈ t.lls, n ∈ t.labs
  | lf n, k, h => h
  | nd n l r, k, h => by
    rcases List.mem_append.mp h with h | h
    · exact List.mem_cons_of_mem _ (List.mem_append_left _ (lls_labs l k h))
    · exact List.mem_cons_of_mem _ (List.mem_append_right _ (lls_labs r k h))
theorem lab_labs (t : LT) : t.lab ∈ t.labs := by cases t <;> simp [lab, labs]
theorem rep_leaf {f : Nat → Option (Nat × Nat)} : ∀ {t : LT}, Rep f t → ∀ n ∈ t.lls, f n = none
  | lf n, h, k, hk => by rw [List.mem_singleton.mp hk]; exact h
  | nd n l r, h, k, hk => by
    rcases List.mem_append.mp hk with hk | hk
    · exact rep_leaf h.2.1 k hk
    · exact rep_leaf h.2.2 k hk
theorem rep_congr {f g : Nat → Option (Nat × Nat)} : ∀ {t : LT}, (∀ k ∈ t.labs, g k = f k) → Rep f t → Rep g t
  | lf n, e, h => by show g n = none; rw [e n (by simp [labs])]; exact h
  | nd n l r, e, h => ⟨by rw [e n (by simp [labs])]; exact h.1, rep_congr (fun k hk => e k (by simp [labs, hk])) h.2.1, rep_congr (fun k hk => e k (by simp [labs, hk])) h.2.2⟩
theorem shape_subst (σ : Nat → LT) : ∀ t : LT, (t.subst σ).shape = t.shape.grow (t.lls.map fun k => (σ k).shape)
  | lf n => rfl
  | nd n l r => by
    show Tr.node _ _ = _
    rw [shape_subst σ l, shape_subst σ r]
    simp only [lls, List.map_append, shape]
    rw [grow_node _ _ _ _ (by rw [List.length_map, lls_len]) (by rw [List.length_map, lls_len])]
theorem lls_subst (σ : Nat → LT) : ∀ t : LT, (t.subst σ).lls = t.lls.flatMap fun k => (σ k).lls
  | lf n => by simp [subst, lls]
  | nd n l r => by simp only [subst, lls, lls_subst σ l, lls_subst σ r, List.flatMap_append]
theorem subst_subst (σ τ : Nat → LT) : ∀ t : LT, (t.subst σ).subst τ = t.subst fun k => (σ k).subst τ
  | lf n => rfl
  | nd n l r => by simp only [subst, subst_subst σ τ l, subst_subst σ τ r]
theorem subst_lf : ∀ t : LT, t.subst lf = t
  | lf n => rfl
  | nd n l r => by simp only [subst, subst_lf l, subst_lf r]
theorem lab_sb (n m : Nat) (t : LT) : (t.subst (sb n m)).lab = t.lab := by
  cases t with
  | lf k => show (sb n m k).lab = k; unfold sb; split <;> simp [lab, *]
  | nd k l r => rfl
theorem sb_id {n m : Nat} : ∀ {t : LT}, n ∉ t.lls → t.subst (sb n m) = t
  | lf k, h => by show sb n m k = lf k; unfold sb; rw [if_neg]; intro e; exact h (by rw [← e]; simp [lls])
  | nd k l r, h => by
    simp only [lls, List.mem_append, not_or] at h
    simp only [subst, sb_id h.1, sb_id h.2]
/-- the dict with one more entry -/
def fput (f : Nat → Option (Nat × Nat)) (n : Nat) (p : Nat × Nat) : Nat → Option (Nat × Nat) := fun k => if k = n then some p else f k
theorem rep_sb {f : Nat → Option (Nat × Nat)} {n m : Nat} (hn : f n = none) (hm : f m = none) (hm1 : f (m + 1) = none) (h1 : n < m) : ∀ {t : LT}, Rep f t → Rep (fput f n (m, m + 1)) (t.subst (sb n m))
  | lf k, h => by
    show Rep _ (sb n m k)
    unfold sb
    split
    · rename_i e
      exact ⟨by unfold fput; rw [if_pos rfl]; rfl, by show fput f n _ m = none; unfold fput; rw [if_neg (by omega)]; exact hm, by show fput f n _ (m + 1) = none; unfold fput; rw [if_neg (by omega)]; exact hm1⟩
    · rename_i e
      show fput f n _ k = none
      unfold fput; rw [if_neg e]; exact h
  | nd k l r, h => by
    refine ⟨?_, rep_sb hn hm hm1 h1 h.2.1, rep_sb hn hm hm1 h1 h.2.2⟩
    rw [lab_sb, lab_sb]
    unfold fput
    rw [if_neg (fun e => by have := h.1; rw [e, hn] at this; cases this)]
    exact h.1
theorem labs_sb {n m : Nat} : ∀ {t : LT}, ∀ k ∈ (t.subst (sb n m)).labs, k ∈ t.labs ∨ k = m ∨ k = m + 1
  | lf j, k, h => by
    have h : k ∈ (sb n m j).labs := h
    unfold sb at h
    split at h
    · rename_i e
      simp [labs] at h
      rcases h with h | h | h
      · exact .inl (by simp [labs, h, e])
      · exact .inr (.inl h)
      · exact .inr (.inr h)
    · exact .inl h
  | nd j l r, k, h => by
    simp only [subst, labs, List.mem_cons, List.mem_append] at h ⊢
    rcases h with h | h | h
    · exact .inl (.inl h)
    · rcases labs_sb k h with h | h
      · exact .inl (.inr (.inl h))
      · exact .inr h
    · rcases labs_sb k h with h | h
      · exact .inl (.inr (.inr h))
      · exact .inr h
theorem lat_labs : ∀ {t : LT} {a : List Nat} {s : LT}, lat t a = some s → ∀ k ∈ s.labs, k ∈ t.labs
  | t, [], s, h, k, hk => by rw [lat_nil] at h; cases h; exact hk
  | lf n, c :: cs, s, h, k, hk => by cases h
  | nd n l r, c :: cs, s, h, k, hk => by
    have h : (if c = 108 then lat l cs else lat r cs) = some s := h
    simp only [labs, List.mem_cons, List.mem_append]
    split at h
    · exact .inr (.inl (lat_labs h k hk))
    · exact .inr (.inr (lat_labs h k hk))
theorem lat_shape : ∀ {t : LT} {a : List Nat} {s : LT}, lat t a = some s → tat t.shape a = some s.shape
  | t, [], s, h => by rw [lat_nil] at h; cases h; exact tat_nil _
  | lf n, c :: cs, s, h => by cases h
  | nd n l r, c :: cs, s, h => by
    have h : (if c = 108 then lat l cs else lat r cs) = some s := h
    show (if c = 108 then tat l.shape cs else tat r.shape cs) = _
    split at h
    · rename_i e; rw [if_pos e]; exact lat_shape h
    · rename_i e; rw [if_neg e]; exact lat_shape h
theorem lput_shape : ∀ {t : LT} {a : List Nat} {s : LT} (x : LT), lat t a = some s → (lput t a x).shape = put t.shape a x.shape
  | t, [], s, x, h => by rw [lput_nil, put_nil]
  | lf n, c :: cs, s, x, h => by cases h
  | nd n l r, c :: cs, s, x, h => by
    have h : (if c = 108 then lat l cs else lat r cs) = some s := h
    show (if c = 108 then nd n (lput l cs x) r else nd n l (lput r cs x)).shape = if c = 108 then Tr.node (put l.shape cs x.shape) r.shape else Tr.node l.shape (put r.shape cs x.shape)
    split at h
    · rename_i e; rw [if_pos e, if_pos e]; show Tr.node _ _ = _; rw [lput_shape x h]
    · rename_i e; rw [if_neg e, if_neg e]; show Tr.node _ _ = _; rw [lput_shape x h]
theorem lat_lput : ∀ {t : LT} {a : List Nat} {s : LT} (x : LT) (b : List Nat), lat t a = some s → lat (lput t a x) (a ++ b) = lat x b
  | t, [], s, x, b, h => by rw [lput_nil]; rfl
  | lf n, c :: cs, s, x, b, h => by cases h
  | nd n l r, c :: cs, s, x, b, h => by
    have h : (if c = 108 then lat l cs else lat r cs) = some s := h
    show lat (if c = 108 then nd n (lput l cs x) r else nd n l (lput r cs x)) (c :: (cs ++ b)) = _
    split at h
    · rename_i e; rw [if_pos e]; show (if c = 108 then lat (lput l cs x) (cs ++ b) else _) = _; rw [if_pos e]; exact lat_lput x b h
    · rename_i e; rw [if_neg e]; show (if c = 108 then _ else lat (lput r cs x) (cs ++ b)) = _; rw [if_neg e]; exact lat_lput x b h
theorem lat_app : ∀ {t : LT} {a : List Nat} {s : LT} (b : List Nat), lat t a = some s → lat t (a ++ b) = lat s b
  | t, [], s, b, h => by rw [lat_nil] at h; cases h; rfl
  | lf n, c :: cs, s, b, h => by cases h
  | nd n l r, c :: cs, s, b, h => by
    have h : (if c = 108 then lat l cs else lat r cs) = some s := h
    show (if c = 108 then lat l (cs ++ b) else lat r (cs ++ b)) = _
    split at h
    · rename_i e; rw [if_pos e]; exact lat_app b h
    · rename_i e; rw [if_neg e]; exact lat_app b h
theorem nodup_nd {n : Nat} {l r : LT} (h : (nd n l r).labs.Nodup) : n ∉ l.labs ∧ n ∉ r.labs ∧ l.labs.Nodup ∧ r.labs.Nodup ∧ ∀ k ∈ l.labs, k ∉ r.labs := by
  simp only [labs, List.nodup_cons, List.mem_append, not_or, List.nodup_append] at h
  exact ⟨h.1.1, h.1.2, h.2.1, h.2.2.1, fun k hk hr => h.2.2.2 k hk k hr rfl⟩
/-- unfolding the leaf at an address -/
theorem sb_put {m : Nat} : ∀ {t : LT} {a : List Nat} {n : Nat}, t.labs.Nodup → lat t a = some (lf n) → t.subst (sb n m) = lput t a (nd n (lf m) (lf (m + 1)))
  | t, [], n, _, h => by rw [lat_nil] at h; cases h; rw [lput_nil]; show sb n m n = _; unfold sb; rw [if_pos rfl]
  | lf k, c :: cs, n, _, h => by cases h
  | nd k l r, c :: cs, n, hn, h => by
    have h : (if c = 108 then lat l cs else lat r cs) = some (lf n) := h
    obtain ⟨h1, h2, h3, h4, h5⟩ := nodup_nd hn
    show nd k (l.subst (sb n m)) (r.subst (sb n m)) = if c = 108 then nd k (lput l cs _) r else nd k l (lput r cs _)
    split at h
    · rename_i e
      rw [if_pos e, sb_put h3 h, sb_id (t := r) fun z => h5 n (lat_labs h n (by simp [labs])) (lls_labs r n z)]
    · rename_i e
      rw [if_neg e, sb_put h4 h, sb_id (t := l) fun z => h5 n (lls_labs l n z) (lat_labs h n (by simp [labs]))]
theorem lat_lls {n : Nat} : ∀ {t : LT} {a : List Nat}, lat t a = some (lf n) → n ∈ t.lls
  | t, [], h => by rw [lat_nil] at h; cases h; simp [lls]
  | lf k, c :: cs, h => by cases h
  | nd k l r, c :: cs, h => by
    have h : (if c = 108 then lat l cs else lat r cs) = some (lf n) := h
    split at h
    · exact List.mem_append_left _ (lat_lls h)
    · exact List.mem_append_right _ (lat_lls h)
theorem rep_lat {f : Nat → Option (Nat × Nat)} : ∀ {t : LT} {a : List Nat} {s : LT}, Rep f t → lat t a = some s → Rep f s
  | t, [], s, h, e => by rw [lat_nil] at e; cases e; exact h
  | lf k, c :: cs, s, h, e => by cases e
  | nd k l r, c :: cs, s, h, e => by
    have e : (if c = 108 then lat l cs else lat r cs) = some s := e
    split at e
    · exact rep_lat h.2.1 e
    · exact rep_lat h.2.2 e
/-- another part in the place of one, with the same number at its top -/
theorem rep_put {f g : Nat → Option (Nat × Nat)} : ∀ {t : LT} {a : List Nat} {s x : LT}, t.labs.Nodup → Rep f t → lat t a = some s → (∀ k, k ∉ s.labs → g k = f k) → Rep g x → x.lab = s.lab → x.labs.Perm s.labs → x.lls = s.lls →
    Rep g (lput t a x) ∧ (lput t a x).lab = t.lab ∧ (lput t a x).labs.Perm t.labs ∧ (lput t a x).lls = t.lls
  | t, [], s, x, _, _, e, _, hx, hl, hp, hs => by rw [lat_nil] at e; cases e; rw [lput_nil]; exact ⟨hx, hl, hp, hs⟩
  | lf k, c :: cs, s, x, _, _, e, _, _, _, _, _ => by cases e
  | nd k l r, c :: cs, s, x, hn, hr, e, hg, hx, hl, hp, hs => by
    have e : (if c = 108 then lat l cs else lat r cs) = some s := e
    obtain ⟨h1, h2, h3, h4, h5⟩ := nodup_nd hn
    show Rep g (if c = 108 then nd k (lput l cs x) r else nd k l (lput r cs x)) ∧ (if c = 108 then nd k (lput l cs x) r else nd k l (lput r cs x)).lab = k ∧
      (if c = 108 then nd k (lput l cs x) r else nd k l (lput r cs x)).labs.Perm (k :: (l.labs ++ r.labs)) ∧ (if c = 108 then nd k (lput l cs x) r else nd k l (lput r cs x)).lls = l.lls ++ r.lls
    split at e
    · rename_i z
      have ih := rep_put h3 hr.2.1 e hg hx hl hp hs
      rw [if_pos z]
      refine ⟨⟨?_, ih.1, rep_congr (fun j hj => hg j fun q => h5 j (lat_labs e j q) hj) hr.2.2⟩, rfl, ?_, ?_⟩
      · rw [hg k fun q => h1 (lat_labs e k q), ih.2.1]; exact hr.1
      · exact (ih.2.2.1.append_right _).cons _
      · show _ ++ _ = _; rw [ih.2.2.2]
    · rename_i z
      have ih := rep_put h4 hr.2.2 e hg hx hl hp hs
      rw [if_neg z]
      refine ⟨⟨?_, rep_congr (fun j hj => hg j fun q => h5 j hj (lat_labs e j q)) hr.2.1, ih.1⟩, rfl, ?_, ?_⟩
      · rw [hg k fun q => h2 (lat_labs e k q), ih.2.1]; exact hr.1
      · exact (ih.2.2.1.append_left _).cons _
      · show _ ++ _ = _; rw [ih.2.2.2]
end LT
abbrev cherry : Tr := .node .leaf .leaf
theorem pth_join (a : List Nat) : ∀ x y : Tr, join (pth a x) (pth a y) = pth a (join x y) := by
  induction a with
  | nil => intro x y; rfl
  | cons c cs ih =>
    intro x y
    rw [pth_cons, pth_cons, pth_cons]
    split
    · simp only [join, ih]
    · simp only [join, ih]
theorem pth_app (a b : List Nat) (x : Tr) : pth (a ++ b) x = pth a (pth b x) := by
  induction a with
  | nil => rfl
  | cons c cs ih => rw [List.cons_append, pth_cons, pth_cons, ih]
theorem put_join : ∀ {t : Tr} {a : List Nat} {s : Tr} (x : Tr), tat t a = some s → put t a (join s x) = join t (pth a x)
  | t, [], s, x, h => by rw [tat_nil] at h; cases h; rw [put_nil]; rfl
  | .leaf, c :: cs, s, x, h => by cases h
  | .node l r, c :: cs, s, x, h => by
    have h : (if c = 108 then tat l cs else tat r cs) = some s := h
    rw [pth_cons]
    show (if c = 108 then Tr.node (put l cs _) r else Tr.node l (put r cs _)) = _
    split at h
    · rename_i e; rw [if_pos e, if_pos e, put_join x h]; simp only [join, join_leaf]
    · rename_i e; rw [if_neg e, if_neg e, put_join x h]; simp only [join, join_leaf]
namespace LT
/-- what the two dicts hold -/
structure Sta (f g : Nat → Option (Nat × Nat)) (m : Nat) (O C : LT) : Prop where
  ro : Rep f O
  rc : Rep g C
  lo : O.lab = 0
  lc : C.lab = 0
  ndp : C.labs.Nodup
  fr : ∀ k ∈ C.labs, k < m
  dom : ∀ k, m ≤ k → f k = none ∧ g k = none
  eq : O.lls = C.lls
theorem Sta.zero : Sta (fun _ => none) (fun _ => none) 1 (lf 0) (lf 0) := ⟨rfl, rfl, rfl, rfl, by simp [labs], by simp [labs], fun _ _ => ⟨rfl, rfl⟩, rfl⟩
theorem labs_leaf {m : Nat} : ∀ {t : LT} {a : List Nat} {n : Nat}, lat t a = some (lf n) → (lput t a (nd n (lf m) (lf (m + 1)))).labs.Perm (m :: (m + 1) :: t.labs)
  | t, [], n, h => by
    rw [lat_nil] at h; cases h; rw [lput_nil]
    show [n, m, m + 1].Perm [m, m + 1, n]
    exact (List.perm_append_comm (l₁ := [n]) (l₂ := [m, m + 1]))
  | lf k, c :: cs, n, h => by cases h
  | nd k l r, c :: cs, n, h => by
    have h : (if c = 108 then lat l cs else lat r cs) = some (lf n) := h
    show (if c = 108 then nd k (lput l cs _) r else nd k l (lput r cs _)).labs.Perm (m :: (m + 1) :: k :: (l.labs ++ r.labs))
    have mid : ∀ xs : List Nat, (k :: m :: (m + 1) :: xs).Perm (m :: (m + 1) :: k :: xs) := fun xs => (List.Perm.swap _ _ _).trans ((List.Perm.swap _ _ _).cons _)
    split at h
    · rename_i e; rw [if_pos e]
      exact (((labs_leaf h).append_right _).cons _).trans (mid _)
    · rename_i e; rw [if_neg e]
      refine (((labs_leaf h).append_left _).cons _).trans (.trans (List.Perm.cons _ ?_) (mid _))
      exact (List.perm_middle).trans ((List.perm_middle).cons _)
theorem Sta.unfold {f g : Nat → Option (Nat × Nat)} {m : Nat} {O C : LT} (S : Sta f g m O C) {a : List Nat} {n : Nat} (h : lat C a = some (lf n)) :
    Sta (fput f n (m, m + 1)) (fput g n (m, m + 1)) (m + 2) (O.subst (sb n m)) (C.subst (sb n m)) ∧ lat (C.subst (sb n m)) a = some (nd n (lf m) (lf (m + 1))) ∧ (C.subst (sb n m)).shape = join C.shape (pth a cherry) := by
  have hn : n ∈ C.labs := lat_labs h n (by simp [labs])
  have nm := S.fr n hn
  have hl : n ∈ C.lls := lat_lls h
  have gn : g n = none := rep_leaf S.rc n hl
  have fn : f n = none := rep_leaf S.ro n (by rw [S.eq]; exact hl)
  have d0 := S.dom m (Nat.le_refl _)
  have d1 := S.dom (m + 1) (by omega)
  have e := sb_put (m := m) S.ndp h
  have la := lat_lput (nd n (lf m) (lf (m + 1))) [] h
  rw [List.append_nil, lat_nil] at la
  refine ⟨⟨rep_sb fn d0.1 d1.1 nm S.ro, rep_sb gn d0.2 d1.2 nm S.rc, by rw [lab_sb]; exact S.lo, by rw [lab_sb]; exact S.lc, ?_, fun k hk => ?_, fun k hk => ?_, by rw [lls_subst, lls_subst, S.eq]⟩, by rw [e]; exact la, ?_⟩
  · rw [e]
    refine (labs_leaf h).nodup_iff.mpr ?_
    refine List.nodup_cons.mpr ⟨fun z => ?_, List.nodup_cons.mpr ⟨fun z => ?_, S.ndp⟩⟩
    · rcases List.mem_cons.mp z with z | z
      · omega
      · have := S.fr m z; omega
    · have := S.fr _ z; omega
  · rcases labs_sb k hk with h | h | h
    · have := S.fr k h; omega
    · omega
    · omega
  · have := S.dom k (by omega)
    unfold fput
    rw [if_neg (by omega), if_neg (by omega)]
    exact this
  · rw [e, lput_shape _ h]
    have := put_join cherry (lat_shape h)
    exact this
/-- where a node stands nothing need grow -/
theorem node_join {C : LT} {a : List Nat} {n : Nat} {l r : LT} (h : lat C a = some (nd n l r)) : C.shape = join C.shape (pth a cherry) := by
  have e := put_join cherry (lat_shape h)
  have k : join (nd n l r).shape cherry = (nd n l r).shape := by show join (.node l.shape r.shape) (.node .leaf .leaf) = _; simp only [join, join_leaf]; rfl
  rw [k] at e
  rw [← e]
  have : ∀ {t : Tr} {a : List Nat} {s : Tr}, tat t a = some s → put t a s = t := by
    intro t a
    induction a generalizing t with
    | nil => intro s h; rw [tat_nil] at h; cases h; exact put_nil _ _
    | cons c cs ih =>
      intro s h
      cases t with
      | leaf => cases h
      | node x y =>
        have h : (if c = 108 then tat x cs else tat y cs) = some s := h
        show (if c = 108 then Tr.node (put x cs s) y else Tr.node x (put y cs s)) = _
        split at h
        · rename_i e; rw [if_pos e, ih h]
        · rename_i e; rw [if_neg e, ih h]
  exact (this (lat_shape h)).symm
/-- a turn -/
theorem Sta.turnR {f g : Nat → Option (Nat × Nat)} {m : Nat} {O C : LT} (S : Sta f g m O C) {a : List Nat} {n j : Nat} {o i r : LT} (h : lat C a = some (nd n (nd j o i) r)) :
    Sta f (fput (fput g n (o.lab, j)) j (i.lab, r.lab)) m O (lput C a (nd n o (nd j i r))) ∧ stepB true a C.shape = some (lput C a (nd n o (nd j i r))).shape := by
  have hs := rep_lat S.rc h
  have nds : (nd n (nd j o i) r).labs.Nodup := by
    have : ∀ {t : LT} {a : List Nat} {s : LT}, t.labs.Nodup → lat t a = some s → s.labs.Nodup := by
      intro t a
      induction a generalizing t with
      | nil => intro s hn h; rw [lat_nil] at h; cases h; exact hn
      | cons c cs ih =>
        intro s hn h
        cases t with
        | lf k => cases h
        | nd k x y =>
          have h : (if c = 108 then lat x cs else lat y cs) = some s := h
          have := nodup_nd hn
          split at h
          · exact ih this.2.2.1 h
          · exact ih this.2.2.2.1 h
    exact this S.ndp h
  obtain ⟨a1, a2, a3, a4, a5⟩ := nodup_nd nds
  obtain ⟨b1, b2, b3, b4, b5⟩ := nodup_nd a3
  have nj : ¬ n = j := fun z => a1 (by rw [z]; simp [labs])
  have P := rep_put (g := fput (fput g n (o.lab, j)) j (i.lab, r.lab)) (x := nd n o (nd j i r)) S.ndp S.rc h (fun k hk => by
      unfold fput
      rw [if_neg (fun z => hk (by rw [z]; simp [labs])), if_neg (fun z => hk (by rw [z]; simp [labs]))]) ?_ rfl ?_ (by simp [lls])
  · refine ⟨⟨S.ro, P.1, S.lo, by rw [P.2.1]; exact S.lc, P.2.2.1.nodup_iff.mpr S.ndp, fun k hk => S.fr k (P.2.2.1.mem_iff.mp hk), fun k hk => ⟨(S.dom k hk).1, ?_⟩, by rw [P.2.2.2]; exact S.eq⟩, ?_⟩
    · have h1 := S.fr n (lat_labs h n (by simp [labs]))
      have h2 := S.fr j (lat_labs h j (by simp [labs]))
      unfold fput
      rw [if_neg (by omega), if_neg (by omega)]
      exact (S.dom k hk).2
    · rw [lput_shape _ h]
      unfold stepB
      rw [lat_shape h]
      rfl
  · refine ⟨?_, rep_congr (fun k hk => ?_) hs.2.1.2.1, ?_, rep_congr (fun k hk => ?_) hs.2.1.2.2, rep_congr (fun k hk => ?_) hs.2.2⟩
    · unfold fput; rw [if_neg nj, if_pos rfl]; rfl
    · unfold fput; rw [if_neg (fun z => b1 (by rw [← z]; exact hk)), if_neg (fun z => a1 (by rw [← z]; simp [labs, hk]))]
    · unfold fput; rw [if_pos rfl]
    · unfold fput; rw [if_neg (fun z => b2 (by rw [← z]; exact hk)), if_neg (fun z => a1 (by rw [← z]; simp [labs, hk]))]
    · unfold fput; rw [if_neg (fun z => a5 j (by simp [labs]) (by rw [← z]; exact hk)), if_neg (fun z => a2 (by rw [← z]; exact hk))]
  · simp only [labs]
    refine List.Perm.cons _ ?_
    show (o.labs ++ j :: (i.labs ++ r.labs)).Perm ((j :: (o.labs ++ i.labs)) ++ r.labs)
    rw [List.cons_append, List.append_assoc]
    exact List.perm_middle
theorem Sta.turnL {f g : Nat → Option (Nat × Nat)} {m : Nat} {O C : LT} (S : Sta f g m O C) {a : List Nat} {n j : Nat} {l i o : LT} (h : lat C a = some (nd n l (nd j i o))) :
    Sta f (fput (fput g n (j, o.lab)) j (l.lab, i.lab)) m O (lput C a (nd n (nd j l i) o)) ∧ stepB false a C.shape = some (lput C a (nd n (nd j l i) o)).shape := by
  have hs := rep_lat S.rc h
  have nds : (nd n l (nd j i o)).labs.Nodup := by
    have : ∀ {t : LT} {a : List Nat} {s : LT}, t.labs.Nodup → lat t a = some s → s.labs.Nodup := by
      intro t a
      induction a generalizing t with
      | nil => intro s hn h; rw [lat_nil] at h; cases h; exact hn
      | cons c cs ih =>
        intro s hn h
        cases t with
        | lf k => cases h
        | nd k x y =>
          have h : (if c = 108 then lat x cs else lat y cs) = some s := h
          have := nodup_nd hn
          split at h
          · exact ih this.2.2.1 h
          · exact ih this.2.2.2.1 h
    exact this S.ndp h
  obtain ⟨a1, a2, a3, a4, a5⟩ := nodup_nd nds
  obtain ⟨b1, b2, b3, b4, b5⟩ := nodup_nd a4
  have nj : ¬ n = j := fun z => a2 (by rw [z]; simp [labs])
  have P := rep_put (g := fput (fput g n (j, o.lab)) j (l.lab, i.lab)) (x := nd n (nd j l i) o) S.ndp S.rc h (fun k hk => by
      unfold fput
      rw [if_neg (fun z => hk (by rw [z]; simp [labs])), if_neg (fun z => hk (by rw [z]; simp [labs]))]) ?_ rfl ?_ (by simp [lls])
  · refine ⟨⟨S.ro, P.1, S.lo, by rw [P.2.1]; exact S.lc, P.2.2.1.nodup_iff.mpr S.ndp, fun k hk => S.fr k (P.2.2.1.mem_iff.mp hk), fun k hk => ⟨(S.dom k hk).1, ?_⟩, by rw [P.2.2.2]; exact S.eq⟩, ?_⟩
    · have h1 := S.fr n (lat_labs h n (by simp [labs]))
      have h2 := S.fr j (lat_labs h j (by simp [labs]))
      unfold fput
      rw [if_neg (by omega), if_neg (by omega)]
      exact (S.dom k hk).2
    · rw [lput_shape _ h]
      unfold stepB
      rw [lat_shape h]
      show Option.map _ (TT.turnL l.shape (.node i.shape o.shape)) = _
      cases l <;> rfl
  · refine ⟨?_, ⟨?_, rep_congr (fun k hk => ?_) hs.2.1, rep_congr (fun k hk => ?_) hs.2.2.2.1⟩, rep_congr (fun k hk => ?_) hs.2.2.2.2⟩
    · unfold fput; rw [if_neg nj, if_pos rfl]; rfl
    · unfold fput; rw [if_pos rfl]
    · unfold fput; rw [if_neg (fun z => a5 k hk (by rw [z]; simp [labs])), if_neg (fun z => a1 (by rw [← z]; exact hk))]
    · unfold fput; rw [if_neg (fun z => b1 (by rw [← z]; exact hk)), if_neg (fun z => a2 (by rw [← z]; simp [labs, hk]))]
    · unfold fput; rw [if_neg (fun z => b2 (by rw [← z]; exact hk)), if_neg (fun z => a2 (by rw [← z]; simp [labs, hk]))]
  · simp only [labs]
    refine List.Perm.cons _ ?_
    show ((j :: (l.labs ++ i.labs)) ++ o.labs).Perm (l.labs ++ j :: (i.labs ++ o.labs))
    rw [List.cons_append, List.append_assoc]
    exact List.perm_middle.symm
/-- both trees have grown alike -/
def Alike (O0 C0 O C : LT) : Prop := ∃ σ : Nat → LT, (∀ k, (σ k).lab = k) ∧ O = O0.subst σ ∧ C = C0.subst σ
theorem Alike.refl (O C : LT) : Alike O C O C := ⟨lf, fun _ => rfl, (subst_lf O).symm, (subst_lf C).symm⟩
theorem Alike.sb {O0 C0 O C : LT} (A : Alike O0 C0 O C) (n m : Nat) : Alike O0 C0 (O.subst (sb n m)) (C.subst (sb n m)) := by
  obtain ⟨σ, h, rfl, rfl⟩ := A
  exact ⟨_, fun k => by rw [lab_sb]; exact h k, subst_subst _ _ _, subst_subst _ _ _⟩
theorem lab_subst {σ : Nat → LT} (h : ∀ k, (σ k).lab = k) (t : LT) : (t.subst σ).lab = t.lab := by
  cases t with
  | lf k => exact h k
  | nd k l r => rfl
theorem lat_subst (σ : Nat → LT) : ∀ {t : LT} {a : List Nat} {s : LT}, lat t a = some s → lat (t.subst σ) a = some (s.subst σ)
  | t, [], s, h => by rw [lat_nil] at h; cases h; exact lat_nil _
  | lf n, c :: cs, s, h => by cases h
  | nd n l r, c :: cs, s, h => by
    have h : (if c = 108 then lat l cs else lat r cs) = some s := h
    show (if c = 108 then lat (l.subst σ) cs else lat (r.subst σ) cs) = _
    split at h
    · rename_i e; rw [if_pos e]; exact lat_subst σ h
    · rename_i e; rw [if_neg e]; exact lat_subst σ h
theorem Alike.lat {O0 C0 O C : LT} (A : Alike O0 C0 O C) {a : List Nat} {n : Nat} {l r : LT} (h : lat C0 a = some (nd n l r)) : ∃ l' r', lat C a = some (nd n l' r') ∧ l'.lab = l.lab ∧ r'.lab = r.lab := by
  obtain ⟨σ, k, e1, e2⟩ := A
  refine ⟨l.subst σ, r.subst σ, ?_, lab_subst k l, lab_subst k r⟩
  rw [e2]
  exact lat_subst σ h
theorem Alike.unf {f g : Nat → Option (Nat × Nat)} {m : Nat} {O0 C0 O C : LT} (S : Sta f g m O0 C0) (A : Alike O0 C0 O C) {r : Bool} {a : List Nat} (hC : C.shape = join C0.shape (stp r a)) {s : Tr} (hs : stepB r a C.shape = some s) :
    TT.unf (O0.shape, C0.shape) (r, a) = (O.shape, s) := by
  obtain ⟨σ, _, e1, e2⟩ := A
  have s1 := shape_subst σ O0
  have s2 := shape_subst σ C0
  rw [← e1, S.eq] at s1
  rw [← e2] at s2
  have hg := hang_grow (c := C0.shape) (xs := C0.lls.map fun k => (σ k).shape) (by rw [List.length_map, lls_len])
  rw [← s2, hC] at hg
  unfold TT.unf
  show (O0.shape.grow ((hang (join C0.shape (stp r a)) C0.shape).getD []), (stepB r a (join C0.shape (stp r a))).getD .leaf) = _
  rw [hg, ← hC, hs, s1]
  rfl
theorem walk_on {B : Tr} {a : List Nat} (c : Nat) {C : Tr} (h : C = join B (pth a .leaf)) {C' : Tr} (h' : C' = join C (pth a cherry)) : C' = join B (pth (a ++ [c]) .leaf) := by
  have e : pth (a ++ [c]) Tr.leaf = pth a cherry := by
    rw [pth_app]
    show pth a (if c = 108 then .node .leaf .leaf else .node .leaf .leaf) = _
    split <;> rfl
  rw [h', h, join_assoc, pth_join, leaf_join, e]
theorem walk_top {B : Tr} {a : List Nat} {C : Tr} (h : C = join B (pth a .leaf)) {C' : Tr} (h' : C' = join C (pth a cherry)) (r : Bool) {C2 : Tr} (h2 : C2 = join C' (pth (a ++ [if r = true then 108 else 114]) cherry)) : C2 = join B (stp r a) := by
  rw [h2, h', h, join_assoc, join_assoc, pth_app, ← join_assoc (pth a .leaf), pth_join, pth_join, leaf_join]
  cases r <;> rfl
end LT
/-! ### moves -/
def mvF (A B p : Tr) : Option Tr := (hang p A).map B.grow
def mulT (a b : Tr × Tr) : Tr × Tr := (a.1.grow ((hang (join a.2 b.1) a.2).getD []), b.2.grow ((hang (join a.2 b.1) b.1).getD []))
theorem mul_parts {A B C D : Tr} (h1 : A.lvs = B.lvs) (h2 : C.lvs = D.lvs) : ∃ us ws, hang (join B C) B = some us ∧ hang (join B C) C = some ws ∧ us.length = A.lvs ∧ us.length = B.lvs ∧ ws.length = C.lvs ∧ ws.length = D.lvs ∧
    mulT (A, B) (C, D) = (A.grow us, D.grow ws) ∧ join B C = B.grow us ∧ join B C = C.grow ws := by
  obtain ⟨us, hus⟩ := hang_join B C
  obtain ⟨ws, hws⟩ := hang_join C B
  rw [join_comm] at hws
  have l1 := hang_len _ _ _ hus
  have l2 := hang_len _ _ _ hws
  refine ⟨us, ws, hus, hws, by omega, l1, l2, by omega, ?_, (grow_hang hus).symm, (grow_hang hws).symm⟩
  unfold mulT
  rw [hus, hws]; rfl
theorem mul_tells {A B C D : Tr} (h1 : A.lvs = B.lvs) (h2 : C.lvs = D.lvs) : Tells (fun p => (mvF A B p).bind (mvF C D)) (mulT (A, B) (C, D)).1 (mulT (A, B) (C, D)).2 := by
  obtain ⟨us, ws, hus, hws, l1, l2, l3, l4, e, j1, j2⟩ := mul_parts h1 h2
  rw [e]
  have hl : (A.grow us).lvs = (D.grow ws).lvs := by
    have a := lvs_grow (t := A) (xs := us) l1
    have b := lvs_grow (t := B) (xs := us) l2
    have c := lvs_grow (t := C) (xs := ws) l3
    have d := lvs_grow (t := D) (xs := ws) l4
    rw [← j1] at b; rw [← j2] at c
    omega
  refine ⟨hl, fun p => ?_⟩
  show ((hang p A).map B.grow).bind (mvF C D) = _
  cases hp : hang p A with
  | none =>
    have : hang p (A.grow us) = none := by
      cases hq : hang p (A.grow us) with
      | none => rfl
      | some zs =>
        have h1 : (hang p A).isSome = true := hang_trans (b := A.grow us) (by rw [hq]; rfl) (by rw [hang_grow l1]; rfl)
        rw [hp] at h1; cases h1
    rw [this]; rfl
  | some ts =>
    have tl := hang_len _ _ _ hp
    have pg := grow_hang hp
    have e3 : hang p (A.grow us) = hang (B.grow ts) (join B C) := by rw [← pg, hang_grows (by omega) (by omega), j1, hang_grows (by omega) l2]
    rw [e3]
    show (hang (B.grow ts) C).map D.grow = _
    cases hc : hang (B.grow ts) C with
    | none =>
      have : hang (B.grow ts) (join B C) = none := by
        cases hq : hang (B.grow ts) (join B C) with
        | none => rfl
        | some zs =>
          have := (hang_some_join.mp (by rw [hq]; rfl : (hang (B.grow ts) (join B C)).isSome = true)).2
          rw [hc] at this; cases this
      rw [this]; rfl
    | some cs =>
      have cl := hang_len _ _ _ hc
      have hs : (hang (B.grow ts) (join B C)).isSome = true := hang_some_join.mpr ⟨by rw [hang_grow (by omega)]; rfl, by rw [hc]; rfl⟩
      obtain ⟨zs, hz⟩ := Option.isSome_iff_exists.mp hs
      rw [hz]
      have cg := grow_hang hc
      have e4 : hang (B.grow ts) (join B C) = hang (D.grow cs) (D.grow ws) := by rw [← cg, j2, hang_grows (by omega) l3, hang_grows (by omega) l4]
      rw [hz] at e4
      have := grow_hang e4.symm
      show some (D.grow cs) = some ((D.grow ws).grow zs)
      rw [this]
theorem mul_bounds {A B C D : Tr} (h1 : A.lvs = B.lvs) (h2 : C.lvs = D.lvs) : (mulT (A, B) (C, D)).1.size ≤ A.size + C.size ∧ (mulT (A, B) (C, D)).2.size = (mulT (A, B) (C, D)).1.size ∧ (mulT (A, B) (C, D)).1.hgt ≤ A.hgt + max B.hgt C.hgt ∧ (mulT (A, B) (C, D)).2.hgt ≤ D.hgt + max B.hgt C.hgt := by
  obtain ⟨us, ws, hus, hws, l1, l2, l3, l4, e, j1, j2⟩ := mul_parts h1 h2
  have ht := (mul_tells h1 h2).1
  have s1 := size_join_le B C
  have s2 := grow_size_lvs h1
  have s3 : (A.grow us).size = (D.grow ws).size := by have := grow_size_lvs ht; rw [e] at this; exact this
  rw [e]
  have a := lvs_grow (t := A) (xs := us) l1
  have b := lvs_grow (t := B) (xs := us) l2
  rw [← j1] at b
  have s4 : (A.grow us).size = (join B C).size := grow_size_lvs (by omega)
  have j := join_hgt B C
  have g1 := grow_hgt (M := (join B C).hgt) A us fun x hx => hang_hgt _ _ _ hus x hx
  have g2 := grow_hgt (M := (join B C).hgt) D ws fun x hx => hang_hgt _ _ _ hws x hx
  show (A.grow us).size ≤ _ ∧ (D.grow ws).size = (A.grow us).size ∧ (A.grow us).hgt ≤ _ ∧ (D.grow ws).hgt ≤ _
  exact ⟨by omega, by omega, by omega, by omega⟩
theorem mvF_none {A B p : Tr} : mvF A B p = none ↔ hang p A = none := by unfold mvF; cases hang p A <;> simp
/-- one move is below another -/
def leT (a b : Tr × Tr) : Bool := (hang a.1 b.1).isSome && decide (hang a.1 b.1 = hang a.2 b.2)
end TT

set_option Elab.async false
set_option linter.all false
set_option maxRecDepth 100000
set_option maxHeartbeats 4000000
/-! TB: defs called by their arguments' names alone, in any order. -/
namespace TB
open PySem PySem.Spec PyProof.Rows L2
theorem vals_getD : ∀ {zs : List V} {ws : List Value}, Vals zs ws → ∀ i, RelV (zs.getD i .non) (ws.getD i .none)
  | _, _, .nil, i => rfl
  | _, _, .cons h r, 0 => h
  | _, _, .cons h r, i + 1 => vals_getD r i
theorem vals_perm {zs : List V} {ws : List Value} (h : Vals zs ws) : ∀ p : List Nat, Vals (p.map fun i => zs.getD i .non) (p.map fun i => ws.getD i .none)
  | [] => .nil
  | i :: p => .cons (vals_getD h i) (vals_perm h p)
/-- p: for each parameter the place of its keyword -/
theorem kbn {K : PySem.W.Frag} {x qual : Str} {st : Stmt} {f : Addr} {fd : FuncData} {ps : List Str} (F : Fun K x qual st f fd) (ks : List Str) (p : List Nat)
    (h : ∀ (kV doc pm : Value) (an : Option Addr) (cdv ct : Value) (ws : List Value), ws.length = ks.length → bindArgs (PySem.W.fnOf x qual (defArgs st) (defBody st) (defScope st) .none kV doc pm an cdv ct) ⟨[], ks.zip ws⟩ = pure (ps.zip (p.map fun i => ws.getD i .none))) :
    KBn K fd ps 0 ks (fun _ ws => p.map fun i => ws.getD i .none) (fun _ zs => p.map fun i => zs.getD i .non) := by
  obtain ⟨oc, od, kV, doc, pm, an, cdv, ct, osl, rfl, lk, hcd⟩ := F.ex
  refine ⟨fun s us ws _ l1 l2 => ?_, fun _ r => vals_perm r p⟩
  obtain rfl : us = [] := List.eq_nil_of_length_eq_zero l1
  exact .of_eq (h kV doc pm an cdv ct ws l2)
def tCallK (m : Nat) (sp : Sp) (gV : List V → List V → List V) (E : XK) (tk : TA) : TE := fun σ H Q => tk σ H fun zs H2 => zs.length = m ∧ sp (gV [] zs) H2 Q E
section
variable {X : Cx} {CX : CXT} {k : Nat} {f : Addr} {fd : FuncData} {ps ks : List Str} {sp : Sp} {E : XK} {x : Str} {p pos : Pos} {kws : List Keyword} {tk : TA} {g : List Value → List Value → List Value} {gV : List V → List V → List V}
/-- f(k = v, ..) -/
theorem pe_callK0 (F : FnOk X.prog X.w X.K X.mg X.base CX k f fd ps sp) (hr : Room k X.A) (hg : Gl X x) (hm : X.mg x = some (.ref f)) (hk : PySem.W.keepIn X.K (.ref f) = true) (hb : KBn X.K fd ps 0 ks g gV) (hx : Passes CX X E)
    (hkw : PK X kws tk) (hall : (backToKw pos (keywordEach kws X.env)).all (·.1.isSome) = true := by rfl) (hks : (backToKw pos (keywordEach kws X.env)).filterMap (·.1) = ks := by rfl)
    (hdb : (x == ("__debug__" : Str)) = false := by decide)
    (hpl : ((backTo pos (starEach [] X.env)).any (·.1) || (backToKw pos (keywordEach kws X.env)).any (·.1.isNone)) = false := by rfl) :
    PE X (.Call (.Name x p) [] kws pos) (tCallK ks.length sp gV E tk) := by
  refine ⟨fun pins s σ H Q I h => ?_⟩
  refine wpAny_Call_Name_kw (ld_glob I hg hm ?_ hdb)
  refine PySem.W.callWith_KW0 (h₀ := X.base) I.ok.mod.kin hk hall ?_ hpl
  refine thn (hkw.run pos pins s σ H _ I h) fun ws s2 ⟨zs, H2, I2, rz, l2, q2⟩ => ⟨I2.kIn, ?_⟩
  rw [hks]
  exact run_fnN (us := []) (vs := []) F hr hb hx I2 .nil rz rfl l2 q2
end
end TB

set_option Elab.async false
set_option linter.all false
set_option maxRecDepth 100000
set_option maxHeartbeats 4000000
/-! TOw: the operators that an own class has, its static methods, its calls, its repr. -/
namespace OW
open PySem PySem.Spec PyProof.Rows L2
/-- the class at C has the def at g under the name m -/
structure Own (K : PySem.W.Frag) (C : Addr) (m : Str) (g : Addr) : Prop where
  at_ : PySem.W.findIn K (.ref C) m = some (some (.ref g))
  fn : PySem.W.isFn K (.ref g) = true
/-- an instance of the class at C -/
def IsC (H : Hp) (C : Addr) (x : V) : Prop := ∃ a dx fs, x = .ref a ∧ H a = some (.ins C dx fs)
section
variable {X : Cx} {CX : CXT} {pins : List (Addr × Obj)} {σ : L2.St} {H : Hp} {s : Shared} {a C dx g : Addr} {fs : List (Str × V)} {k : Nat} {fd : FuncData} {ps : List Str} {sp : Sp} {E : XK} {us : List Value} {vs : List V} {Q : VK}
theorem inst_at (I : Inv X pins σ H s) (h : H a = some (.ins C dx fs)) : ∃ ox od, PySem.W.InstAt s.heap a ox C (some od) ∧ ox.data = .plain := by
  obtain ⟨mA, O, _⟩ := ins_get I.hok h
  obtain ⟨od, J, _⟩ := O.look
  exact ⟨_, _, J, rfl⟩
theorem vr1 (a : Addr) : Vals [V.ref a] [Value.ref a] := .cons rfl .nil
theorem vr2 (a b : Addr) : Vals [V.ref a, V.ref b] [Value.ref a, Value.ref b] := .cons rfl (.cons rfl .nil)
theorem run1 (F : FnOk X.prog X.w X.K X.mg X.base CX k g fd ps sp) (hr : Room k X.A) (hb : Binds X.K fd ps []) (hx : Passes CX X E) (I : Inv X pins σ H s) (r : Vals vs us) (h : sp vs H Q E) :
    wpAny (model X.prog X.w) X.A (call (.ref g) us) (EP X pins σ Q) X.xe s := run_fn F hr hb .nil hx I r (by rw [List.append_nil]; exact h)
/-- .. below a built-in -/
theorem run1in (F : FnOk X.prog X.w X.K X.mg X.base CX k g fd ps sp) (hr : Room (k + 1) X.A) (hb : Binds X.K fd ps []) (hx : Passes CX X E) (I : Inv X pins σ H s) (r : Vals vs us) (h : sp vs H Q E) :
    wpAny (model X.prog X.w) X.A.in1 (call (.ref g) us) (EP X pins σ Q) X.xe s := by
  have hl : (us ++ []).length = ps.length := by rw [List.append_nil, ← r.length]; exact F.len _ _ _ _ h
  have b := hb s us I.kIn hl
  rw [List.append_nil] at b
  refine wpAny_call (codeAny_mono (F.run X.A.in1 X.stack s H ⟨us, []⟩ us vs Q E hr.in1 I.env0.in1 b r h) fun r s' hq => ?_)
  cases r with
  | error e => exact hx pins σ H s e s' I hq
  | ok fl =>
    cases fl with
    | ret u => exact I.after hq
    | next => exact False.elim hq
    | brk => exact False.elim hq
    | cont => exact False.elim hq
theorem back {v : Value} {s' : Shared} (z : EP X pins σ Q v s') : PySem.W.CmpBack (EP X pins σ Q) v s' := by
  obtain ⟨w, H', I', rw', q⟩ := z
  exact SlX.cmpback rw' ⟨w, H', I', rw', q⟩
end
/-! ### two of the class -/
def rOwn2 (C : Addr) (sp : Sp) (E : XK) : R2 := fun x y H Q => IsC H C x ∧ IsC H C y ∧ sp [x, y] H Q E
section
variable {X : Cx} {CX : CXT} {C g : Addr} {k : Nat} {fd : FuncData} {ps : List Str} {sp : Sp} {E : XK}
theorem op_own2 {op : Operator} (sf : PySem.W.selfFirst X.K C = true) (o : Own X.K C (PySem.dunder op.info.2) g) (F : FnOk X.prog X.w X.K X.mg X.base CX k g fd ps sp) (hr : Room k X.A) (hb : Binds X.K fd ps []) (hx : Passes CX X E) : OpR X (binaryOp op) (rOwn2 C sp E) := by
  intro pins s σ H x y v u Q I rx ry h
  obtain ⟨⟨a, dx, fs, rfl, ha⟩, ⟨b, dy, gs, rfl, hb'⟩, hsp⟩ := h
  cases rx
  cases ry
  obtain ⟨ox, od, J, _⟩ := inst_at I ha
  obtain ⟨oy, oe, J', _⟩ := inst_at I hb'
  obtain ⟨m, hF⟩ := I.fr
  exact PySem.W.binop_K hF I.ok.mod.kin J J'.type sf o.at_ o.fn (wpAny_mono (run1 F hr hb hx I (vr2 a b) hsp) (fun v s' z => back z) fun _ _ z => z)
theorem op_cmp2 {op : CmpOp} (hu : X.A.units < cLine) (o : Own X.K C (cmpInfo op).2.1 g) (F : FnOk X.prog X.w X.K X.mg X.base CX k g fd ps sp) (hr : Room k X.A) (hb : Binds X.K fd ps []) (hx : Passes CX X E) : OpR X (richCompare op) (rOwn2 C sp E) := by
  intro pins s σ H x y v u Q I rx ry h
  obtain ⟨⟨a, dx, fs, rfl, ha⟩, ⟨b, dy, gs, rfl, hb'⟩, hsp⟩ := h
  cases rx
  cases ry
  obtain ⟨ox, od, J, _⟩ := inst_at I ha
  obtain ⟨oy, oe, J', _⟩ := inst_at I hb'
  obtain ⟨m, hF⟩ := I.fr
  exact PySem.W.cmp_K (tb := .ref C) hu hF I.ok.mod.kin J J'.type (by simp [PySem.W.notFirst]) o.at_ o.fn (wpAny_mono (run1 F hr hb hx I (vr2 a b) hsp) (fun v s' z => back z) fun _ _ z => z)
theorem op_eq2 (hu : X.A.units < cLine) (o : Own X.K C "__eq__" g) (F : FnOk X.prog X.w X.K X.mg X.base CX k g fd ps sp) (hr : Room k X.A) (hb : Binds X.K fd ps []) (hx : Passes CX X E) : OpR X (compareOp .Eq) (rOwn2 C sp E) := op_cmp2 (op := .Eq) hu o F hr hb hx
theorem op_le2 (hu : X.A.units < cLine) (o : Own X.K C "__le__" g) (F : FnOk X.prog X.w X.K X.mg X.base CX k g fd ps sp) (hr : Room k X.A) (hb : Binds X.K fd ps []) (hx : Passes CX X E) : OpR X (compareOp .LtE) (rOwn2 C sp E) := op_cmp2 (op := .LtE) hu o F hr hb hx
theorem op_lt2 (hu : X.A.units < cLine) (o : Own X.K C "__lt__" g) (F : FnOk X.prog X.w X.K X.mg X.base CX k g fd ps sp) (hr : Room k X.A) (hb : Binds X.K fd ps []) (hx : Passes CX X E) : OpR X (compareOp .Lt) (rOwn2 C sp E) := op_cmp2 (op := .Lt) hu o F hr hb hx
theorem op_ge2 (hu : X.A.units < cLine) (o : Own X.K C "__ge__" g) (F : FnOk X.prog X.w X.K X.mg X.base CX k g fd ps sp) (hr : Room k X.A) (hb : Binds X.K fd ps []) (hx : Passes CX X E) : OpR X (compareOp .GtE) (rOwn2 C sp E) := op_cmp2 (op := .GtE) hu o F hr hb hx
theorem op_gt2 (hu : X.A.units < cLine) (o : Own X.K C "__gt__" g) (F : FnOk X.prog X.w X.K X.mg X.base CX k g fd ps sp) (hr : Room k X.A) (hb : Binds X.K fd ps []) (hx : Passes CX X E) : OpR X (compareOp .Gt) (rOwn2 C sp E) := op_cmp2 (op := .Gt) hu o F hr hb hx
/-- ~x -/
theorem un_inv1 (o : Own X.K C "__invert__" g) (F : FnOk X.prog X.w X.K X.mg X.base CX k g fd ps sp) (hr : Room k X.A) (hb : Binds X.K fd ps []) (hx : Passes CX X E) : UnR X (unaryOp .Invert) (fun x H Q => IsC H C x ∧ sp [x] H Q E) := by
  intro pins s σ H x v Q I rx h
  obtain ⟨⟨a, dx, fs, rfl, ha⟩, hsp⟩ := h
  cases rx
  obtain ⟨ox, od, J, _⟩ := inst_at I ha
  obtain ⟨m, hF⟩ := I.fr
  exact PySem.W.ksp_inv hF I.ok.mod.kin J o.at_ o.fn (run1 F hr hb hx I (vr1 a) hsp)
end
/-! ### x != y without an own __ne__ -/
section
variable {prog : Program} {w : World} {A : Around} {E : Value → Shared → Prop} {s : Shared} {K : PySem.W.Frag} {x y C f : Addr} {ox : Obj} {od : Option Obj}
theorem ne_bind (self : Value) : bindSpecial (.builtin "object.__ne__") self = pure (.builtin "object.__ne__", [self]) :=
  (Slot.of (T := "object") (name := "__ne__") (owner := "object") (n := "__ne__") (by rw [typeLookup_type, builtinLookup_eq_fast]; kernel_rfl) (by decide +kernel) (by decide +kernel) (by decide +kernel)
    (.inl (by decide +kernel)) (by rw [isSubtype_type]; kernel_rfl)).bind self
theorem ne_plain : plainId "object.__ne__" = true := by decide +kernel
theorem ifBoundB {M : Model} {id : String} {name : Str} {args : List Value} {Q : Option Value → Shared → Prop} (X : K.In s.heap) (I : PySem.W.InstAt s.heap x ox C od) (hs : PySem.W.findIn K (.ref C) name = some (some (.builtin id))) (hb : ∀ self, bindSpecial (.builtin id) self = pure (.builtin id, [self]))
    (h : wpAny M A (call (.builtin id) (.ref x :: args)) (fun v => Q (some v)) E s) : wpAny M A (callSpecialIfBound? (.ref x) name args) Q E s := by
  simp only [callSpecialIfBound?, bindSpecialIfBound?]
  refine wpAny_holding (wpAny_bind (wpAny_bind (wpAny_bind (I.type.here ((PySem.W.looks_findIn X hs).here ?_)))))
  simp only [hb]
  refine wpAny_bind (wpAny_askSetting (wpAny_ite ?_))
  have fin : wpAny M A (call (.builtin id) ([.ref x] ++ args) >>= fun v => pure (some v)) Q E s := wpAny_bind (wpAny_mono h (fun v s' h' => wpAny_pure h') fun _ _ h' => h')
  split
  · exact wpAny_bind (wpAny_pure (wpAny_pure fin))
  · exact wpAny_tryCatch (wpAny_bind (wpAny_pure (wpAny_pure fin)))
theorem ne_entry {Q : Fin → Shared → Prop} (hu : A.units < cLine) (X : K.In s.heap) (I : PySem.W.InstAt s.heap x ox C od) (hs : PySem.W.findIn K (.ref C) "__eq__" = some (some (.ref f))) (hf : PySem.W.isFn K (.ref f) = true)
    (hcall : wpAny (model prog w) A (call (.ref f) [.ref x, .ref y]) (fun v s' => ∃ b, v = .bool b ∧ Q (.done (.ret (.bool (!b)))) s') E s) : wpAny (model prog w) A (Builtin.«object.__ne__» ⟨[.ref x, .ref y], []⟩) Q E s := by
  unfold Builtin.«object.__ne__»
  repeat (first
    | with_reducible refine wpAny_cRoomFor hu ?_
    | (refine wpAny_bind (m := callSpecialIfBound? (.ref x) (Str.ofString "__eq__") [.ref y])
        (PySem.W.ifBound_K X I hs hf (wpAny_mono hcall (fun r s' hr => by
          obtain ⟨b, rfl, hq⟩ := hr
          repeat (first | exact hq | exact wpAny_pure hq | exact wpAny_truthy_bool hq | (refine wpAny_bind (m := truthy (.bool _)) (wpAny_truthy_bool ?_)) | wp_step)) fun _ _ e => e)))
    | wp_step)
theorem ne_own {Q : Value → Shared → Prop} (hu : A.units + 1 < cLine) (X : K.In s.heap) (I : PySem.W.InstAt s.heap x ox C od) (hy : PySem.W.Looks (model prog w) s.heap (typeOf (.ref y)) (.ref C)) (hob : PySem.W.mroIn K C (.type "object") = some true) (hn : PySem.W.findIn K (.ref C) "__ne__" = some (some (.builtin "object.__ne__")))
    (hs : PySem.W.findIn K (.ref C) "__eq__" = some (some (.ref f))) (hf : PySem.W.isFn K (.ref f) = true)
    (hcall : wpAny (model prog w) A.in1 (call (.ref f) [.ref x, .ref y]) (fun v s' => ∃ b, v = .bool b ∧ Q (.bool (!b)) s') E s) : wpAny (model prog w) A (richCompare .NotEq (.ref x) (.ref y)) Q E s := by
  unfold richCompare
  simp only [oneThing_ref]
  refine wpAny_holding (wpAny_bind (wpAny_cRoomFor (Nat.lt_of_succ_lt hu) ?_))
  rw [cmpInfo_NotEq]
  dsimp only
  refine wpAny_bind (I.type.here (wpAny_bind (hy.here ?_)))
  rw [show (Value.ref C != Value.ref C) = false from by simp]
  simp only [Bool.false_eq_true, if_false]
  refine wpAny_bind (wpAny_pure ?_)
  simp only [Bool.false_eq_true, if_false]
  have one : wpAny (model prog w) A (tryCompare (.ref x) "__ne__" (.ref y)) (fun r s' => ∃ b, r = some (.bool b) ∧ Q (.bool b) s') E s := by
    simp only [tryCompare]
    have isi : PySem.W.Looks (model prog w) s.heap (isInstance (.ref x) (.type "object")) true := (I.type).andThen (PySem.W.looks_mroIn X hob)
    refine wpAny_bind (ifBoundB X I hn ne_bind (wpAny_call (codeAny_call_builtin ne_plain F.cmpEntry_ne (PySem.W.check_slot F.cmpKind_ne F.cmpSplit_ne isi (F.cmpArgs_ne _ _) ?_))))
    refine ne_entry (A := A.in1) hu X I hs hf (wpAny_mono hcall (fun v s' hv => ?_) fun _ _ e => e)
    obtain ⟨b, rfl, hq⟩ := hv
    first | exact ⟨b, rfl, wpAny_pure ⟨_, rfl, hq⟩⟩ | exact ⟨b, rfl, wpAny_pure (wpAny_pure ⟨_, rfl, hq⟩)⟩
  refine wpAny_bind (wpAny_mono one (fun r s' z => ?_) fun _ _ e => e)
  obtain ⟨b, rfl, hq⟩ := z
  exact wpAny_pure hq
end
section
variable {X : Cx} {CX : CXT} {C g : Addr} {k : Nat} {fd : FuncData} {ps : List Str} {sp : Sp} {E : XK}
def rOwnNe (C : Addr) (sp : Sp) (E : XK) : R2 := fun x y H Q => IsC H C x ∧ IsC H C y ∧ sp [x, y] H (fun v H' => ∃ b, v = .bl b ∧ Q (.bl (!b)) H') E
/-- what != asks of the class -/
structure NeC (K : PySem.W.Frag) (C : Addr) : Prop where
  ob : PySem.W.mroIn K C (.type "object") = some true
  ne : PySem.W.findIn K (.ref C) "__ne__" = some (some (.builtin "object.__ne__"))
theorem op_ne2 (n : NeC X.K C) (o : Own X.K C "__eq__" g) (F : FnOk X.prog X.w X.K X.mg X.base CX k g fd ps sp) (hr : Room (k + 1) X.A) (hb : Binds X.K fd ps []) (hx : Passes CX X E) : OpR X (compareOp .NotEq) (rOwnNe C sp E) := by
  intro pins s σ H x y v u Q I rx ry h
  obtain ⟨⟨a, dx, fs, rfl, ha⟩, ⟨b, dy, gs, rfl, hb'⟩, hsp⟩ := h
  cases rx
  cases ry
  obtain ⟨ox, od, J, _⟩ := inst_at I ha
  obtain ⟨oy, oe, J', _⟩ := inst_at I hb'
  have hu : X.A.units + 1 < cLine := Nat.lt_of_le_of_lt (Nat.add_le_add_left (by decide : 1 ≤ 64) _) hr.units
  refine ne_own hu I.kIn J J'.type n.ob n.ne o.at_ o.fn (wpAny_mono (run1in F hr hb hx I (vr2 a b) hsp) (fun v s' z => ?_) fun _ _ z => z)
  obtain ⟨w, H', I', rw', k', e, q⟩ := z
  subst e
  cases rw'
  exact ⟨k', rfl, .bl (!k'), H', I', rfl, q⟩
end
/-! ### C.m(..), m a static method -/
structure SMet (K : PySem.W.Frag) (C : Addr) (mc : Value) (m : Str) (p g : Addr) : Prop where
  at_ : PySem.W.findCls K (.ref C) mc m = some (.get (.builtin "staticmethod.__get__") (.ref p) .none (.ref C))
  rc : ∃ rest, PySem.W.recIn K p "staticmethod" = some (.ref g :: rest)
  kp : PySem.W.keepIn K (.ref g) = true
def tSMeth (C : Addr) (sp : Sp) (E : XK) (ta : TE) (t : TA) : TE := fun σ H Q => ta σ H fun x H1 => x = .ref C ∧ t σ H1 fun vs H2 => sp vs H2 Q E
section
variable {X : Cx} {CX : CXT} {k : Nat} {C p g : Addr} {mc : Value} {fd : FuncData} {ps : List Str} {sp : Sp} {E : XK} {o e : Expr} {es : List Expr} {m : Str} {pos apos : Pos} {ta : TE} {t : TA} {pl : Sem Bool}
theorem getsm {pins : List (Addr × Obj)} {σ : L2.St} {H : Hp} {s : Shared} {Q : Value × List Value → Shared → Prop} {E' : Value → Shared → Prop} {A : Around} (I : Inv X pins σ H s) (r : ClX.CRead X.K C mc) (c : SMet X.K C mc m p g)
    (h : ∀ s', Inv X pins σ H s' → Q (.ref g, []) s') : wpAny (model X.prog X.w) A (getMethod (.ref C) m pl) Q E' s := by
  obtain ⟨rest, hp⟩ := c.rc
  refine PySem.W.method_cls I.kIn r.ga ?_
  refine PySem.W.cls_bind I.kIn r.rd c.at_ ?_
  exact wpAny_call (PySem.W.sm_get (s := { s with toks := s.toks + 1 }) I.kIn hp (PySem.W.handed_on rfl (h _ (I.tok _))))
theorem pe_smeth (he : PE X o ta) (r : ClX.CRead X.K C mc) (c : SMet X.K C mc m p g) (F : FnOk X.prog X.w X.K X.mg X.base CX k g fd ps sp) (hr : Room k X.A) (hb : Binds X.K fd ps []) (hx : Passes CX X E) (ha : PA X (e :: es) t)
    (hst : starEach (e :: es) X.env = (false, eval e X.env) :: starEach es X.env := by rfl) (hpl : (backTo pos (starEach es X.env)).any (·.1) = false := by rfl)
    (ht : eval (.Call (.Attribute o m apos) (e :: es) [] pos) X.env = (do
      let ov ← eval o X.env
      standAt apos.atName
      let (f, first) ← holding [ov] (getMethod ov m pl)
      callWith pos f first (backTo pos (starEach (e :: es) X.env)) (backToKw pos (keywordEach [] X.env))) := by rfl) :
    PE X (.Call (.Attribute o m apos) (e :: es) [] pos) (tSMeth C sp E ta t) := by
  refine ⟨fun pins s σ H Q I h => ?_⟩
  refine PySem.W.methodCall_KW (pl := pl) (thn (he.run pins s σ H _ I h) fun u s1 ⟨x, H1, I1, rx, ex, q⟩ => ?_) ht
  subst ex
  obtain rfl : u = Value.ref C := rx
  refine getsm I1 r c fun s2 I2 => ?_
  refine PySem.W.callWith_K (first := []) (h₀ := X.base) I.ok.mod.kin c.kp (thn (ha.run pos pins s2 σ H1 _ I2 q) fun us s3 ⟨vs, H2, I3, rv, q2⟩ => ⟨I3.kIn, ?_⟩) hst hpl
  exact run1 F hr hb hx I3 rv q2
end
/-! ### o(..) -/
structure CallC (K : PySem.W.Frag) (C g : Addr) : Prop where
  at_ : PySem.W.findIn K (.ref C) "__call__" = some (some (.ref g))
  fn : PySem.W.isFn K (.ref g) = true
  fi : PySem.W.fnIn K g = true
def tCallI (C : Addr) (sp : Sp) (E : XK) (tf : TE) (t : TA) : TE := fun σ H Q => tf σ H fun y H1 => ∃ a, y = .ref a ∧ t σ H1 fun vs H2 => IsC H2 C (.ref a) ∧ sp (.ref a :: vs) H2 Q E
section
variable {X : Cx} {CX : CXT} {k : Nat} {C g : Addr} {fd : FuncData} {ps : List Str} {sp : Sp} {E : XK} {fe e : Expr} {es : List Expr} {pos : Pos} {tf : TE} {t : TA}
theorem pe_callI (hf : PE X fe tf) (c : CallC X.K C g) (F : FnOk X.prog X.w X.K X.mg X.base CX k g fd ps sp) (hr : Room k X.A) (hb : Binds X.K fd ps []) (hx : Passes CX X E) (ha : PA X (e :: es) t)
    (ht : eval (.Call fe (e :: es) [] pos) X.env = (do callWith pos (← eval fe X.env) [] (backTo pos (starEach (e :: es) X.env)) (backToKw pos (keywordEach [] X.env))) := by rfl)
    (he : starEach (e :: es) X.env = (false, eval e X.env) :: starEach es X.env := by rfl) (hpl : (backTo pos (starEach es X.env)).any (·.1) = false := by rfl) : PE X (.Call fe (e :: es) [] pos) (tCallI C sp E tf t) := by
  refine ⟨fun pins s σ H Q I h => ?_⟩
  refine Call_ (thn (hf.run pins s σ H _ I h) fun u s1 ⟨y, H1, I1, ry, a, ey, q⟩ => ?_) ht
  subst ey
  obtain rfl : u = Value.ref a := ry
  refine StX.callO_with (thn (ha.run pos pins s1 σ H1 _ I1 q) fun us s2 ⟨vs, H2, I2, r, ⟨b, dx, fs, eb, hi⟩, q2⟩ => ?_) he hpl
  cases eb
  obtain ⟨ox, od, J, hd⟩ := inst_at I2 hi
  refine ⟨⟨C, ox, some od, J, hd⟩, ?_⟩
  have r2 : Vals (V.ref a :: vs) (Value.ref a :: us) := .cons rfl r
  have hl : ((Value.ref a :: us) ++ []).length = ps.length := by rw [List.append_nil, ← r2.length]; exact F.len _ _ _ _ q2
  have b := hb s2 (Value.ref a :: us) I2.kIn hl
  rw [List.append_nil] at b
  refine wpAny_call (PySem.W.kco_code I2.kIn J hd c.at_ c.fn c.fi (codeAny_mono (F.run X.A X.stack s2 H2 ⟨Value.ref a :: us, []⟩ (Value.ref a :: us) (V.ref a :: vs) Q E hr I2.env0 b r2 q2) fun r s' hq => ?_))
  cases r with
  | error e => exact hx pins σ H2 s2 e s' I2 hq
  | ok fl =>
    cases fl with
    | ret u => exact I2.after hq
    | next => exact False.elim hq
    | brk => exact False.elim hq
    | cont => exact False.elim hq
end
/-! ### repr(x), x an instance with an own __repr__ -/
def rReprO (C : Addr) (sp : Sp) (E : XK) : List V → Hp → VK → Prop := fun xs H Q => ∃ x, xs = [x] ∧ IsC H C x ∧ sp [x] H (fun v H' => ∃ z, v = .str z ∧ Q (.str z) H') E
section
variable {X : Cx} {CX : CXT} {C g : Addr} {k : Nat} {fd : FuncData} {ps : List Str} {sp : Sp} {E : XK}
theorem cr_reprO (o : Own X.K C "__repr__" g) (F : FnOk X.prog X.w X.K X.mg X.base CX k g fd ps sp) (hr : Room (k + 1) X.A) (hb : Binds X.K fd ps []) (hx : Passes CX X E) : CallR X (.builtin "repr") (rReprO C sp E) := by
  intro pins s σ H xs us Q I r h
  obtain ⟨x, rfl, ⟨a, dx, fs, rfl, ha⟩, hsp⟩ := h
  obtain ⟨u, rfl, ru⟩ := vals1 r
  cases ru
  obtain ⟨ox, od, J, _⟩ := inst_at I ha
  obtain ⟨m, hF⟩ := I.fr
  have hu : X.A.in1.units < cLine := Nat.lt_of_le_of_lt (Nat.add_le_add_left (by decide : 1 ≤ 64) _) hr.units
  refine PySem.W.repr_K hu hF I.ok.mod.kin J o.at_ o.fn (wpAny_mono (run1in F hr hb hx I (vr1 a) hsp) (fun v s' z => ?_) fun _ _ z => z)
  obtain ⟨w, H', I', rw', k', e, q⟩ := z
  subst e
  obtain ⟨t, rfl⟩ := rw'
  exact ⟨.str k', H', I', ⟨t, rfl⟩, q⟩
/-- two rules for one call -/
theorem CallR.or {f : Value} {r r' : List V → Hp → VK → Prop} (h : CallR X f r) (h' : CallR X f r') : CallR X f (fun xs H Q => r xs H Q ∨ r' xs H Q) := by
  intro pins s σ H xs us Q I rx q
  rcases q with q | q
  · exact h pins s σ H xs us Q I rx q
  · exact h' pins s σ H xs us Q I rx q
end
/-! ### isinstance(x, C) of an instance -/
structure TyC (K : PySem.W.Frag) (C : Addr) : Prop where
  ha : PySem.W.findIn K (.ref C) "__class__" = some (some (.builtin "object.__class__"))
  hn : PySem.W.specialIn K (.builtin "object.__class__") "__get__" = some (some (.builtin "getset_descriptor.__get__"))
  htk : PySem.W.takesIn K (.builtin "object.__class__") = some true
  hm : PySem.W.mroIn K C (.type "object") = some true
theorem kitSame {K : PySem.W.Frag} {C : Addr} : PySem.W.kitOne K (.ref C) (.ref C) = some true := by
  unfold PySem.W.kitOne
  rw [if_pos (beq_self_eq_true _)]
theorem tyOf {K : PySem.W.Frag} {H : Hp} {C a dx : Addr} {fs : List (Str × V)} (e : H a = some (.ins C dx fs)) (cl : Cls K C) (t : TyC K C) : TyX K H (.ref a) (.ref C) := .base (.ins e cl t.ha t.hn t.htk t.hm)
theorem isi_own {K : PySem.W.Frag} {H : Hp} {C a dx : Addr} {fs : List (Str × V)} {Q : VK} (e : H a = some (.ins C dx fs)) (cl : Cls K C) (t : TyC K C) (q : Q (.bl true) H) : rIsi K [.ref a, .ref C] H Q :=
  ⟨_, _, _, _, true, rfl, .own _, tyOf e cl t, kitSame, q⟩
end OW

set_option Elab.async false
set_option linter.all false
set_option maxRecDepth 100000
set_option maxHeartbeats 4000000
/-! TOx: o(..) and o.m(..) inside try; repr(x) of plain data or of an instance with an own repr. -/
namespace OW
open PySem PySem.Spec PyProof.Rows L2 TQ
def tCallIX (C : Addr) (sp : Sp) (W : WX) (tf : TE) (t : TA) : TE := fun σ H Q => tf σ H fun y H1 => ∃ a, y = .ref a ∧ t σ H1 fun vs H2 => IsC H2 C (.ref a) ∧ sp (.ref a :: vs) H2 Q fun cls d H3 => W cls d σ H3
def tMethX (C : Addr) (m : Str) (sp : Sp) (W : WX) (ta : TE) (t : TA) : TE := fun σ H Q => ta σ H fun x H1 => ∃ a dx fs, x = .ref a ∧ H1 a = some (.ins C dx fs) ∧ fs.lookup m = none ∧
  t σ H1 fun vs H2 => sp (x :: vs) H2 Q fun cls d H3 => W cls d σ H3
section
variable {X : Cx} {k : Nat} {C g f : Addr} {fd : FuncData} {ps : List Str} {sp : Sp} {W : WX} {fe e o : Expr} {es : List Expr} {pos apos : Pos} {ta tf : TE} {t : TA} {m : Str}
theorem pe_callIX (hf : PE X fe tf) (c : CallC X.K C g) (F : FnOk X.prog X.w X.K X.mg X.base (L2.CX X.prog X.w) k g fd ps sp) (tk : Takes X W) (hr : Room k X.A) (hb : Binds X.K fd ps []) (ha : PA X (e :: es) t)
    (ht : eval (.Call fe (e :: es) [] pos) X.env = (do callWith pos (← eval fe X.env) [] (backTo pos (starEach (e :: es) X.env)) (backToKw pos (keywordEach [] X.env))) := by rfl)
    (he : starEach (e :: es) X.env = (false, eval e X.env) :: starEach es X.env := by rfl) (hpl : (backTo pos (starEach es X.env)).any (·.1) = false := by rfl) : PE X (.Call fe (e :: es) [] pos) (tCallIX C sp W tf t) := by
  refine ⟨fun pins s σ H Q I h => ?_⟩
  refine Call_ (thn (hf.run pins s σ H _ I h) fun u s1 ⟨y, H1, I1, ry, a, ey, q⟩ => ?_) ht
  subst ey
  obtain rfl : u = Value.ref a := ry
  refine StX.callO_with (thn (ha.run pos pins s1 σ H1 _ I1 q) fun us s2 ⟨vs, H2, I2, r, ⟨b, dx, fs, eb, hi⟩, q2⟩ => ?_) he hpl
  cases eb
  obtain ⟨ox, od, J, hd⟩ := inst_at I2 hi
  refine ⟨⟨C, ox, some od, J, hd⟩, ?_⟩
  have r2 : Vals (V.ref a :: vs) (Value.ref a :: us) := .cons rfl r
  have hl : ((Value.ref a :: us) ++ []).length = ps.length := by rw [List.append_nil, ← r2.length]; exact F.len _ _ _ _ q2
  have b := hb s2 (Value.ref a :: us) I2.kIn hl
  rw [List.append_nil] at b
  refine wpAny_call (PySem.W.kco_code I2.kIn J hd c.at_ c.fn c.fi (codeAny_mono (F.run X.A X.stack s2 H2 ⟨Value.ref a :: us, []⟩ (Value.ref a :: us) (V.ref a :: vs) Q _ hr I2.env0 b r2 q2) fun r s' hq => ?_))
  cases r with
  | error e => exact tk e s' (XE.of_call I2 (fun cls d H' w => w) hq)
  | ok fl =>
    cases fl with
    | ret u => exact I2.after hq
    | next => exact False.elim hq
    | brk => exact False.elim hq
    | cont => exact False.elim hq
theorem pe_methX {pl : Sem Bool} (he : PE X o ta) (c : Cls X.K C) (hm : Meth X.K C m f) (F : FnOk X.prog X.w X.K X.mg X.base (L2.CX X.prog X.w) k f fd ps sp) (tk : Takes X W) (hr : Room k X.A) (hb : Binds X.K fd ps []) (ha : PA X (e :: es) t)
    (hst : starEach (e :: es) X.env = (false, eval e X.env) :: starEach es X.env := by rfl) (hpl : (backTo pos (starEach es X.env)).any (·.1) = false := by rfl)
    (ht : eval (.Call (.Attribute o m apos) (e :: es) [] pos) X.env = (do
      let ov ← eval o X.env
      standAt apos.atName
      let (f, first) ← holding [ov] (getMethod ov m pl)
      callWith pos f first (backTo pos (starEach (e :: es) X.env)) (backToKw pos (keywordEach [] X.env))) := by rfl) :
    PE X (.Call (.Attribute o m apos) (e :: es) [] pos) (tMethX C m sp W ta t) := by
  refine ⟨fun pins s σ H Q I h => ?_⟩
  refine PySem.W.methodCall_KW (pl := pl) (thn (he.run pins s σ H _ I h) fun u s1 ⟨x, H1, I1, rx, a, dx, fs, ex, ea, l, q⟩ => ?_) ht
  subst ex
  obtain rfl : u = Value.ref a := rx
  refine getmeth_ok I1 ea c hm l ?_
  refine PySem.W.callWith_K (first := [.ref a]) (h₀ := X.base) I.ok.mod.kin hm.kp (thn (ha.run pos pins s1 σ H1 _ I1 q) fun us s2 ⟨vs, H2, I2, r, q2⟩ => ⟨I2.kIn, ?_⟩) hst hpl
  exact run_fnX (ds := []) (dvs := []) (us := .ref a :: us) (vs := .ref a :: vs) F tk hr hb .nil I2 (.cons rfl r) (by rw [List.append_nil]; exact q2)
end
def rReprA (C : Addr) (sp : Sp) (E : XK) : List V → Hp → VK → Prop := fun xs H Q => rReprV xs H Q ∨ rReprO C sp E xs H Q
theorem cr_reprA {X : Cx} {CX : CXT} {C g : Addr} {k : Nat} {fd : FuncData} {ps : List Str} {sp : Sp} {E : XK} (hg : X.A.guards = some []) (hu : X.A.units + 64 < cLine) (o : Own X.K C "__repr__" g) (F : FnOk X.prog X.w X.K X.mg X.base CX k g fd ps sp) (hr : Room (k + 1) X.A) (hb : Binds X.K fd ps []) (hx : Passes CX X E) : CallR X (.builtin "repr") (rReprA C sp E) :=
  (cr_reprV hg hu).or (cr_reprO o F hr hb hx)
theorem kit_ref {K : PySem.W.Frag} {C : Addr} {T : String} {l : List Value} (h1 : PySem.W.selfFirst K C = true) (h2 : PySem.W.typeIn K (.ref C) = some (.type "type")) (hl : fastBuiltinMro T = some l) (hc : l.contains (Value.ref C) = false) : PySem.W.kitOne K (.type T) (.ref C) = some false := by
  have hs : (PySem.W.clsIn K C).isSome = true := by
    unfold PySem.W.selfFirst at h1
    cases e : PySem.W.clsIn K C with
    | none => rw [e] at h1; cases h1
    | some _ => rfl
  unfold PySem.W.kitOne
  rw [if_neg (by intro z; cases (beq_iff_eq.mp z))]
  show (if ((PySem.W.clsIn K C).isSome && PySem.W.typeIn K (.ref C) == some (.type "type")) = true then PySem.W.subIn K (.type T) (.ref C) else none) = _
  rw [if_pos (by rw [hs, h2]; simp)]
  show (fastBuiltinMro T).map (·.contains (Value.ref C)) = _
  rw [hl]
  show some (l.contains (Value.ref C)) = _
  rw [hc]
theorem kit_mro {K : PySem.W.Frag} {C : Addr} {T : String} (hm : PySem.W.kitMeta T = true) (h : PySem.W.mroIn K C (.type T) = some false) : PySem.W.kitOne K (.ref C) (.type T) = some false := by
  unfold PySem.W.kitOne
  rw [if_neg (by intro z; cases (beq_iff_eq.mp z))]
  show (if PySem.W.kitMeta T = true then PySem.W.subIn K (.ref C) (.type T) else none) = _
  rw [if_pos hm]
  exact h
end OW

set_option linter.all false
/-! TP: pairs of leaves, and the widest move's trees, plainly. -/
namespace TT
open Tr
/-! ### growing twice -/
def growL : List Tr → List Tr → List Tr
  | [], _ => []
  | y :: ys, xs => y.grow (xs.take y.lvs) :: growL ys (xs.drop y.lvs)
theorem growL_len : ∀ ys xs : List Tr, (growL ys xs).length = ys.length
  | [], xs => rfl
  | y :: ys, xs => by simp [growL, growL_len ys]
theorem growL_app : ∀ (ys zs us vs : List Tr), us.length = (ys.map lvs).sum → growL (ys ++ zs) (us ++ vs) = growL ys us ++ growL zs vs
  | [], zs, us, vs, h => by
    have : us = [] := List.length_eq_zero_iff.mp (by simpa using h)
    subst this; rfl
  | y :: ys, zs, us, vs, h => by
    simp only [List.map_cons, List.sum_cons] at h
    simp only [List.cons_append, growL]
    rw [List.take_append_of_le_length (by omega), List.drop_append_of_le_length (by omega), growL_app ys zs _ vs (by rw [List.length_drop]; omega)]
theorem grow_grow : ∀ (t : Tr) (ys xs : List Tr), ys.length = t.lvs → xs.length = (ys.map lvs).sum → (t.grow ys).grow xs = t.grow (growL ys xs)
  | .leaf, ys, xs, h1, h2 => by
    obtain ⟨y, rfl⟩ := List.length_eq_one_iff.mp h1
    have h2 : xs.length = y.lvs := by simpa using h2
    rw [grow_leaf1]
    show _ = Tr.leaf.grow [y.grow (xs.take y.lvs)]
    rw [grow_leaf1, ← h2, List.take_length]
  | .node l r, ys, xs, h1, h2 => by
    obtain ⟨a, b, rfl, ha, hb⟩ := split_len h1
    rw [List.map_append, List.sum_append] at h2
    have e1 := lvs_grow ha
    have e2 := lvs_grow hb
    obtain ⟨u, v, rfl, hu, hv⟩ : ∃ u v, xs = u ++ v ∧ u.length = (a.map lvs).sum ∧ v.length = (b.map lvs).sum :=
      ⟨xs.take (a.map lvs).sum, xs.drop (a.map lvs).sum, (List.take_append_drop _ _).symm, by rw [List.length_take]; omega, by rw [List.length_drop]; omega⟩
    rw [grow_node l r a b ha hb, grow_node _ _ u v (by omega) (by omega), growL_app _ _ _ _ hu, grow_node l r _ _ (by rw [growL_len]; exact ha) (by rw [growL_len]; exact hb), grow_grow l a u ha hu, grow_grow r b v hb hv]
/-- the second pair grows into the first by one list -/
def Gr (A B C D : Tr) : Prop := ∃ xs, xs.length = C.lvs ∧ C.lvs = D.lvs ∧ A = C.grow xs ∧ B = D.grow xs
theorem Gr.refl {A B : Tr} (h : A.lvs = B.lvs) : Gr A B A B := ⟨List.replicate A.lvs .leaf, by simp, h, (grow_leaves A).symm, by rw [h, grow_leaves]⟩
theorem Gr.lvs {A B C D : Tr} (g : Gr A B C D) : A.lvs = B.lvs := by
  obtain ⟨xs, h1, h2, rfl, rfl⟩ := g
  rw [lvs_grow h1, lvs_grow (h1.trans h2)]
theorem Gr.trans {A B C D E F : Tr} (g : Gr A B C D) (h : Gr C D E F) : Gr A B E F := by
  obtain ⟨xs, h1, h2, rfl, rfl⟩ := g
  obtain ⟨ys, h3, h4, rfl, rfl⟩ := h
  rw [lvs_grow h3] at h1
  exact ⟨growL ys xs, by rw [growL_len, h3], h4, grow_grow _ _ _ h3 h1, grow_grow _ _ _ (h3.trans h4) h1⟩
theorem Gr.swap {A B C D : Tr} (g : Gr A B C D) : Gr B A D C := by
  obtain ⟨xs, h1, h2, e, f⟩ := g
  exact ⟨xs, h1.trans h2, h2.symm, f, e⟩
theorem Gr.size {A B C D : Tr} (g : Gr A B C D) : C.size ≤ A.size := by
  obtain ⟨xs, h1, h2, e, f⟩ := g
  rw [e]; exact hang_size_le (by rw [hang_grow h1]; rfl)
/-! ### two leaves side by side -/
theorem app_inj1 {p q : List Nat} {c d : Nat} (h : p ++ [c] = q ++ [d]) : p = q ∧ c = d := by
  have := List.append_inj' h rfl
  exact ⟨this.1, by simpa using this.2⟩
theorem lvA_ne (t : Tr) (a : List Nat) : t.lvA a ≠ [] := fun z => by
  have h1 := lvA_length t a
  have h2 := lvs_pos t
  rw [z] at h1
  simp at h1
  omega
theorem lvA_self : ∀ (t : Tr) (a : List Nat), a ∈ t.lvA a → t = .leaf
  | .leaf, a, _ => rfl
  | .node l r, a, h => by
    rcases List.mem_append.mp h with h | h
    · have := (lvA_pre l _ _ h).length_le
      simp at this; omega
    · have := (lvA_pre r _ _ h).length_le
      simp at this; omega
theorem pre_two {a p : List Nat} {c d : Nat} (h : a ++ [c] <+: p) (h' : a ++ [d] <+: p) : c = d := by
  obtain ⟨m, e⟩ := h
  obtain ⟨n, f⟩ := h'
  rw [← f, List.append_assoc, List.append_assoc] at e
  have := List.append_cancel_left e
  simpa using (List.cons.inj this).1
theorem pre_snoc {a p : List Nat} {c d : Nat} (h : a ++ [c] <+: p ++ [d]) : (p = a ∧ c = d) ∨ a ++ [c] <+: p := by
  rcases Nat.lt_or_ge p.length (a ++ [c]).length with l | l
  · have h1 := h.length_le
    simp only [List.length_append, List.length_singleton] at l h1
    have := h.eq_of_length (by simp only [List.length_append, List.length_singleton]; omega)
    obtain ⟨e, f⟩ := app_inj1 this
    exact .inl ⟨e.symm, f⟩
  · exact .inr ((List.prefix_append_right_inj []).mp (List.prefix_of_prefix_length_le h (List.prefix_append p [d]) l))
theorem collapse : ∀ (A : Tr) (a p : List Nat) (X Y : List (List Nat)), A.lvA a = X ++ ((p ++ [108]) :: (p ++ [114]) :: Y) →
    ∃ A' : Tr, A'.lvA a = X ++ p :: Y ∧ A = A'.grow (List.replicate X.length .leaf ++ cherry :: List.replicate Y.length .leaf)
  | .leaf, a, p, X, Y, h => by
    have := congrArg List.length h
    simp [lvA] at this
    omega
  | .node l r, a, p, X, Y, h => by
    have h : l.lvA (a ++ [108]) ++ r.lvA (a ++ [114]) = X ++ ((p ++ [108]) :: (p ++ [114]) :: Y) := h
    have hl := lvA_length l (a ++ [108])
    have hr := lvA_length r (a ++ [114])
    have right : ∀ X' : List (List Nat), X = l.lvA (a ++ [108]) ++ X' → r.lvA (a ++ [114]) = X' ++ ((p ++ [108]) :: (p ++ [114]) :: Y) → ∃ A' : Tr, A'.lvA a = X ++ p :: Y ∧ Tr.node l r = A'.grow (List.replicate X.length .leaf ++ cherry :: List.replicate Y.length .leaf) := fun X' e1 e2 => by
      obtain ⟨R, g1, g2⟩ := collapse r _ p X' Y e2
      have hR := lvA_length R (a ++ [114])
      rw [g1] at hR
      simp only [List.length_append, List.length_cons] at hR
      refine ⟨.node l R, by show l.lvA _ ++ R.lvA _ = _; rw [g1, e1, List.append_assoc], ?_⟩
      rw [e1, List.length_append, hl, ← List.replicate_append_replicate, List.append_assoc, grow_node l R _ _ (by simp) (by simp; omega), grow_leaves, ← g2]
    rcases List.append_eq_append_iff.mp h with ⟨X', e1, e2⟩ | ⟨bs, e1, e2⟩
    · exact right X' e1 e2
    · match bs, e1, e2 with
      | [], e1, e2 => exact right [] (by rw [e1, List.append_nil, List.append_nil]) e2.symm
      | [b], e1, e2 =>
        obtain ⟨rfl, e3⟩ : p ++ [108] = b ∧ (p ++ [114]) :: Y = r.lvA (a ++ [114]) := by simpa using e2
        have m1 : p ++ [108] ∈ l.lvA (a ++ [108]) := by rw [e1]; simp
        have m2 : p ++ [114] ∈ r.lvA (a ++ [114]) := by rw [← e3]; simp
        have pa : p = a := by
          rcases pre_snoc (lvA_pre l _ _ m1) with ⟨e, _⟩ | q1
          · exact e
          · rcases pre_snoc (lvA_pre r _ _ m2) with ⟨e, _⟩ | q2
            · exact e
            · exact absurd (pre_two q1 q2) (by decide)
        subst pa
        have le := lvA_self l _ m1
        have re := lvA_self r _ m2
        subst le
        subst re
        have hX : X = [] := by
          have := congrArg List.length e1
          simp [lvA] at this
          exact this
        have hY : Y = [] := by
          have := congrArg List.length e3
          simp [lvA] at this
          exact this
        subst hX
        subst hY
        exact ⟨.leaf, rfl, rfl⟩
      | b :: c :: bs, e1, e2 =>
        obtain ⟨rfl, rfl, e3⟩ : p ++ [108] = b ∧ p ++ [114] = c ∧ Y = bs ++ r.lvA (a ++ [114]) := by simpa using e2
        obtain ⟨L, g1, g2⟩ := collapse l _ p X bs e1
        have hL := lvA_length L (a ++ [108])
        rw [g1] at hL
        simp only [List.length_append, List.length_cons] at hL
        refine ⟨.node L r, by show L.lvA _ ++ r.lvA _ = _; rw [g1, e3]; simp, ?_⟩
        rw [e3, List.length_append, hr, ← List.replicate_append_replicate]
        rw [show List.replicate X.length Tr.leaf ++ cherry :: (List.replicate bs.length Tr.leaf ++ List.replicate r.lvs Tr.leaf) = (List.replicate X.length Tr.leaf ++ cherry :: List.replicate bs.length Tr.leaf) ++ List.replicate r.lvs Tr.leaf by simp]
        rw [grow_node L r _ _ (by simp; omega) (by simp), grow_leaves, ← g2]
/-! ### what `paired` finds -/
abbrev AP := List Nat × List Nat
/-- the left part beside, for a right one -/
def lb (a : List Nat) : Option (List Nat) := if a.getLast? = some 114 then some (a.dropLast ++ [108]) else none
theorem lb_snoc (p : List Nat) : lb (p ++ [114]) = some (p ++ [108]) := by unfold lb; simp
theorem lb_some {a b : List Nat} (h : lb a = some b) : ∃ p, a = p ++ [114] ∧ b = p ++ [108] ∧ a.dropLast = p := by
  unfold lb at h
  split at h
  · rename_i e
    obtain ⟨p, rfl⟩ := List.getLast?_eq_some_iff.mp e
    exact ⟨p, rfl, by simpa using h.symm, by simp⟩
  · cases h
/-- the last two pairs are beside one another in both trees -/
def Bes (q p : AP) : Prop := lb p.1 = some q.1 ∧ lb p.2 = some q.2
instance (q p : AP) : Decidable (Bes q p) := inferInstanceAs (Decidable (_ ∧ _))
def pushP : List AP → AP → List AP
  | [], p => [p]
  | q :: st, p => if Bes q p then pushP st (p.1.dropLast, p.2.dropLast) else p :: q :: st
/-- the pairs, found from left to right -/
def prdR (L : List AP) : List AP := L.foldl pushP []
def zipA (A B : Tr) : List AP := List.zip (A.lvA []) (B.lvA [])
def prd (A B : Tr) : List AP := (prdR (zipA A B)).reverse
/-- a list of the pairs of the leaves of two trees into which A and B grow -/
def Of (A B : Tr) (L : List AP) (C D : Tr) : Prop := L.map (·.1) = C.lvA [] ∧ L.map (·.2) = D.lvA [] ∧ Gr A B C D
theorem push_of {A B : Tr} : ∀ (st : List AP) (p : AP) (Y : List AP) {C D : Tr}, Of A B (st.reverse ++ p :: Y) C D → ∃ C' D', Of A B ((pushP st p).reverse ++ Y) C' D'
  | [], p, Y, C, D, h => ⟨C, D, h⟩
  | q :: st, p, Y, C, D, h => by
    unfold pushP
    split
    · rename_i hb
      obtain ⟨e1, e2, g⟩ := h
      obtain ⟨a, ha, hqa, da⟩ := lb_some hb.1
      obtain ⟨b, hb', hqb, db⟩ := lb_some hb.2
      simp only [List.reverse_cons, List.append_assoc, List.singleton_append, List.map_append, List.map_cons, ha, hqa] at e1
      simp only [List.reverse_cons, List.append_assoc, List.singleton_append, List.map_append, List.map_cons, hb', hqb] at e2
      obtain ⟨C', c1, c2⟩ := collapse C [] a _ _ e1.symm
      obtain ⟨D', d1, d2⟩ := collapse D [] b _ _ e2.symm
      have l1 := lvA_length C' []
      have l2 := lvA_length D' []
      rw [c1] at l1
      rw [d1] at l2
      simp only [List.length_append, List.length_cons, List.length_map, List.length_reverse] at l1 l2 c2 d2
      refine push_of st _ Y (C := C') (D := D') ⟨?_, ?_, g.trans ⟨_, ?_, by omega, c2, d2⟩⟩
      · rw [c1]; simp [da]
      · rw [d1]; simp [db]
      · simp; omega
    · exact ⟨C, D, by simpa using h⟩
theorem prdR_of {A B : Tr} : ∀ (Y st : List AP) {C D : Tr}, Of A B (st.reverse ++ Y) C D → ∃ C' D', Of A B ((Y.foldl pushP st).reverse) C' D'
  | [], st, C, D, h => ⟨C, D, by rw [List.append_nil] at h; exact h⟩
  | p :: Y, st, C, D, h => by
    obtain ⟨C', D', h'⟩ := push_of st p Y h
    exact prdR_of Y _ h'
theorem zipA_of {A B : Tr} (h : A.lvs = B.lvs) : Of A B (zipA A B) A B := by
  have h1 := lvA_length A []
  have h2 := lvA_length B []
  exact ⟨List.map_fst_zip (by omega), List.map_snd_zip (by omega), .refl h⟩
theorem prd_of {A B : Tr} (h : A.lvs = B.lvs) : ∃ C D, Of A B (prd A B) C D := prdR_of _ [] (zipA_of h)
/-! the same the other way about -/
def swp (p : AP) : AP := (p.2, p.1)
theorem push_swap : ∀ (st : List AP) (p : AP), pushP (st.map swp) (swp p) = (pushP st p).map swp
  | [], p => rfl
  | q :: st, p => by
    have e : Bes (swp q) (swp p) ↔ Bes q p := And.comm
    simp only [List.map_cons, pushP, e]
    split
    · exact push_swap st (p.1.dropLast, p.2.dropLast)
    · rfl
theorem prdR_swap : ∀ (Y st : List AP), (Y.map swp).foldl pushP (st.map swp) = (Y.foldl pushP st).map swp
  | [], st => rfl
  | p :: Y, st => by
    simp only [List.map_cons, List.foldl_cons, push_swap]
    exact prdR_swap Y _
theorem zip_swap : ∀ xs ys : List (List Nat), List.zip ys xs = (List.zip xs ys).map swp
  | [], ys => by cases ys <;> rfl
  | x :: xs, [] => rfl
  | x :: xs, y :: ys => by simp [zip_swap xs ys, swp]
theorem prd_swap (A B : Tr) : prd B A = (prd A B).map swp := by
  unfold prd prdR zipA
  rw [zip_swap]
  have := prdR_swap (List.zip (A.lvA []) (B.lvA [])) []
  rw [List.map_nil] at this
  rw [this, List.map_reverse]
/-! ### the tree of its leaves' addresses -/
theorem lvA_inj : ∀ (t s : Tr) (a : List Nat) , t.lvA a = s.lvA a → t = s
  | .leaf, s, a, h => by
    have : a ∈ s.lvA a := by rw [← h]; simp [lvA]
    exact (lvA_self s a this).symm
  | .node l r, .leaf, a, h => by
    have : a ∈ (Tr.node l r).lvA a := by rw [h]; simp [lvA]
    exact absurd (lvA_self _ a this) (by simp)
  | .node l r, .node l' r', a, h => by
    have h : l.lvA (a ++ [108]) ++ r.lvA (a ++ [114]) = l'.lvA (a ++ [108]) ++ r'.lvA (a ++ [114]) := h
    have key : ∀ {x y : List (List Nat)} {u v : List (List Nat)}, (∀ z ∈ x, a ++ [108] <+: z) → (∀ z ∈ y, a ++ [108] <+: z) → (∀ z ∈ u, a ++ [114] <+: z) → (∀ z ∈ v, a ++ [114] <+: z) → x ++ u = y ++ v → x = y ∧ u = v := by
      intro x
      induction x with
      | nil =>
        intro y u v hx hy hu hv e
        cases y with
        | nil => exact ⟨rfl, e⟩
        | cons z zs =>
          rw [List.nil_append] at e
          exact absurd (pre_two (hy z (List.mem_cons_self ..)) (hu z (by rw [e]; simp))) (by decide)
      | cons z zs ih =>
        intro y u v hx hy hu hv e
        cases y with
        | nil =>
          rw [List.nil_append] at e
          exact absurd (pre_two (hx z (List.mem_cons_self ..)) (hv z (by rw [← e]; simp))) (by decide)
        | cons w ws =>
          obtain ⟨rfl, e'⟩ := List.cons.inj e
          obtain ⟨rfl, e2⟩ := ih (fun q hq => hx q (List.mem_cons_of_mem _ hq)) (fun q hq => hy q (List.mem_cons_of_mem _ hq)) hu hv e'
          exact ⟨rfl, e2⟩
    obtain ⟨e1, e2⟩ := key (lvA_pre l _) (lvA_pre l' _) (lvA_pre r _) (lvA_pre r' _) h
    rw [lvA_inj l l' _ e1, lvA_inj r r' _ e2]
/-- what is written for a leaf -/
def lfT (a : List Nat) : List Nat := List.replicate (trail 108 a) 40 ++ 46 :: List.replicate (trail 114 a) 41
theorem lfT_all : ∀ (t : Tr) (a : List Nat), (t.lvA a).flatMap lfT = List.replicate (trail 108 a) 40 ++ t.cs ++ List.replicate (trail 114 a) 41
  | .leaf, a => by simp [lvA, lfT, cs]
  | .node l r, a => by
    simp only [lvA, List.flatMap_append, lfT_all l, lfT_all r, trail_same, trail_other (show (108 : Nat) ≠ 114 by decide), trail_other (show (114 : Nat) ≠ 108 by decide), cs]
    rw [List.replicate_succ' (n := trail 108 a), List.replicate_succ (n := trail 114 a)]
    simp
theorem lfT_tree (t : Tr) : (t.lvA []).flatMap lfT = t.cs := by
  rw [lfT_all]
  simp [trail]
/-! ### the widest move -/
noncomputable def wdT (A B : Tr) : Tr × Tr := if h : A.lvs = B.lvs then (Classical.choose (prd_of h), Classical.choose (Classical.choose_spec (prd_of h))) else (A, B)
theorem wdT_of {A B : Tr} (h : A.lvs = B.lvs) : Of A B (prd A B) (wdT A B).1 (wdT A B).2 := by
  unfold wdT
  rw [dif_pos h]
  exact Classical.choose_spec (Classical.choose_spec (prd_of h))
theorem Of.fst {A B C D : Tr} {L : List AP} (o : Of A B L C D) {i : Nat} {p : AP} (h : L[i]? = some p) : (C.lvA [])[i]? = some p.1 ∧ (D.lvA [])[i]? = some p.2 := by
  rw [← o.1, ← o.2.1, List.getElem?_map, List.getElem?_map, h]
  exact ⟨rfl, rfl⟩
theorem Of.zip {A B C D : Tr} {L : List AP} (o : Of A B L C D) : L = zipA C D := by
  unfold zipA
  rw [← o.1, ← o.2.1]
  exact List.zip_of_prod rfl rfl
theorem Of.uniq {A B C D C' D' : Tr} {L : List AP} (o : Of A B L C D) (o' : Of A B L C' D') : C = C' ∧ D = D' := ⟨lvA_inj _ _ [] (o.1.symm.trans o'.1), lvA_inj _ _ [] (o.2.1.symm.trans o'.2.1)⟩
theorem wdT_swap {A B : Tr} (h : A.lvs = B.lvs) : wdT B A = ((wdT A B).2, (wdT A B).1) := by
  have o := wdT_of h
  have o' := wdT_of h.symm
  rw [prd_swap] at o'
  obtain ⟨e1, e2⟩ := Of.uniq o' (C' := (wdT A B).2) (D' := (wdT A B).1) ⟨by rw [← o.2.1, List.map_map]; rfl, by rw [← o.1, List.map_map]; rfl, o.2.2.swap⟩
  exact Prod.ext e1 e2
/-! ### what is carried -/
/-- the first pair by which an address is carried -/
def crr (L : List AP) (s : List Nat) : Option AP := L.find? fun p => p.1.isPrefixOf s
def cry (L : List AP) (s : List Nat) : Option (List Nat) := (crr L s).map fun p => p.2 ++ s.drop p.1.length
theorem hgt_grow_ge : ∀ (t : Tr) (xs : List Tr), xs.length = t.lvs → t.hgt ≤ (t.grow xs).hgt
  | .leaf, xs, _ => Nat.zero_le _
  | .node l r, xs, h => by
    obtain ⟨a, b, rfl, ha, hb⟩ := split_len h
    have h1 := hgt_grow_ge l a ha
    have h2 := hgt_grow_ge r b hb
    rw [grow_node l r a b ha hb]
    simp only [hgt]
    omega
theorem Gr.hgt {A B C D : Tr} (g : Gr A B C D) : C.hgt ≤ A.hgt := by
  obtain ⟨xs, h1, h2, e, f⟩ := g
  rw [e]; exact hgt_grow_ge C xs h1
def Inc (a b : List Nat) : Prop := ¬ a <+: b ∧ ¬ b <+: a
theorem lvA_inc : ∀ (t : Tr) (a : List Nat), (t.lvA a).Pairwise Inc
  | .leaf, a => List.pairwise_singleton _ _
  | .node l r, a => by
    refine List.pairwise_append.mpr ⟨lvA_inc l _, lvA_inc r _, fun x hx y hy => ⟨fun h => ?_, fun h => ?_⟩⟩
    · exact absurd (pre_two ((lvA_pre l _ x hx).trans h) (lvA_pre r _ y hy)) (by decide)
    · exact absurd (pre_two (lvA_pre l _ x hx) ((lvA_pre r _ y hy).trans h)) (by decide)
theorem find_anti : ∀ (L : List AP), (L.map (·.1)).Pairwise Inc → ∀ pr ∈ L, ∀ s, pr.1 <+: s → crr L s = some pr
  | [], _, pr, h, _, _ => nomatch h
  | q :: L, an, pr, h, s, hp => by
    obtain ⟨a1, a2⟩ := List.pairwise_cons.mp an
    unfold crr
    rw [List.find?_cons]
    by_cases hq : q.1.isPrefixOf s = true
    · rw [hq]
      rcases List.mem_cons.mp h with rfl | h
      · rfl
      · have hi := a1 pr.1 (List.mem_map_of_mem h)
        rcases List.prefix_or_prefix_of_prefix (List.isPrefixOf_iff_prefix.mp hq) hp with z | z
        · exact absurd z hi.1
        · exact absurd z hi.2
    · rw [Bool.eq_false_iff.mpr hq]
      rcases List.mem_cons.mp h with rfl | h
      · exact absurd (List.isPrefixOf_iff_prefix.mpr hp) hq
      · exact find_anti L a2 pr h s hp
theorem crr_some {L : List AP} {s : List Nat} {p : AP} (h : crr L s = some p) : p ∈ L ∧ p.1 <+: s := ⟨List.mem_of_find?_eq_some h, List.isPrefixOf_iff_prefix.mp (List.find?_some (p := fun q : AP => q.1.isPrefixOf s) (l := L) h)⟩
theorem cry_some {L : List AP} {s r : List Nat} (h : cry L s = some r) : ∃ p u, p ∈ L ∧ s = p.1 ++ u ∧ r = p.2 ++ u := by
  unfold cry at h
  obtain ⟨p, hp, rfl⟩ := Option.map_eq_some_iff.mp h
  obtain ⟨m, u, rfl⟩ := crr_some hp
  exact ⟨p, u, m, rfl, by rw [List.drop_left]⟩
theorem prd_inc {A B : Tr} (h : A.lvs = B.lvs) : ((prd A B).map (·.1)).Pairwise Inc := by
  rw [(wdT_of h).1]
  exact lvA_inc _ _
theorem cry_of {A B : Tr} (h : A.lvs = B.lvs) {p : AP} (hp : p ∈ prd A B) (u : List Nat) : cry (prd A B) (p.1 ++ u) = some (p.2 ++ u) := by
  unfold cry
  rw [find_anti _ (prd_inc h) p hp _ (List.prefix_append _ _)]
  simp
/-- and back -/
theorem cry_back {A B : Tr} (h : A.lvs = B.lvs) {s r : List Nat} (hc : cry (prd A B) s = some r) : cry (prd B A) r = some s := by
  obtain ⟨p, u, hp, rfl, rfl⟩ := cry_some hc
  have : swp p ∈ prd B A := by rw [prd_swap]; exact List.mem_map_of_mem hp
  exact cry_of h.symm this u
theorem tat_grow : ∀ (t : Tr) (b : List Nat) {i : Nat} {a : List Nat}, (t.lvA b)[i]? = some a → ∃ c, a = b ++ c ∧ ∀ xs : List Tr, xs.length = t.lvs → ∀ x, xs[i]? = some x → ∀ s, tat (t.grow xs) (c ++ s) = tat x s
  | .leaf, b, i, a, h => by
    have h : [b][i]? = some a := h
    cases i with
    | succ i => simp at h
    | zero =>
      have e : b = a := by simpa using h
      refine ⟨[], by rw [e, List.append_nil], fun xs hl x hx s => ?_⟩
      obtain ⟨y, rfl⟩ := List.length_eq_one_iff.mp hl
      have : y = x := by simpa using hx
      rw [this, grow_leaf1, List.nil_append]
  | .node l r, b, i, a, h => by
    have h : (l.lvA (b ++ [108]) ++ r.lvA (b ++ [114]))[i]? = some a := h
    have ll := lvA_length l (b ++ [108])
    by_cases hi : i < l.lvs
    · rw [List.getElem?_append_left (by omega)] at h
      obtain ⟨c, e, f⟩ := tat_grow l _ h
      refine ⟨108 :: c, by rw [e]; simp, fun xs hl x hx s => ?_⟩
      obtain ⟨ys, zs, rfl, h1, h2⟩ := split_len hl
      rw [grow_node l r ys zs h1 h2]
      rw [List.getElem?_append_left (by omega)] at hx
      exact f ys h1 x hx s
    · rw [List.getElem?_append_right (by omega)] at h
      obtain ⟨c, e, f⟩ := tat_grow r _ h
      refine ⟨114 :: c, by rw [e]; simp, fun xs hl x hx s => ?_⟩
      obtain ⟨ys, zs, rfl, h1, h2⟩ := split_len hl
      rw [grow_node l r ys zs h1 h2]
      rw [List.getElem?_append_right (by omega), h1, ← ll] at hx
      exact f zs h2 x hx s
/-- the part at an address of any tree is the part of the result at the address to which it is carried -/
theorem cry_part {A B : Tr} (h : A.lvs = B.lvs) {s r : List Nat} (hc : cry (prd A B) s = some r) {zs : List Tr} (hz : zs.length = A.lvs) : tat (A.grow zs) s = tat (B.grow zs) r := by
  obtain ⟨p, u, hp, rfl, rfl⟩ := cry_some hc
  have o := wdT_of h
  obtain ⟨i, hi⟩ := List.mem_iff_getElem?.mp hp
  obtain ⟨f1, f2⟩ := o.fst hi
  obtain ⟨_, _, xs, h1, h2, e1, e2⟩ := o
  generalize (wdT A B).1 = C at *
  generalize (wdT A B).2 = D at *
  subst e1
  subst e2
  rw [lvs_grow h1] at hz
  obtain ⟨c, ec, fc⟩ := tat_grow C [] f1
  obtain ⟨d, ed, fd⟩ := tat_grow D [] f2
  rw [List.nil_append] at ec ed
  subst ec
  subst ed
  rw [grow_grow C xs zs h1 hz, grow_grow D xs zs (h1.trans h2) hz]
  have gl := growL_len xs zs
  have cl := lvA_length C []
  have il : i < (growL xs zs).length := by
    have := (List.getElem?_eq_some_iff.mp f1).1
    omega
  rw [fc _ (gl.trans h1) _ (List.getElem?_eq_getElem il), fd _ ((gl.trans h1).trans h2) _ (List.getElem?_eq_getElem il)]
end TT

set_option linter.all false
set_option maxRecDepth 100000
/-! TLz: list(zip(x, y)) of two lists. -/
namespace TLz
open PySem PySem.W PySem.Calls PyProof.Rows PyProof.V PySem.Spec
theorem zip_no_len : typeLookup (.type "zip") "__len__" = pure none := by rw [typeLookup_type, builtinLookup_eq_fast]; kernel_rfl
theorem zip_no_hint : typeLookup (.type "zip") "__length_hint__" = pure none := by rw [typeLookup_type, builtinLookup_eq_fast]; kernel_rfl
/-- the addresses as hold the pairs, in order; they lie above lo and rise -/
structure ZG (xs ys : Array Value) (lo : Addr) (h : Heap) (as : List Addr) : Prop where
  rise : as.Pairwise (· < ·)
  above : ∀ a ∈ as, lo < a
  pairs : ∀ (j : Nat) (a : Addr), as[j]? = some a → ∃ x y, xs[j]? = some x ∧ ys[j]? = some y ∧ IsPair h a x y
theorem ZG.there {xs ys : Array Value} {lo : Addr} {h : Heap} {as : List Addr} (g : ZG xs ys lo h as) {a : Addr} (ha : a ∈ as) : a < h.objs.size := by
  obtain ⟨j, hj⟩ := List.mem_iff_getElem?.mp ha
  obtain ⟨_, _, _, _, e⟩ := g.pairs j a hj
  exact Heap.lt_size e
/-- a zip's state behind i turns; S: the list that grows -/
def ZSt (z TI TO i1 i2 l1 l2 : Addr) (xs ys : Array Value) (S : Addr) (i : Nat) (h : Heap) : Prop := IsPair h TI (.ref i1) (.ref i2) ∧ h.IsListIter i1 l1 i ∧ h.IsListIter i2 l2 i ∧ h.IsList l1 xs ∧ h.IsList l2 ys ∧
  ((IsZip h z TI TO .none ∧ ∃ a b, IsPair h TO a b) ∨ ∃ T f oT, IsZipHeld h z TI TO T f ∧ h.get? T = some oT ∧ T ≠ z ∧ T ≠ i1 ∧ T ≠ i2 ∧ T ≠ S)
/-- S is none of these -/
structure Off (z TI TO i1 i2 l1 l2 S : Addr) : Prop where
  z : S ≠ z
  TI : S ≠ TI
  TO : S ≠ TO
  i1 : S ≠ i1
  i2 : S ≠ i2
  l1 : S ≠ l1
  l2 : S ≠ l2
section
variable {z TI TO i1 i2 l1 l2 S : Addr} {xs ys : Array Value}
theorem ZSt.keep {i : Nat} {h h' : Heap} (st : ZSt z TI TO i1 i2 l1 l2 xs ys S i h) (F : Off z TI TO i1 i2 l1 l2 S) (hk : ∀ b o, b ≠ S → h.get? b = some o → h'.get? b = some o) : ZSt z TI TO i1 i2 l1 l2 xs ys S i h' := by
  obtain ⟨hTI, h1, h2, hl1, hl2, hz⟩ := st
  refine ⟨hk _ _ (Ne.symm F.TI) hTI, h1.at fun o e => hk _ o (Ne.symm F.i1) e, h2.at fun o e => hk _ o (Ne.symm F.i2) e, hl1.at fun o e => hk _ o (Ne.symm F.l1) e, hl2.at fun o e => hk _ o (Ne.symm F.l2) e, ?_⟩
  rcases hz with ⟨hz, a, b, hTO⟩ | ⟨T, f, oT, hz, hT, r1, r2, r3, r4⟩
  · exact .inl ⟨hk _ _ (Ne.symm F.z) hz, a, b, hk _ _ (Ne.symm F.TO) hTO⟩
  · exact .inr ⟨T, f, oT, hk _ _ (Ne.symm F.z) hz, hk _ _ r4 hT, r1, r2, r3, r4⟩
variable {prog : Program} {w : World} {A : Around} {E : Value → Shared → Prop} {s : Shared}
theorem zl_item {i : Nat} {Q : Option Value → Shared → Prop} (D : ZipApart z TI TO i1 i2 l1 l2) (st : ZSt z TI TO i1 i2 l1 l2 xs ys S i s.heap) (hS : S < s.heap.objs.size) (hlt : i < xs.size) (hsz : xs.size = ys.size)
    (hQ : ∀ h' x y, xs[i]? = some x → ys[i]? = some y → ZSt z TI TO i1 i2 l1 l2 xs ys S (i + 1) h' → IsPair h' s.heap.objs.size x y →
      (∀ b o, b ≠ z → b ≠ TO → b ≠ i1 → b ≠ i2 → s.heap.get? b = some o → h'.get? b = some o) → Q (some (.ref s.heap.objs.size)) { s with heap := h' }) :
    wpAny (model prog w) A (pyNext (.ref z)) Q E s := by
  obtain ⟨hTI, h1, h2, hl1, hl2, hz⟩ := st
  have ex := Array.getElem?_eq_getElem hlt
  have ey := Array.getElem?_eq_getElem (xs := ys) (i := i) (by omega)
  have lt : ∀ {c o}, s.heap.get? c = some o → s.heap.objs.size ≠ c := fun e => Nat.ne_of_gt (Heap.lt_size e)
  have n1 : s.heap.objs.size ≠ i1 := let ⟨_, e, _⟩ := h1; lt e
  have n2 : s.heap.objs.size ≠ i2 := let ⟨_, e, _⟩ := h2; lt e
  rcases hz with ⟨hz, a, b, hTO⟩ | ⟨T, f, oT, hz, hT, r1, r2, r3, r4⟩
  · refine wpAny_pyNext_zip_item D hz hTI hTO h1 h2 hl1 hl2 ex ey fun h' a1 a2 a3 a4 a5 a6 hk => ?_
    exact hQ h' _ _ ex ey ⟨hk _ _ D.TIz D.TITO D.TIi1 D.TIi2 hTI, a3, a4, hl1.at fun o e => hk _ o D.l1z D.l1TO D.l1i1 D.l1i2 e, hl2.at fun o e => hk _ o D.l2z D.l2TO D.l2i1 D.l2i2 e,
        .inr ⟨s.heap.objs.size, false, _, a1, a5, lt hz, n1, n2, Nat.ne_of_gt hS⟩⟩ a5 fun b o b1 b2 b3 b4 e => hk b o b1 b2 b3 b4 e
  · refine wpAny_pyNext_zip_item_held D hz hT hTI h1 h2 hl1 hl2 ex ey fun h' a1 a3 a4 a5 a6 hk => ?_
    exact hQ h' _ _ ex ey ⟨hk _ _ D.TIz D.TIi1 D.TIi2 hTI, a3, a4, hl1.at fun o e => hk _ o D.l1z D.l1i1 D.l1i2 e, hl2.at fun o e => hk _ o D.l2z D.l2i1 D.l2i2 e,
        .inr ⟨T, true, oT, a1, hk _ _ r1 r2 r3 hT, r1, r2, r3, r4⟩⟩ a5 fun b o b1 b2 b3 b4 e => hk b o b1 b3 b4 e
theorem zl_done {i : Nat} {Q : Option Value → Shared → Prop} (hh : A.handled = none) (D : ZipApart z TI TO i1 i2 l1 l2) (st : ZSt z TI TO i1 i2 l1 l2 xs ys S i s.heap) (hge : xs.size ≤ i)
    (hQ : ∀ h', (∀ b o, b ≠ z → b ≠ TO → b ≠ i1 → b ≠ i2 → s.heap.get? b = some o → h'.get? b = some o) → Q none { s with heap := h' }) : wpAny (model prog w) A (pyNext (.ref z)) Q E s := by
  obtain ⟨hTI, h1, h2, hl1, hl2, hz⟩ := st
  have hend : xs[i]? = none ∨ ys[i]? = none := .inl (Array.getElem?_eq_none hge)
  rcases hz with ⟨hz, a, b, hTO⟩ | ⟨T, f, oT, hz, hT, r1, r2, r3, r4⟩
  · exact wpAny_pyNext_zip_end hh D hz hTI hTO h1 h2 hl1 hl2 hend fun h' hk => hQ h' fun b o b1 b2 b3 b4 e => hk b o b1 b2 b3 b4 e
  · exact wpAny_pyNext_zip_end_held hh D hz hT hTI h1 h2 hl1 hl2 hend fun h' hk => hQ h' fun b o b1 b2 b3 b4 e => hk b o b1 b3 b4 e
end
/-- the cells that a zip writes -/
def Wr (z TO i1 i2 b : Addr) : Prop := b ≠ z ∧ b ≠ TO ∧ b ≠ i1 ∧ b ≠ i2
section
variable {z TI TO i1 i2 l1 l2 S : Addr} {xs ys : Array Value} {prog : Program} {w : World} {A : Around} {s : Shared} {R : Result → Shared → Prop}
theorem zl_loop (hh : A.handled = none) (D : ZipApart z TI TO i1 i2 l1 l2) (F : Off z TI TO i1 i2 l1 l2 S) (hsz : xs.size = ys.size) (hn : xs.size ≤ sizeLine) (res : Value) {lo : Addr} (hlo : z ≤ lo ∧ TO ≤ lo ∧ i1 ≤ lo ∧ i2 ≤ lo ∧ S ≤ lo) {h₁ : Heap}
    (hR : ∀ h' tk acc c as, (∀ b o, b ≠ S → Wr z TO i1 i2 b → h₁.get? b = some o → h'.get? b = some o) → h'.get? S = some { cls := .type "list", dict := none, data := .seq acc c, slots := #[] } → as.length = xs.size → ZG xs ys lo h' as →
      acc.toList = as.map Value.ref → R (.ok (.ret res)) { s with heap := h', toks := tk }) :
    ∀ (k i : Nat) (h : Heap) (tk c : Nat) (acc : Array Value) (as : List Addr), xs.size - i = k → i ≤ xs.size → ZSt z TI TO i1 i2 l1 l2 xs ys S i h → (∀ b o, b ≠ S → Wr z TO i1 i2 b → h₁.get? b = some o → h.get? b = some o) →
      h.get? S = some { cls := .type "list", dict := none, data := .seq acc c, slots := #[] } → acc.toList = as.map Value.ref → as.length = i → ZG xs ys lo h as → lo < h.objs.size →
      codeAny (model prog w) A (.builtin "list.extend.loop" ⟨[.ref S, .ref z, res], []⟩) R { s with heap := h, toks := tk } := by
  obtain ⟨lz, lTO, li1, li2, lS⟩ := hlo
  have hne : S ≠ z := F.z
  have off : ∀ a, lo < a → Wr z TO i1 i2 a := fun a ha => ⟨Nat.ne_of_gt (Nat.lt_of_le_of_lt lz ha), Nat.ne_of_gt (Nat.lt_of_le_of_lt lTO ha), Nat.ne_of_gt (Nat.lt_of_le_of_lt li1 ha), Nat.ne_of_gt (Nat.lt_of_le_of_lt li2 ha)⟩
  intro k
  induction k with
  | zero =>
    intro i h tk c acc as hk hi hst hkeep hS hacc hal hG hIs
    have hin : i = xs.size := by omega
    refine codeAny_builtin PySem.F.entry_extend_loop ?_
    rw [Around.under_plainId PySem.F.plain_extend_loop _]
    show wpAny _ A.in1 (pyNext (.ref z) >>= _) _ _ _
    refine wpAny_bind (zl_done (s := { s with heap := h, toks := tk }) (A := A.in1) hh D hst (by omega) fun h' he => ?_)
    refine wpAny_pure (hR h' tk acc c as (fun b o h1 h2 e => he b o h2.1 h2.2.1 h2.2.2.1 h2.2.2.2 (hkeep b o h1 h2 e)) (he S _ F.z F.TO F.i1 F.i2 hS) (by omega) ⟨hG.rise, hG.above, fun j a hj => ?_⟩ hacc)
    obtain ⟨x, y, e1, e2, e3⟩ := hG.pairs j a hj
    obtain ⟨q1, q2, q3, q4⟩ := off a (hG.above a (List.mem_of_getElem? hj))
    exact ⟨x, y, e1, e2, he a _ q1 q2 q3 q4 e3⟩
  | succ k ih =>
    intro i h tk c acc as hk hi hst hkeep hS hacc hal hG hIs
    have hlt : i < xs.size := by omega
    have hasz : acc.size = i := by rw [← Array.length_toList, hacc, List.length_map, hal]
    refine codeAny_builtin PySem.F.entry_extend_loop ?_
    rw [Around.under_plainId PySem.F.plain_extend_loop _]
    show wpAny _ A.in1 (pyNext (.ref z) >>= _) _ _ _
    refine wpAny_bind (zl_item (s := { s with heap := h, toks := tk }) (S := S) D hst (Heap.lt_size hS) hlt hsz fun h' x y ex ey hst' ht hkp => ?_)
    dsimp only at ht hkp ⊢
    have hS' := hkp S _ F.z F.TO F.i1 F.i2 hS
    have up : ∀ b o, b ≠ S → h'.get? b = some o → (h'.update S (Obj.mapSeq (·.push (Value.ref h.objs.size)))).get? b = some o := fun b o hb e => (Heap.get?_update_other _ _ (Ne.symm hb)).trans e
    have hSl : S < h.objs.size := Heap.lt_size hS
    show wpAny _ A.in1 (updateSeq S (·.push (Value.ref h.objs.size)) >>= _) _ _ _
    refine wpAny_bind ?_
    refine wpAny_updateSeq hS' rfl (wpAny_pure ⟨plainId_quiet PySem.F.plain_extend_loop _, ih (i + 1) _ tk _ (acc.push (Value.ref h.objs.size)) (as ++ [h.objs.size]) (by omega) hlt (hst'.keep F up)
      (fun b o h1 h2 e => up b o h1 (hkp b o h2.1 h2.2.1 h2.2.2.1 h2.2.2.2 (hkeep b o h1 h2 e))) (Heap.get?_update_self _ hS' rfl) (by rw [Array.toList_push, hacc, List.map_append]; rfl) (by rw [List.length_append, hal]; rfl) ⟨?_, ?_, ?_⟩ ?_⟩) (by rw [hasz]; omega) (by show (acc.push (Value.ref h.objs.size)).size ≤ sizeLine + 1; rw [Array.size_push, hasz]; omega)
    · refine List.pairwise_append.mpr ⟨hG.rise, List.pairwise_singleton _ _, fun a ha b hb => ?_⟩
      rw [List.mem_singleton.mp hb]
      exact hG.there ha
    · intro a ha
      rcases List.mem_append.mp ha with ha | ha
      · exact hG.above a ha
      · rw [List.mem_singleton.mp ha]; exact hIs
    · intro j b hj
      rcases Nat.lt_trichotomy j as.length with h1 | h1 | h1
      · rw [List.getElem?_append_left h1] at hj
        obtain ⟨x', y', e1, e2, e3⟩ := hG.pairs j b hj
        have hb := hG.above b (List.mem_of_getElem? hj)
        obtain ⟨q1, q2, q3, q4⟩ := off b hb
        exact ⟨x', y', e1, e2, up b _ (Nat.ne_of_gt (Nat.lt_of_le_of_lt lS hb)) (hkp b _ q1 q2 q3 q4 e3)⟩
      · subst h1
        have hb : h.objs.size = b := by simpa using hj
        subst hb
        exact ⟨x, y, by rw [hal]; exact ex, by rw [hal]; exact ey, up _ _ (Nat.ne_of_gt hSl) ht⟩
      · have hnone : (as ++ [h.objs.size])[j]? = none := List.getElem?_eq_none (by rw [List.length_append, List.length_singleton]; omega)
        rw [hnone] at hj; cases hj
    · have e : (h'.update S (Obj.mapSeq (·.push (Value.ref h.objs.size)))).get? h.objs.size = _ := up _ _ (Nat.ne_of_gt hSl) ht
      exact Nat.lt_trans hIs (Heap.lt_size e)
theorem zl_extend (hh : A.handled = none) (D : ZipApart z TI TO i1 i2 l1 l2) (F : Off z TI TO i1 i2 l1 l2 S) (hsz : xs.size = ys.size) (hn : xs.size ≤ sizeLine) (res : Value) {lo : Addr} (hlo : z ≤ lo ∧ TO ≤ lo ∧ i1 ≤ lo ∧ i2 ≤ lo ∧ S ≤ lo) (hls : lo < s.heap.objs.size)
    (hz0 : IsZip s.heap z TI TO .none) (st : ZSt z TI TO i1 i2 l1 l2 xs ys S 0 s.heap) (c₀ : Nat) (hS : s.heap.get? S = some { cls := .type "list", data := .seq #[] c₀ })
    (hR : ∀ h' tk acc c as, (∀ b o, b ≠ S → Wr z TO i1 i2 b → s.heap.get? b = some o → h'.get? b = some o) → h'.get? S = some { cls := .type "list", dict := none, data := .seq acc c, slots := #[] } → as.length = xs.size → ZG xs ys lo h' as →
      acc.toList = as.map Value.ref → R (.ok (.ret res)) { s with heap := h', toks := tk }) :
    wpAny (model prog w) A.in1 (Builtin.List.listExtendWith (.ref S) (.ref z) res)
      (fun fin s' => match fin with | .done f => R (.ok f) s' | .again c' => c'.quiet = true ∧ codeAny (model prog w) A c' R s') (fun e s' => R (.error e) s') s := by
  have hT : s.TypeIs (.ref z) "zip" := ⟨_, hz0, rfl⟩
  have key : ∀ (h : Heap) (c₁ tk : Nat), (∀ b o, b ≠ S → s.heap.get? b = some o → h.get? b = some o) → lo < h.objs.size →
      h.get? S = some { cls := .type "list", data := .seq #[] c₁ } → codeAny (model prog w) A (.builtin "list.extend.loop" ⟨[.ref S, .ref z, res], []⟩) R { s with heap := h, toks := tk } := by
    intro h c₁ tk hk hl hS₁
    exact zl_loop (s := s) (h₁ := s.heap) hh D F hsz hn res hlo hR xs.size 0 h tk c₁ #[] [] (Nat.sub_zero _) (Nat.zero_le _) (st.keep F hk) (fun b o hb _ e => hk b o hb e) hS₁ rfl rfl
      ⟨List.Pairwise.nil, (fun _ ha => nomatch ha), (fun j a hj => by simp at hj)⟩ hl
  unfold Builtin.List.listExtendWith
  refine wpAny_bind (wpAny_typeOf (T := "zip") hT ?_)
  have h1 : Builtin.List.listSameRef (.ref S) (.ref z) = false := by simp [Builtin.List.listSameRef, F.z]
  have h2 : (Value.type "zip" == Value.type "list") = false := by decide
  have h3 : (Value.type "zip" == Value.type "tuple") = false := by decide
  simp only [h1, h2, h3, Bool.or_false, Bool.false_eq_true, if_false]
  refine wpAny_bind (wpAny_pyIter_zip hz0 ?_)
  refine wpAny_bind (wpAny_holding ?_)
  unfold Builtin.List.listLengthHint
  refine wpAny_bind (wpAny_specialOf hT zip_no_len ?_)
  show wpAny _ A.in1 (specialOf (Value.ref z) (Str.ofString "__length_hint__") >>= _) _ _ _
  refine wpAny_bind (wpAny_specialOf hT zip_no_hint ?_)
  refine wpAny_pure ?_
  show wpAny _ A.in1 (rule "list.extend.makes-room" >>= fun _ => Builtin.List.listTouch (.ref S) >>= fun _ =>
    again (.builtin "list.extend.loop" ⟨[.ref S, .ref z, res], []⟩)) _ _ _
  refine wpAny_bind (wpAny_rule ?_)
  refine wpAny_bind ?_
  show wpAny _ A.in1 (updateSeq S (·.push .none) >>= fun _ => updateSeq S (·.pop)) _ _ _
  refine wpAny_bind (wpAny_updateSeq hS rfl ?_)
  have hS₂ := Heap.get?_update_self (Obj.mapSeq (·.push Value.none)) hS rfl
  refine wpAny_updateSeq (hz := by seq_fits) hS₂ rfl ?_
  have hS₃ := Heap.get?_update_self (Obj.mapSeq (·.pop)) hS₂ rfl
  have oth : ∀ b o, b ≠ S → s.heap.get? b = some o → ((s.heap.update S (Obj.mapSeq (·.push Value.none))).update S (Obj.mapSeq (·.pop))).get? b = some o :=
    fun b o hb e => (Heap.get?_update_other _ _ (Ne.symm hb)).trans ((Heap.get?_update_other _ _ (Ne.symm hb)).trans e)
  refine wpAny_pure ⟨plainId_quiet PySem.F.plain_extend_loop _, key _ _ _ oth ?_ hS₃⟩
  rw [Heap.size_update, Heap.size_update]
  exact hls
end
end TLz

set_option linter.all false
/-! TRp: a sign, or a short text, any number of times. -/
namespace TRp
open PySem L2 TT TU
def rRepS : R2 := fun x y H Q => ∃ (z : Str) (c n : Nat), x = .str z ∧ z = S [c] ∧ y = .int (n : Nat) ∧ n ≤ 100000 ∧ Q (.str (S (List.replicate n c))) H
def rRepA : R2 := fun x y H Q => ∃ (l : List Nat) (n : Nat), x = .str (S l) ∧ y = .int (n : Nat) ∧ n ≤ 100000 ∧ l.length ≤ 100 ∧ (1 ≤ l.length ∨ n ≤ 1) ∧ Q (.str (S (List.replicate n l).flatten)) H
theorem op_repA {X : Cx} : OpR X (binaryOp .Mult) rRepA := by
  intro pins s σ H x y v u Q I rx ry h
  obtain ⟨l, n, rfl, rfl, hn, hl, h1, q⟩ := h
  have sl : (S l).length = l.length := by simp [Str.length]
  by_cases h1' : n ≤ 1
  · refine TD.op_rep01 pins s σ H _ _ v u Q I rx ry ⟨S l, n, rfl, rfl, h1', by omega, ?_⟩
    rcases (show n = 0 ∨ n = 1 by omega) with rfl | rfl
    · exact q
    · have e : (List.replicate 1 l).flatten = l := by simp
      rw [e] at q
      exact q
  · refine op_rep_str pins s σ H _ _ v u Q I rx ry ⟨S l, n, rfl, rfl, by omega, hn, by omega, by omega, ?_⟩
    rw [show (S l).cps.toList = l by simp]
    exact q
theorem op_repS {X : Cx} : OpR X (binaryOp .Mult) rRepS := by
  intro pins s σ H x y v u Q I rx ry h
  obtain ⟨z, c, n, rfl, rfl, rfl, hn, q⟩ := h
  refine op_repA pins s σ H _ _ v u Q I rx ry ⟨[c], n, rfl, rfl, hn, (by show 1 ≤ 100; decide), .inl (Nat.le_refl 1), ?_⟩
  have e : (List.replicate n [c]).flatten = List.replicate n c := by
    clear q hn rx ry
    induction n with
    | zero => rfl
    | succ n ih => rw [List.replicate_succ, List.flatten_cons, ih]; rfl
  rw [e]
  exact q
end TRp

/-! TZp: the library's loops over zip. -/
namespace TZp
end TZp

set_option Elab.async false
set_option linter.all false
set_option maxRecDepth 100000
set_option maxHeartbeats 4000000
/-! TC: a comprehension with any number of fors. -/
namespace TC
open PySem PySem.Spec PyProof PyProof.Rows L2
/-- how a clause is read: what it goes over, its store, its tests, and the slots that it and the ones behind it give -/
structure Rd where
  wi : TI
  g : TG
  tt : TT
  vs : List Nat
/-- the clauses behind the first one, then the element -/
def tIn : List Rd → TE → Addr → L2.St → Hp → (Hp → Prop) → Prop
  | [], te, D, σ, H, Nx => te σ H fun y H' => ∃ acc, H' D = some (.lst acc) ∧ acc.length < sizeLine ∧ Nx (upd H' D (.lst (acc ++ [y])))
  | r :: rs, te, D, σ, H, Nx => r.wi σ H fun J H1 => ∃ W : Nat → Nat → Hp → Prop, (∃ m, W 0 m H1) ∧ ∀ i m H, W i m H →
      (J.stop i H ∧ Nx H) ∨ (J.go i H ∧ ∃ Ny : Hp → Prop, (∀ H', Ny H' → ∃ m', m' < m ∧ W (i + 1) m' H') ∧ ∀ x H', J.yld i H x H' → r.g x (wipe σ r.vs) H' fun σ2 H2 => wipe σ2 r.vs = wipe σ r.vs ∧ r.tt σ2 H2 fun b H3 =>
        if b = true then tIn rs te D σ2 H3 Ny else Ny H3)
/-- the whole: as tLc, with the clauses behind in the turn -/
def tLcN (r : Rd) (rs : List Rd) (te : TE) : TE := fun σ H Q => r.wi σ H fun J H1 => ∀ D, H1 D = none → ∃ W : Nat → Nat → Hp → Prop, (∃ m, W 0 m (upd H1 D (.lst []))) ∧ ∀ i m H, W i m H →
  (J.stop i H ∧ Q (.ref D) H) ∨ (J.go i H ∧ ∃ Ny : Hp → Prop, (∀ H', Ny H' → ∃ m', m' < m ∧ W (i + 1) m' H') ∧ ∀ x H', J.yld i H x H' → r.g x (wipe σ r.vs) H' fun σ2 H2 => wipe σ2 r.vs = wipe σ r.vs ∧ r.tt σ2 H2 fun b H3 =>
    if b = true then tIn rs te D σ2 H3 Ny else Ny H3)
section
variable {prog : Program} {w : World} {A : Around} {s : Shared} {elt : Expr} {gs : List Comprehension} {scope : Scope} {pos : Pos} {it acc : Value} {env : Env}
/-- what is done behind a clause's tests: the next clause's loop, or the element -/
def Behind (prog : Program) (w : World) (A : Around) (elt : Expr) (gs : List Comprehension) (scope : Scope) (pos : Pos) (c : Nat) (acc : Value) (env : Env) (E : Value → Shared → Prop) (Nx : Shared → Prop) (s : Shared) : Prop :=
  match gs[c + 1]? with
  | some g => wpAny (model prog w) A (eval g.iter env) (fun x s1 => wpAny (model prog w) A (pyIter x) (fun j s2 =>
      codeAny (model prog w) A (.compStart (.ListComp elt gs scope pos) (c + 1) j acc env) (fun r s3 => match r with
        | .ok _ => Nx s3
        | .error _ => False) s2) E s1) E s
  | none => wpAny (model prog w) A (eval elt env) (fun x s1 => wpAny (model prog w) A (call (.builtin "list.append") [acc, x]) (fun _ s2 => Nx s2) E s1) E s
theorem turn_at {c : Nat} {cl : Comprehension} (hg : gs[c]? = some cl) (ha : cl.is_async = 0) (hn : ∀ g, gs[c + 1]? = some g → g.is_async = 0 ∧ ∀ x, foldedSetIterable g.iter env x = pure x) {Q : Fin → Shared → Prop} {E : Value → Shared → Prop}
    (h : wpAny (model prog w) A (pyNext it) (fun r s1 => match r with
      | none => Q (.done .next) s1
      | some v => wpAny (model prog w) A (letOwnedTupleGo cl.target it v) (fun _ s2 => wpAny (model prog w) A (assign cl.target env v) (fun _ s3 =>
          wpAny (model prog w) A (forIn cl.ifs true fun c r => if r = true then do let ok ← isTrue c env (eval c env); pure (ForInStep.yield ok) else pure (ForInStep.yield r)) (fun ok s4 =>
            if ok = true then Behind prog w A elt gs scope pos c acc env E (fun s5 => Q (.again (.compLoop (.ListComp elt gs scope pos) c it acc env)) s5) s4
            else Q (.again (.compLoop (.ListComp elt gs scope pos) c it acc env)) s4) E s3) E s2) E s1) E s) :
    wpAny (model prog w) A (compTurn (.ListComp elt gs scope pos) c it acc env) Q E s := by
  unfold compTurn
  dsimp only
  rw [hg]
  dsimp only
  have e0 : (cl.is_async != 0) = false := by rw [ha]; rfl
  rw [e0]
  simp only [if_false, Bool.false_eq_true]
  refine wpAny_bind (wpAny_standAt (wpAny_bind (wpAny_mono h (fun r s1 h1 => ?_) fun _ _ z => z)))
  cases r with
  | none => exact wpAny_pure h1
  | some v =>
    refine wpAny_bind (wpAny_mono h1 (fun _ s2 h2 => ?_) fun _ _ z => z)
    refine wpAny_bind (wpAny_mono h2 (fun _ s3 h3 => ?_) fun _ _ z => z)
    refine wpAny_bind (wpAny_mono h3 (fun ok s4 h4 => ?_) fun _ _ z => z)
    cases ok with
    | false => exact wpAny_pure h4
    | true =>
      simp only [if_true] at h4 ⊢
      unfold Behind at h4
      cases hq : gs[c + 1]? with
      | none =>
        rw [hq] at h4
        dsimp only at h4 ⊢
        exact wpAny_bind (wpAny_bind (wpAny_mono h4 (fun x s5 h5 => wpAny_bind (wpAny_mono h5 (fun _ s6 h6 => wpAny_pure (wpAny_pure h6)) fun _ _ z => z)) fun _ _ z => z))
      | some g =>
        rw [hq] at h4
        obtain ⟨a0, hs⟩ := hn g hq
        have e1 : (g.is_async != 0) = false := by rw [a0]; rfl
        dsimp only at h4 ⊢
        rw [e1]
        simp only [if_false, Bool.false_eq_true]
        refine wpAny_bind (wpAny_mono h4 (fun x s5 h5 => ?_) fun _ _ z => z)
        refine wpAny_bind (wpAny_standAt (wpAny_bind (wpAny_of_eq (hs x) (wpAny_bind (wpAny_holding (wpAny_mono h5 (fun j s6 h6 => ?_) fun _ _ z => z))))))
        refine wpAny_bind ?_
        refine wpAny_runOwn ?_
        rw [Around.mark_none]
        refine codeAny_mono h6 fun r s7 h7 => ?_
        cases r with
        | ok f => exact wpAny_pure h7
        | error e => exact h7.elim
/-- a clause's loop, by its turns -/
theorem loop_at {c : Nat} {cl : Comprehension} {R : Result → Shared → Prop} (hg : gs[c]? = some cl) (ha : cl.is_async = 0) (hn : ∀ g, gs[c + 1]? = some g → g.is_async = 0 ∧ ∀ x, foldedSetIterable g.iter env x = pure x) (I : Nat → Shared → Prop)
    (turn : ∀ n s, I n s → wpAny (model prog w) A (pyNext it) (fun r s1 => match r with
      | none => R (.ok .next) s1
      | some v => wpAny (model prog w) A (letOwnedTupleGo cl.target it v) (fun _ s2 => wpAny (model prog w) A (assign cl.target env v) (fun _ s3 =>
          wpAny (model prog w) A (forIn cl.ifs true fun c r => if r = true then do let ok ← isTrue c env (eval c env); pure (ForInStep.yield ok) else pure (ForInStep.yield r)) (fun ok s4 =>
            if ok = true then Behind prog w A elt gs scope pos c acc env (fun _ _ => False) (fun s5 => Code.compLoop (.ListComp elt gs scope pos) c it acc env = Code.compLoop (.ListComp elt gs scope pos) c it acc env ∧ ∃ m, m < n ∧ I m s5) s4
            else Code.compLoop (.ListComp elt gs scope pos) c it acc env = Code.compLoop (.ListComp elt gs scope pos) c it acc env ∧ ∃ m, m < n ∧ I m s4) (fun _ _ => False) s3) (fun _ _ => False) s2) (fun _ _ => False) s1) (fun _ _ => False) s) (n : Nat) (h : I n s) :
    codeAny (model prog w) A (.compLoop (.ListComp elt gs scope pos) c it acc env) R s := by
  refine codeAny_loop rfl I (fun k t hI => ?_) n h
  show wpAny _ A ((compTurn (.ListComp elt gs scope pos) c it acc env).onRaise (fun x => do noteFrame x env; theTreesLotGoes x)) _ _ t
  refine wpAny_noted (wpAny_mono (turn_at (E := fun _ _ => False) hg ha hn ?_) (fun _ _ z => z) fun _ _ z => z.elim)
  exact turn k t hI
/-- a clause behind the first one begins -/
theorem start_at {c : Nat} {cl : Comprehension} {R : Result → Shared → Prop} (hg : gs[c]? = some cl) (ha : cl.is_async = 0) (h0 : codeAny (model prog w) A (.compLoop (.ListComp elt gs scope pos) c it acc env) R s)
    (h : wpAny (model prog w) A (pyIter it) (fun j s' => codeAny (model prog w) A (.compLoop (.ListComp elt gs scope pos) c j acc env) R s') (notedBy (model prog w) A env fun x s' => R (.error x) s') s) :
    codeAny (model prog w) A (.compStart (.ListComp elt gs scope pos) c it acc env) R s := by
  have e1 : (cl.is_async != 0) = false := by rw [ha]; rfl
  refine codeAny_of_tree ?_
  show wpAny _ _ ((compStart (.ListComp elt gs scope pos) c it acc env).onRaise (fun x => do noteFrame x env; standAt theWindowsPlace)) _ _ s
  refine wpAny_notedAt ?_
  unfold compStart
  rw [show (clausesOf (.ListComp elt gs scope pos))[c]? = some cl from hg]
  show wpAny _ _ (if (cl.is_async != 0) = true then _ else _) _ _ s
  rw [e1]
  simp only [if_false, Bool.false_eq_true]
  refine wpAny_bind ?_
  refine wpAny_askSetting (wpAny_ite ?_)
  split
  · exact wpAny_pure ⟨rfl, h0⟩
  · exact wpAny_bind (wpAny_rule (wpAny_bind (wpAny_standAt (wpAny_bind (wpAny_mono h (fun j s' q => wpAny_pure ⟨rfl, q⟩) fun _ _ z => z)))))
end
/-- a clause and its reading, in the block's context -/
structure ClOk (Y : Cx) (cl : Comprehension) (r : Rd) : Prop where
  sync : cl.is_async = 0
  src : PI Y cl.target cl.iter r.wi
  put : PG Y cl.target r.g
  ask : PTs Y cl.ifs r.tt
  fold : ∀ x, foldedSetIterable cl.iter Y.env x = pure x
theorem ClOk.of {Y : Cx} {tg iter : Expr} {ifs : List Expr} {a : Int} {wi : TI} {g : TG} {tt : TT} {vs : List Nat} (h : a = 0) (src : PI Y tg iter wi) (put : PG Y tg g) (ask : PTs Y ifs tt) (fold : ∀ x, foldedSetIterable iter Y.env x = pure x) : ClOk Y ⟨tg, iter, ifs, a⟩ ⟨wi, g, tt, vs⟩ := ⟨h, src, put, ask, fold⟩
def top : List Rd → List Nat
  | [] => []
  | r :: _ => r.vs
inductive ClsOk (Y : Cx) : List Comprehension → List Rd → Prop
  | nil : ClsOk Y [] []
  | cons {cl : Comprehension} {r : Rd} {cls : List Comprehension} {rs : List Rd} : ClOk Y cl r → ClsOk Y cls rs → (∀ i ∈ top rs, i ∈ r.vs) → ClsOk Y (cl :: cls) (r :: rs)
theorem ClsOk.next {Y : Cx} {cls : List Comprehension} {rs : List Rd} {gs : List Comprehension} {c : Nat} (h : ClsOk Y cls rs) (e : gs.drop (c + 1) = cls) : ∀ g, gs[c + 1]? = some g → g.is_async = 0 ∧ ∀ x, foldedSetIterable g.iter Y.env x = pure x := by
  intro g hg
  have hd : gs[c + 1]? = cls[0]? := by rw [← e, List.getElem?_drop, Nat.add_zero]
  rw [hd] at hg
  cases h with
  | nil => cases hg
  | cons a _ _ => cases hg; exact ⟨a.sync, a.fold⟩
theorem wipe_out {σ : L2.St} {i : Nat} : ∀ {vs : List Nat}, i ∉ vs → (wipe σ vs)[i]? = σ[i]?
  | [], _ => rfl
  | v :: vs, h => by
    unfold wipe
    rw [List.getElem?_set_ne (fun e => h (by rw [e]; exact List.mem_cons_self))]
    exact wipe_out fun m => h (List.mem_cons_of_mem _ m)
theorem wipe_sub {σ : L2.St} {us vs : List Nat} (h : ∀ i ∈ us, i ∈ vs) (j : Nat) (v : V) (e : (wipe σ vs)[j]? = some (some v)) : (wipe σ us)[j]? = some (some v) := by
  obtain ⟨ea, eb⟩ := wipe_some e
  rw [wipe_out fun z => eb (h j z)]
  exact ea
section
variable {Y : Cx} {elt : Expr} {te : TE} {gs : List Comprehension} {scope : Scope} {pos : Pos} {D : Addr}
/-- one clause's loop, from what is done behind its tests -/
theorem loop_ok (hxe : Y.xe = fun _ _ => False) (hc : Y.calm = true) {c : Nat} {cl : Comprehension} {r : Rd} {vs : List Nat} {pins : List (Addr × Obj)} {σ : L2.St} {Stop : Hp → Prop} {R : Result → Shared → Prop} {tl : L2.St → Hp → (Hp → Prop) → Prop}
    (hg : gs[c]? = some cl) (sync : cl.is_async = 0) (put : PG Y cl.target r.g) (ask : PTs Y cl.ifs r.tt) (hn : ∀ g, gs[c + 1]? = some g → g.is_async = 0 ∧ ∀ x, foldedSetIterable g.iter Y.env x = pure x) (sub : ∀ i ∈ vs, i ∈ r.vs)
    (deep : ∀ {pins : List (Addr × Obj)} {σ : L2.St} {H : Hp} {s : Shared} {Ny : Hp → Prop} {Z : Shared → Prop}, Inv Y pins σ H s → tl σ H Ny → (∀ H' s', Inv Y pins (wipe σ vs) H' s' → Ny H' → Z s') → Behind Y.prog Y.w Y.A elt gs scope pos c (.ref D) Y.env (fun _ _ => False) Z s)
    {it : Addr} {fp : List Addr} {tn : Nat → Heap → Prop} {J : It} (T : Turn Y.prog Y.w Y.K cl.target J fp it tn) {W : Nat → Nat → Hp → Prop}
    (turn : ∀ i m H, W i m H → (J.stop i H ∧ Stop H) ∨ (J.go i H ∧ ∃ Ny : Hp → Prop, (∀ H', Ny H' → ∃ m', m' < m ∧ W (i + 1) m' H') ∧ ∀ x H', J.yld i H x H' → r.g x (wipe σ r.vs) H' fun σ2 H2 => wipe σ2 r.vs = wipe σ r.vs ∧ r.tt σ2 H2 fun b H3 => if b = true then tl σ2 H3 Ny else Ny H3))
    (stop : ∀ H' s', Inv Y pins (wipe σ r.vs) H' s' → Stop H' → R (.ok .next) s') {H1 : Hp} {s1 : Shared} {m1 : Nat} (I1 : Inv Y pins (wipe σ r.vs) H1 s1) (st1 : tn 0 s1.heap) (f1 : ∀ b ∈ fp, FpOk Y pins H1 b) (w1 : W 0 m1 H1) :
    codeAny (model Y.prog Y.w) Y.A (.compLoop (.ListComp elt gs scope pos) c (.ref it) (.ref D) Y.env) R s1 := by
  have stat : ∀ {H' : Hp}, (∀ b ∈ fp, H' b = none) → ∀ b ∈ fp, FpOk Y pins H' b := fun n b hb => ⟨n b hb, (f1 b hb).2⟩
  refine loop_at hg sync hn (fun n s' => ∃ i H', Inv Y pins (wipe σ r.vs) H' s' ∧ tn i s'.heap ∧ (∀ b ∈ fp, H' b = none) ∧ W i n H') ?_ m1 ⟨0, H1, I1, st1, fun b hb => (f1 b hb).1, w1⟩
  rintro n s2 ⟨i, H2, I2, st2, n2, w2⟩
  rcases turn i n H2 w2 with ⟨sp, q⟩ | ⟨go, Ny, hNy, step⟩
  · refine wpAny_mono (T.done Y rfl rfl rfl hc i _ s2 (wipe σ r.vs) H2 (fun _ _ => False) I2 (stat n2) st2 sp) (fun v s3 ⟨hv, I3⟩ => ?_) fun _ _ z => z
    subst hv
    exact stop H2 s3 I3 q
  · refine wpAny_mono (T.item Y rfl rfl rfl hc i _ s2 (wipe σ r.vs) H2 (fun _ _ => False) I2 (stat n2) st2 go) (fun v s3 ⟨u, hv, h3⟩ => ?_) fun _ _ z => z
    subst hv
    refine wpAny_mono h3 (fun _ s4 ⟨x, H4, I4, r4, y4, st4, n4⟩ => ?_) fun _ _ z => z
    have I4' := I4.pinned (stat n4) (T.obj _ _ st4)
    have p5 := put.run _ s4 _ H4 x u _ I4' r4 (step x H4 y4)
    rw [hxe] at p5
    refine wpAny_mono p5 (fun _ s5 ⟨σ5, H5, I5, hw, q5⟩ => ?_) fun _ _ z => z
    have p6 := ask.run _ s5 σ5 H5 _ I5 q5
    rw [hxe] at p6
    refine wpAny_mono p6 (fun b s6 ⟨H6, I6, q6⟩ => ?_) fun _ _ z => z
    have fin : ∀ {σ' : L2.St} {H' : Hp} {s' : Shared}, Inv Y (pins ++ pinsAt fp s4.heap) σ' H' s' → (wipe σ r.vs).length = σ'.length → (∀ (j : Nat) v, (wipe σ r.vs)[j]? = some (some v) → σ'[j]? = some (some v)) → Ny H' →
        ∃ m, m < n ∧ ∃ i H', Inv Y pins (wipe σ r.vs) H' s' ∧ tn i s'.heap ∧ (∀ b ∈ fp, H' b = none) ∧ W i m H' := fun {σ' H' s'} I' hl hk ny => by
      obtain ⟨m', hm, w'⟩ := hNy H' ny
      have pin : ∀ b ∈ fp, ∀ o, s4.heap.get? b = some o → s'.heap.get? b = some o ∧ H' b = none := fun b hb o e =>
        ⟨(I'.pin (b, o) (List.mem_append_right _ (List.mem_append_right _ (mem_pinsAt hb e)))).1, (I'.pin (b, o) (List.mem_append_right _ (List.mem_append_right _ (mem_pinsAt hb e)))).2.1⟩
      refine ⟨m', hm, i + 1, H', (I'.unpinned (pins := pins)).weak hl hk, T.keep _ _ _ st4 fun b hb o e => (pin b hb o e).1, fun b hb => ?_, w'⟩
      obtain ⟨o, e, _⟩ := T.obj _ _ st4 b hb
      exact (pin b hb o e).2
    have len5 : (wipe σ r.vs).length = σ5.length := by rw [← hw, wipe_length]
    cases b with
    | false =>
      simp only [Bool.false_eq_true, if_false] at q6 ⊢
      exact ⟨trivial, fin I6 len5 (fun j v e => by rw [← hw] at e; exact (wipe_some e).1) q6⟩
    | true =>
      simp only [if_true] at q6 ⊢
      exact deep I6 q6 fun H' s' I' ny => ⟨trivial, fin I' (by rw [wipe_length] at len5; rw [wipe_length, wipe_length]; exact len5) (fun j v e => by rw [← hw] at e; exact wipe_sub sub j v e) ny⟩
/-- the clauses behind the first one, and the element -/
theorem chain (hxe : Y.xe = fun _ _ => False) (hc : Y.calm = true) (pe : PE Y elt te) : ∀ (cls : List Comprehension) (rs : List Rd) (c : Nat), ClsOk Y cls rs → gs.drop (c + 1) = cls →
    ∀ {pins : List (Addr × Obj)} {σ : L2.St} {H : Hp} {s : Shared} {Ny : Hp → Prop} {Z : Shared → Prop}, Inv Y pins σ H s → tIn rs te D σ H Ny → (∀ H' s', Inv Y pins (wipe σ (top rs)) H' s' → Ny H' → Z s') → Behind Y.prog Y.w Y.A elt gs scope pos c (.ref D) Y.env (fun _ _ => False) Z s
  | [], [], c, .nil, e, pins, σ, H, s, Ny, Z, I, h, out => by
    have hn : gs[c + 1]? = none := by
      have : gs[c + 1]? = (gs.drop (c + 1))[0]? := by rw [List.getElem?_drop, Nat.add_zero]
      rw [this, e]; rfl
    unfold Behind
    rw [hn]
    dsimp only
    have p := pe.run pins s σ H _ I h
    rw [hxe] at p
    refine wpAny_mono p (fun v s1 ⟨y, H1, I1, r1, acc, hD, hz, ny⟩ => ?_) fun _ _ z => z
    exact app_ok I1 hD hz r1 fun s2 I2 => out _ _ I2 ny
  | cl :: cls, r :: rs, c, .cons ok rest sub, e, pins, σ, H, s, Ny, Z, I, h, out => by
    have hg : gs[c + 1]? = some cl := by
      have : gs[c + 1]? = (gs.drop (c + 1))[0]? := by rw [List.getElem?_drop, Nat.add_zero]
      rw [this, e]; rfl
    have e2 : gs.drop (c + 1 + 1) = cls := by rw [← List.drop_drop, e]; rfl
    unfold Behind
    rw [hg]
    dsimp only
    have p := ok.src.run pins s σ H _ I h
    rw [hxe] at p
    refine wpAny_mono p (fun v s1 h1 => ?_) fun _ _ z => z
    refine wpAny_mono h1 (fun itv s2 h2 => ?_) fun _ _ z => z
    obtain ⟨it, fp, tn, J, H2, ev, I2, T, st2, f2, W, ⟨m2, w2⟩, turn⟩ := h2
    subst ev
    have lp := loop_ok (gs := gs) (elt := elt) (scope := scope) (pos := pos) (D := D) (c := c + 1) (Stop := Ny) (R := fun r s' => match r with | .ok _ => Z s' | .error _ => False) hxe hc hg ok.sync ok.put ok.ask (rest.next e2) sub (fun I' q z => chain hxe hc pe cls rs (c + 1) rest e2 I' q z) T turn (fun H' s' I' ny => out H' s' I' ny) (I2.weak (wipe_length _ _) fun j v e => (wipe_some e).1) st2 f2 w2
    exact start_at hg ok.sync lp (T.self Y.A 0 _ _ _ st2 lp)
end
section
variable {X : Cx}
theorem core {pins : List (Addr × Obj)} {s0 : Shared} {σ : L2.St} {H : Hp} {Q : VK} {elt : Expr} {cl : Comprehension} {cls : List Comprehension} {scope : Scope} {own : List (Str × Nat)} {pos pos' : Pos} {wi : TI} {g : TG} {tt : TT} {rs : List Rd} {te : TE} {use : Option (Value → Sem Unit)} {Qf : Value → Shared → Prop}
    (hc : X.calm = true) (hN : X.N.Nodup) (I0 : Inv X pins σ H s0) (hi : PI X cl.target cl.iter wi) (ok : BlkOk X.N X.env.scope scope own) (sync : cl.is_async = 0) (sub : ∀ i ∈ top rs, i ∈ own.map (·.2))
    (hput : ∀ (s : Shared) (H : Hp) (C : Addr) (cs : List (Str × Addr)) (fp : List Addr), PG (X.blk s H scope (compEnvC scope cs C X.env) fp) cl.target g)
    (hask : ∀ (s : Shared) (H : Hp) (C : Addr) (cs : List (Str × Addr)) (fp : List Addr), PTs (X.blk s H scope (compEnvC scope cs C X.env) fp) cl.ifs tt)
    (hrest : ∀ (s : Shared) (H : Hp) (C : Addr) (cs : List (Str × Addr)) (fp : List Addr), ClsOk (X.blk s H scope (compEnvC scope cs C X.env) fp) cls rs)
    (helt : ∀ (s : Shared) (H : Hp) (C : Addr) (cs : List (Str × Addr)) (fp : List Addr), PE (X.blk s H scope (compEnvC scope cs C X.env) fp) elt te)
    (fold : ∀ x, foldedSetIterable cl.iter X.env x = pure x) (h : tLcN ⟨wi, g, tt, own.map (·.2)⟩ rs te σ H Q)
    (out : ∀ D C s' m H', Inv X pins σ H' s' → Q (.ref D) H' → s'.heap.Ns C m → FpOk X pins H' C → compPost (model X.prog X.w) X.A X.xe use Qf (.ref D) C (.ok .next) s') :
    wpAny (model X.prog X.w) X.A (comprehension (.ListComp elt (cl :: cls) scope pos) scope X.env pos' (newList []) false (eval cl.iter X.env) use) Qf X.xe s0 := by
  have seen : ∀ y ∈ scope.names, y.2 = .free → ∃ c, X.env.cells.lookup y.1 = some c := fun y hy e =>
    I0.ok.has _ (ok.free y hy e)
  refine wpAny_comprehension_free (use := use) rfl fold (closure_ok seen) ok.kind (fun y hy e => by rw [ok.uniq y hy, e])
    (thn (hi.run pins s0 σ H _ I0 h) fun xv sa ha => thn ha fun jv sb hb => ?_)
  obtain ⟨it, fp, tn, J, Hb, ev, Ib, T, stb, fb, q⟩ := hb
  subst ev
  refine wpAny_newObj_type (newEnv_comp ?_) (Nat.zero_le _)
  generalize eD : sb.heap.objs.size = D
  have nD : Hb D = none := Ib.hok.fresh (Nat.le_of_eq eD)
  obtain ⟨W, ⟨m0, w0⟩, turn⟩ := q D nD
  generalize es : ({ sb with heap := sb.heap.push { cls := .type "list", data := .seq ([] : List Value).toArray } } : Shared) = sc
  have eh : sc.heap = sb.heap.push { cls := .type "list", data := .seq ([] : List Value).toArray } := by rw [← es]
  have Ic : Inv X pins σ (upd Hb D (.lst [])) sc := by
    rw [← es]
    exact Ib.laid (t' := sb.toks) (fun b o e => Heap.get?_push_of_some _ e) (Nat.le_of_eq eD) ⟨Nat.zero_le _, [], 0, .nil, by rw [← eD]; exact Heap.get?_push_size _ rfl⟩
  have fc : ∀ b ∈ fp, FpOk X pins (upd Hb D (.lst [])) b ∧ b < sc.heap.objs.size := fun b hb => by
    obtain ⟨o, e, _⟩ := T.obj _ _ stb b hb
    have lt := Heap.lt_size e
    refine ⟨⟨?_, (fb b hb).2⟩, by rw [eh, Heap.size_push]; exact Nat.lt_succ_of_lt lt⟩
    rw [upd_ne (by rw [← eD]; exact Nat.ne_of_lt lt)]
    exact (fb b hb).1
  have stc : tn 0 sc.heap := T.keep _ _ _ stb fun b _ o e => by rw [eh]; exact Heap.get?_push_of_some _ e
  have Id := block_start Ic ok hN fc
  have put := hput sc (upd Hb D (.lst [])) sc.heap.objs.size (cellsFrom (sc.heap.objs.size + 1) scope.names (cloFrom X.env.cells scope.names [])) fp
  have ask := hask sc (upd Hb D (.lst [])) sc.heap.objs.size (cellsFrom (sc.heap.objs.size + 1) scope.names (cloFrom X.env.cells scope.names [])) fp
  have rest := hrest sc (upd Hb D (.lst [])) sc.heap.objs.size (cellsFrom (sc.heap.objs.size + 1) scope.names (cloFrom X.env.cells scope.names [])) fp
  have pelt := helt sc (upd Hb D (.lst [])) sc.heap.objs.size (cellsFrom (sc.heap.objs.size + 1) scope.names (cloFrom X.env.cells scope.names [])) fp
  show codeAny _ _ (.compStart (.ListComp elt (cl :: cls) scope pos) 0 (.ref it) (.ref D) (compEnvC scope (cellsFrom (sc.heap.objs.size + 1) scope.names (cloFrom X.env.cells scope.names [])) sc.heap.objs.size X.env)) (compPost (model X.prog X.w) X.A X.xe use Qf (.ref D) sc.heap.objs.size) { sc with heap := pushCells (sc.heap.push { cls := .type "dict", data := .dict #[] }) scope.names }
  generalize ee : compEnvC scope (cellsFrom (sc.heap.objs.size + 1) scope.names (cloFrom X.env.cells scope.names [])) sc.heap.objs.size X.env = ce at Id put ask rest pelt ⊢
  have eL : ce.locals = sc.heap.objs.size := by subst ee; rfl
  generalize eH : upd Hb D (.lst []) = Hc at Ic Id put ask rest pelt w0 fc
  generalize et : ({ sc with heap := pushCells (sc.heap.push { cls := .type "dict", data := .dict #[] }) scope.names } : Shared) = sd at Id ⊢
  have std : tn 0 sd.heap := T.keep _ _ _ stc fun b _ o e => by rw [← et]; exact pushCells_keeps _ _ _ _ (Heap.get?_push_of_some _ e)
  have fd : ∀ b ∈ fp, FpOk (X.blk sc Hc scope ce fp) [] Hc b := fun b hb =>
    ⟨(fc b hb).1.1, (Id.ok.exf b hb).1, Id.ok.exfs b hb, .inl hb, fun x c e => (Id.ok.exf b hb).2 x c e, fun p hp => absurd (show p ∈ ([] : List (Addr × Obj)) ++ [] from hp) (by simp)⟩
  have lp := loop_ok (Y := X.blk sc Hc scope ce fp) (gs := cl :: cls) (elt := elt) (scope := scope) (pos := pos) (D := D) (c := 0) (cl := cl) (r := ⟨wi, g, tt, own.map (·.2)⟩) (vs := top rs) (pins := []) (Stop := Q (.ref D)) (R := compPost (model X.prog X.w) X.A X.xe use Qf (.ref D) sc.heap.objs.size) (tl := tIn rs te D)
    rfl hc rfl sync put ask (rest.next rfl) sub (fun I' q z => chain (Y := X.blk sc Hc scope ce fp) rfl hc pelt cls rs 0 rest rfl I' q z) T turn (fun H' s' I' qq => ?_) Id std fd w0
  · exact start_at rfl sync lp (T.self X.A 0 _ _ _ std lp)
  · have IX : Inv X pins σ H' s' := Ic.call' (ch := fp) I'.os I'.base I'.hok I'.bare fun b hb =>
      let z := (fc b hb).1.2
      ⟨z.2.2.1, z.1, z.2.2.2.1, z.2.2.2.2⟩
    have nC : H' sc.heap.objs.size = none := by rw [← eL]; exact I'.free
    obtain ⟨m, hn, _⟩ := I'.loc
    exact out D sc.heap.objs.size s' m H' IX qq (by rw [← eL]; exact hn) (Ic.fpOk (Nat.le_refl _) nC)
/-- a comprehension with any number of clauses, as a value -/
theorem pe_lcN {elt : Expr} {cl : Comprehension} {cls : List Comprehension} {scope : Scope} {own : List (Str × Nat)} {pos : Pos} {wi : TI} {g : TG} {tt : TT} {rs : List Rd} {te : TE} (hc : X.calm = true) (hN : X.N.Nodup) (hi : PI X cl.target cl.iter wi) (ok : BlkOk X.N X.env.scope scope own) (sub : ∀ i ∈ top rs, i ∈ own.map (·.2))
    (hput : ∀ (s : Shared) (H : Hp) (C : Addr) (cs : List (Str × Addr)) (fp : List Addr), PG (X.blk s H scope (compEnvC scope cs C X.env) fp) cl.target g)
    (hask : ∀ (s : Shared) (H : Hp) (C : Addr) (cs : List (Str × Addr)) (fp : List Addr), PTs (X.blk s H scope (compEnvC scope cs C X.env) fp) cl.ifs tt)
    (hrest : ∀ (s : Shared) (H : Hp) (C : Addr) (cs : List (Str × Addr)) (fp : List Addr), ClsOk (X.blk s H scope (compEnvC scope cs C X.env) fp) cls rs)
    (helt : ∀ (s : Shared) (H : Hp) (C : Addr) (cs : List (Str × Addr)) (fp : List Addr), PE (X.blk s H scope (compEnvC scope cs C X.env) fp) elt te)
    (sync : cl.is_async = 0 := by rfl) (fold : ∀ x, foldedSetIterable cl.iter X.env x = pure x := by intro _; rfl) :
    PE X (.ListComp elt (cl :: cls) scope pos) (tLcN ⟨wi, g, tt, own.map (·.2)⟩ rs te) := by
  obtain ⟨tg, iter, ifs, a⟩ := cl
  have sync : a = 0 := sync
  subst sync
  refine ⟨fun pl t σ H Q I h => ?_⟩
  rw [eval_ListComp]
  refine core (use := none) hc hN I hi ok rfl sub hput hask hrest helt fold h fun D C s' m H' I' q hn f => ⟨m, hn, fun h'' sb => ?_⟩
  exact ⟨.ref D, H', I'.turned (t' := s'.toks) (fun b o hb e => (sb.2 b hb).trans e) f.1 f.2.1 f.2.2.2.1 f.2.2.2.2.1 f.2.2.2.2.2, rfl, q⟩
end
end TC

set_option linter.all false
/-! TAm: comprehensions over enumerate(a list) and over ranges. -/
namespace TAm
open PySem PySem.Spec PyProof.Rows L2
theorem lco_enum {K : PySem.W.Frag} {a : Addr} {xs : List V} {H0 : Hp} {Qd : Hp → Prop} {B : V → Hp → (Hp → Prop) → Prop} (Pv : Nat → Hp → Prop) (h0 : Pv 0 H0) (hl : ∀ i H, i ≤ xs.length → Pv i H → SqL K H a xs)
    (hs : ∀ i x H T, xs[i]? = some x → Pv i H → H T = none → B (.ref T) (upd H T (.tup [.int (i : Nat), x])) (Pv (i + 1))) (hd : ∀ H, Pv xs.length H → Qd H) :
    ∃ W : Nat → Nat → Hp → Prop, (∃ m, W 0 m H0) ∧ ∀ i m H, W i m H →
      ((Ite K a).stop i H ∧ Qd H) ∨ ((Ite K a).go i H ∧ ∃ Nx : Hp → Prop, (∀ H', Nx H' → ∃ m', m' < m ∧ W (i + 1) m' H') ∧ ∀ x H', (Ite K a).yld i H x H' → B x H' Nx) := by
  refine ⟨fun i m H => m = xs.length - i ∧ i ≤ xs.length ∧ Pv i H, ⟨xs.length, by simp, Nat.zero_le _, h0⟩, ?_⟩
  rintro i m H ⟨rfl, hi, p⟩
  have q := hl i H hi p
  by_cases hlt : i < xs.length
  · refine .inr ⟨⟨xs, xs[i], q, List.getElem?_eq_getElem hlt⟩, Pv (i + 1), fun H' z => ⟨xs.length - (i + 1), by omega, rfl, hlt, z⟩, fun v H' y => ?_⟩
    obtain ⟨T, x, rfl, hT, rfl, hx⟩ := y
    exact hs i x H T (hx xs q) p hT
  · have : i = xs.length := by omega
    subst this
    exact .inl ⟨⟨xs, q, by omega⟩, hd H p⟩
theorem lco_range {lo : Int} {n : Nat} {H0 : Hp} {Qd : Hp → Prop} {B : V → Hp → (Hp → Prop) → Prop} (Pv : Nat → Hp → Prop) (h0 : Pv 0 H0)
    (hs : ∀ i H, i < n → Pv i H → B (.int (lo + i)) H (Pv (i + 1))) (hd : ∀ H, Pv n H → Qd H) :
    ∃ W : Nat → Nat → Hp → Prop, (∃ m, W 0 m H0) ∧ ∀ i m H, W i m H →
      ((Itr lo n).stop i H ∧ Qd H) ∨ ((Itr lo n).go i H ∧ ∃ Nx : Hp → Prop, (∀ H', Nx H' → ∃ m', m' < m ∧ W (i + 1) m' H') ∧ ∀ x H', (Itr lo n).yld i H x H' → B x H' Nx) := by
  refine ⟨fun i m H => m = n - i ∧ i ≤ n ∧ Pv i H, ⟨n, by simp, Nat.zero_le _, h0⟩, ?_⟩
  rintro i m H ⟨rfl, hi, p⟩
  by_cases hlt : i < n
  · refine .inr ⟨hlt, Pv (i + 1), fun H' p' => ⟨n - (i + 1), by omega, rfl, hlt, p'⟩, fun x H' y => ?_⟩
    obtain ⟨e, y⟩ := y
    subst e y
    exact hs i _ hlt p
  · have e : i = n := by omega
    subst e
    exact .inl ⟨Nat.le_refl _, hd H p⟩
end TAm

namespace Toy
open PySem L2 TT TX TR TQ TV TU TY CwR
def top (i : Nat) : Stmt := PySem.Challenge.pw_treeturns_k74_ways_by_the_arm.main.body.getD i (.Pass ⟨0, 0, 0, 0⟩)
def ini : Stmt → Stmt
  | .ClassDef (body := b) .. => b.headD (.Pass ⟨0, 0, 0, 0⟩)
  | s => s
abbrev i_InvalidTree : Stmt := ini (top 3)
theorem si_InvalidTree : FnScope ["self", "value"] ["self", "value"] (defScope i_InvalidTree) := ⟨rfl, rfl, rfl, by decide +kernel, rfl, by decide +kernel, by decide +kernel⟩
abbrev i_InvalidList : Stmt := ini (top 4)
theorem si_InvalidList : FnScope ["self", "value"] ["self", "value"] (defScope i_InvalidList) := ⟨rfl, rfl, rfl, by decide +kernel, rfl, by decide +kernel, by decide +kernel⟩
abbrev i_InvalidScript : Stmt := ini (top 5)
theorem si_InvalidScript : FnScope ["self", "value"] ["self", "value"] (defScope i_InvalidScript) := ⟨rfl, rfl, rfl, by decide +kernel, rfl, by decide +kernel, by decide +kernel⟩
abbrev i_InvalidMove : Stmt := ini (top 6)
theorem si_InvalidMove : FnScope ["self", "value"] ["self", "value"] (defScope i_InvalidMove) := ⟨rfl, rfl, rfl, by decide +kernel, rfl, by decide +kernel, by decide +kernel⟩
abbrev i_CannotMove : Stmt := ini (top 7)
theorem si_CannotMove : FnScope ["self", "value"] ["self", "value"] (defScope i_CannotMove) := ⟨rfl, rfl, rfl, by decide +kernel, rfl, by decide +kernel, by decide +kernel⟩
abbrev s_is_tree : Stmt := top 9
abbrev nm_is_tree : List Str := ["value", "awaited", "sign", "want"]
theorem sc_is_tree : FnScope ["value", "awaited", "sign", "want"] ["value"] (defScope s_is_tree) := ⟨rfl, rfl, rfl, by decide +kernel, rfl, by decide +kernel, by decide +kernel⟩
abbrev s_is_address : Stmt := top 10
abbrev nm_is_address : List Str := ["value"]
theorem sc_is_address : FnScope ["value"] ["value"] (defScope s_is_address) := ⟨rfl, rfl, rfl, by decide +kernel, rfl, by decide +kernel, by decide +kernel⟩
abbrev s_check_tree : Stmt := top 11
abbrev nm_check_tree : List Str := ["value"]
theorem sc_check_tree : FnScope ["value"] ["value"] (defScope s_check_tree) := ⟨rfl, rfl, rfl, by decide +kernel, rfl, by decide +kernel, by decide +kernel⟩
abbrev s_size : Stmt := top 12
abbrev nm_size : List Str := ["tree"]
theorem sc_size : FnScope ["tree"] ["tree"] (defScope s_size) := ⟨rfl, rfl, rfl, by decide +kernel, rfl, by decide +kernel, by decide +kernel⟩
abbrev s_ends : Stmt := top 13
abbrev nm_ends : List Str := ["tree", "behind", "begun", "at", "sign"]
theorem sc_ends : FnScope ["tree", "behind", "begun", "at", "sign"] ["tree"] (defScope s_ends) := ⟨rfl, rfl, rfl, by decide +kernel, rfl, by decide +kernel, by decide +kernel⟩
abbrev s_addressed : Stmt := top 14
abbrev nm_addressed : List Str := ["tree", "found", "ahead", "sign", "address"]
theorem sc_addressed : FnScope ["tree", "found", "ahead", "sign", "address"] ["tree"] (defScope s_addressed) := ⟨rfl, rfl, rfl, by decide +kernel, rfl, by decide +kernel, by decide +kernel⟩
abbrev s_leaves : Stmt := top 15
abbrev nm_leaves : List Str := ["tree", "address", "sign"]
theorem sc_leaves : FnScope ["tree", "address", "sign"] ["tree"] (defScope s_leaves) := ⟨rfl, rfl, rfl, by decide +kernel, rfl, by decide +kernel, by decide +kernel⟩
abbrev s_from_leaves : Stmt := top 16
abbrev nm_from_leaves : List Str := ["addresses", "begun", "address", "ended", "opening", "closing"]
theorem sc_from_leaves : FnScope ["addresses", "begun", "address", "ended", "opening", "closing"] ["addresses"] (defScope s_from_leaves) := ⟨rfl, rfl, rfl, by decide +kernel, rfl, by decide +kernel, by decide +kernel⟩
abbrev s_check_hung : Stmt := top 17
abbrev nm_check_hung : List Str := ["tree", "trees", "item"]
theorem sc_check_hung : FnScope ["tree", "trees", "item"] ["tree", "trees"] (defScope s_check_hung) := ⟨rfl, rfl, rfl, by decide +kernel, rfl, by decide +kernel, by decide +kernel⟩
abbrev s_grown : Stmt := top 18
abbrev nm_grown : List Str := ["tree", "hung", "texts", "item", "text"]
theorem sc_grown : FnScope ["tree", "hung", "texts", "item", "text"] ["tree", "hung"] (defScope s_grown) := ⟨rfl, rfl, rfl, by decide +kernel, rfl, by decide +kernel, by decide +kernel⟩
abbrev s_hung : Stmt := top 19
abbrev nm_hung : List Str := ["tree", "top", "behind", "found", "at", "sign"]
theorem sc_hung : FnScope ["tree", "top", "behind", "found", "at", "sign"] ["tree", "top"] (defScope s_hung) := ⟨rfl, rfl, rfl, by decide +kernel, rfl, by decide +kernel, by decide +kernel⟩
abbrev s_joined : Stmt := top 20
abbrev nm_joined : List Str := ["one", "other", "top", "mine", "its"]
theorem sc_joined : FnScope ["one", "other", "top", "mine", "its"] ["one", "other"] (defScope s_joined) := ⟨rfl, rfl, rfl, by decide +kernel, rfl, by decide +kernel, by decide +kernel⟩
abbrev s_shared : Stmt := top 21
abbrev nm_shared : List Str := ["one", "other", "behind_one", "behind_other", "signs", "at", "to"]
theorem sc_shared : FnScope ["one", "other", "behind_one", "behind_other", "signs", "at", "to"] ["one", "other"] (defScope s_shared) := ⟨rfl, rfl, rfl, by decide +kernel, rfl, by decide +kernel, by decide +kernel⟩
abbrev s_is_step : Stmt := top 24
abbrev nm_is_step : List Str := ["value"]
theorem sc_is_step : FnScope ["value"] ["value"] (defScope s_is_step) := ⟨rfl, rfl, rfl, by decide +kernel, rfl, by decide +kernel, by decide +kernel⟩
abbrev s_checked_script : Stmt := top 25
abbrev nm_checked_script : List Str := ["steps", "step", "word", "address"]
theorem sc_checked_script : FnScope ["steps", "step", "word", "address"] ["steps"] (defScope s_checked_script) := ⟨rfl, rfl, rfl, by decide +kernel, rfl, by decide +kernel, by decide +kernel⟩
abbrev s_written : Stmt := top 27
abbrev nm_written : List Str := ["pairs", "signs", "ahead", "number", "left", "right"]
theorem sc_written : FnScope ["pairs", "signs", "ahead", "number", "left", "right"] ["pairs"] (defScope s_written) := ⟨rfl, rfl, rfl, by decide +kernel, rfl, by decide +kernel, by decide +kernel⟩
abbrev s_pair_of : Stmt := top 28
abbrev nm_pair_of : List Str := ["steps", "growth", "word", "address"]
theorem sc_pair_of : FnScope ["steps", "growth", "word", "address"] ["steps"] (defScope s_pair_of) := ⟨rfl, rfl, rfl, by decide +kernel, rfl, by decide +kernel, by decide +kernel⟩
abbrev s_opposite : Stmt := top 29
abbrev nm_opposite : List Str := ["steps", "word", "address"]
theorem sc_opposite : FnScope ["steps", "word", "address"] ["steps"] (defScope s_opposite) := ⟨rfl, rfl, rfl, by decide +kernel, rfl, by decide +kernel, by decide +kernel⟩
abbrev s_moved : Stmt := top 31
abbrev nm_moved : List Str := ["tree", "before", "after", "trees"]
theorem sc_moved : FnScope ["tree", "before", "after", "trees"] ["tree", "before", "after"] (defScope s_moved) := ⟨rfl, rfl, rfl, by decide +kernel, rfl, by decide +kernel, by decide +kernel⟩
abbrev s_check_move : Stmt := top 33
abbrev nm_check_move : List Str := ["value"]
theorem sc_check_move : FnScope ["value"] ["value"] (defScope s_check_move) := ⟨rfl, rfl, rfl, by decide +kernel, rfl, by decide +kernel, by decide +kernel⟩
abbrev s_left_beside : Stmt := top 34
abbrev nm_left_beside : List Str := ["address"]
theorem sc_left_beside : FnScope ["address"] ["address"] (defScope s_left_beside) := ⟨rfl, rfl, rfl, by decide +kernel, rfl, by decide +kernel, by decide +kernel⟩
abbrev s_paired : Stmt := top 35
abbrev nm_paired : List Str := ["move", "found", "source", "target"]
theorem sc_paired : FnScope ["move", "found", "source", "target"] ["move"] (defScope s_paired) := ⟨rfl, rfl, rfl, by decide +kernel, rfl, by decide +kernel, by decide +kernel⟩
abbrev s_widest : Stmt := top 36
abbrev nm_widest : List Str := ["move", "pairs", "source", "target"]
theorem sc_widest : FnScope ["move", "pairs", "source", "target"] ["move"] (defScope s_widest) := ⟨rfl, rfl, rfl, by decide +kernel, rfl, by decide +kernel, by decide +kernel⟩
abbrev s_begun_off_arm : Stmt := top 38
abbrev nm_begun_off_arm : List Str := ["address", "top", "begun", "on_arm"]
theorem sc_begun_off_arm : FnScope ["address", "top", "begun", "on_arm"] ["address"] (defScope s_begun_off_arm) := ⟨rfl, rfl, rfl, by decide +kernel, rfl, by decide +kernel, by decide +kernel⟩
abbrev s_counts : Stmt := top 39
abbrev nm_counts : List Str := ["tree", "address"]
theorem sc_counts : FnScope ["tree", "address"] ["tree"] (defScope s_counts) := ⟨rfl, rfl, rfl, by decide +kernel, rfl, by decide +kernel, by decide +kernel⟩
abbrev s_arm_steps : Stmt := top 40
abbrev nm_arm_steps : List Str := ["numbers", "index", "many", "_"]
theorem sc_arm_steps : FnScope ["numbers", "index", "many", "_"] ["numbers"] (defScope s_arm_steps) := ⟨rfl, rfl, rfl, by decide +kernel, rfl, by decide +kernel, by decide +kernel⟩
abbrev s_arm_script : Stmt := top 41
abbrev nm_arm_script : List Str := ["move", "wide"]
theorem sc_arm_script : FnScope ["move", "wide"] ["move"] (defScope s_arm_script) := ⟨rfl, rfl, rfl, by decide +kernel, rfl, by decide +kernel, by decide +kernel⟩
abbrev s_check_both : Stmt := top 43
abbrev nm_check_both : List Str := ["one", "other"]
theorem sc_check_both : FnScope ["one", "other"] ["one", "other"] (defScope s_check_both) := ⟨rfl, rfl, rfl, by decide +kernel, rfl, by decide +kernel, by decide +kernel⟩
abbrev s_arm_way : Stmt := top 44
abbrev nm_arm_way : List Str := ["one", "other"]
theorem sc_arm_way : FnScope ["one", "other"] ["one", "other"] (defScope s_arm_way) := ⟨rfl, rfl, rfl, by decide +kernel, rfl, by decide +kernel, by decide +kernel⟩
abbrev s_law_mixed : Stmt := top 46
abbrev nm_law_mixed : List Str := ["_law_cell", "_law_k", "_law_number"]
theorem sc_law_mixed : FnScope ["_law_cell", "_law_k", "_law_number"] ["_law_cell", "_law_k"] (defScope s_law_mixed) := ⟨rfl, rfl, rfl, by decide +kernel, rfl, by decide +kernel, by decide +kernel⟩
abbrev s_law_purse : Stmt := top 47
abbrev nm_law_purse : List Str := ["_law_script", "_law_at", "_law_cell"]
theorem sc_law_purse : FnScope ["_law_script", "_law_at", "_law_cell"] ["_law_script", "_law_at"] (defScope s_law_purse) := ⟨rfl, rfl, rfl, by decide +kernel, rfl, by decide +kernel, by decide +kernel⟩
abbrev s_law_draw : Stmt := top 48
abbrev nm_law_draw : List Str := ["_law_purse_here", "_law_out_of", "_law_drawn", "_law_number", "_law_k"]
theorem sc_law_draw : FnScope ["_law_purse_here", "_law_out_of", "_law_drawn", "_law_number", "_law_k"] ["_law_purse_here", "_law_out_of"] (defScope s_law_draw) := ⟨rfl, rfl, rfl, by decide +kernel, rfl, by decide +kernel, by decide +kernel⟩
abbrev s_law_nest : Stmt := top 49
abbrev nm_law_nest : List Str := ["_law_purse_here", "_law_count", "_law_left"]
theorem sc_law_nest : FnScope ["_law_purse_here", "_law_count", "_law_left"] ["_law_purse_here", "_law_count"] (defScope s_law_nest) := ⟨rfl, rfl, rfl, by decide +kernel, rfl, by decide +kernel, by decide +kernel⟩
abbrev s_law_text : Stmt := top 50
abbrev nm_law_text : List Str := ["_law_nest_here"]
theorem sc_law_text : FnScope ["_law_nest_here"] ["_law_nest_here"] (defScope s_law_text) := ⟨rfl, rfl, rfl, by decide +kernel, rfl, by decide +kernel, by decide +kernel⟩
abbrev s_law_width : Stmt := top 51
abbrev nm_law_width : List Str := ["_law_nest_here"]
theorem sc_law_width : FnScope ["_law_nest_here"] ["_law_nest_here"] (defScope s_law_width) := ⟨rfl, rfl, rfl, by decide +kernel, rfl, by decide +kernel, by decide +kernel⟩
abbrev s_law_spins : Stmt := top 52
abbrev nm_law_spins : List Str := ["_law_nest_here", "_law_address", "_law_left", "_law_right", "_law_found", "_law_step", "_law_other"]
theorem sc_law_spins : FnScope ["_law_nest_here", "_law_address", "_law_left", "_law_right", "_law_found", "_law_step", "_law_other"] ["_law_nest_here", "_law_address"] (defScope s_law_spins) := ⟨rfl, rfl, rfl, by decide +kernel, rfl, by decide +kernel, by decide +kernel⟩
abbrev s_law_off : Stmt := top 54
abbrev nm_law_off : List Str := ["_law_nest_here", "_law_on"]
theorem sc_law_off : FnScope ["_law_nest_here", "_law_on"] ["_law_nest_here", "_law_on"] (defScope s_law_off) := ⟨rfl, rfl, rfl, by decide +kernel, rfl, by decide +kernel, by decide +kernel⟩
abbrev s_law_twins : Stmt := top 55
abbrev nm_law_twins : List Str := ["_law_nest_here", "_law_start"]
theorem sc_law_twins : FnScope ["_law_nest_here", "_law_start"] ["_law_nest_here", "_law_start"] (defScope s_law_twins) := ⟨rfl, rfl, rfl, by decide +kernel, rfl, by decide +kernel, by decide +kernel⟩
abbrev s_law_cut : Stmt := top 56
abbrev nm_law_cut : List Str := ["_law_nest_here", "_law_start", "_law_found", "_law_middle"]
theorem sc_law_cut : FnScope ["_law_nest_here", "_law_start", "_law_found", "_law_middle"] ["_law_nest_here", "_law_start", "_law_found"] (defScope s_law_cut) := ⟨rfl, rfl, rfl, by decide +kernel, rfl, by decide +kernel, by decide +kernel⟩
abbrev s_law_least : Stmt := top 57
abbrev nm_law_least : List Str := ["_law_one", "_law_other", "_law_found", "_law_there", "_law_start"]
theorem sc_law_least : FnScope ["_law_one", "_law_other", "_law_found", "_law_there", "_law_start"] ["_law_one", "_law_other"] (defScope s_law_least) := ⟨rfl, rfl, rfl, by decide +kernel, rfl, by decide +kernel, by decide +kernel⟩
abbrev s_law_led : Stmt := top 58
abbrev nm_law_led : List Str := ["_law_nest_here", "_law_script", "_law_word", "_law_address", "_law_sign", "_law_found", "_law_step", "_law_other"]
theorem sc_law_led : FnScope ["_law_nest_here", "_law_script", "_law_word", "_law_address", "_law_sign", "_law_found", "_law_step", "_law_other"] ["_law_nest_here", "_law_script"] (defScope s_law_led) := ⟨rfl, rfl, rfl, by decide +kernel, rfl, by decide +kernel, by decide +kernel⟩
abbrev s_law_arm : Stmt := top 59
abbrev nm_law_arm : List Str := ["_law_nest_here", "_law_found", "_law_spine", "_law_left", "_law_right", "_law_address", "_law_made", "_law_step", "_law_other", "_law_one"]
theorem sc_law_arm : FnScope ["_law_nest_here", "_law_found", "_law_spine", "_law_left", "_law_right", "_law_address", "_law_made", "_law_step", "_law_other", "_law_one"] ["_law_nest_here"] (defScope s_law_arm) := ⟨rfl, rfl, rfl, by decide +kernel, rfl, by decide +kernel, by decide +kernel⟩
abbrev s_law : Stmt := top 60
abbrev nm_law : List Str := ["_law_script", "_law_cell", "_law_purse_here", "_law_many", "_law_one", "_law_near", "_law_turn", "_law_some", "_law_other", "_law_told"]
theorem sc_law : FnScope ["_law_script", "_law_cell", "_law_purse_here", "_law_many", "_law_one", "_law_near", "_law_turn", "_law_some", "_law_other", "_law_told"] ["_law_script"] (defScope s_law) := ⟨rfl, rfl, rfl, by decide +kernel, rfl, by decide +kernel, by decide +kernel⟩
abbrev s_Growth___init__ : Stmt := inClass (top 26) 0
abbrev nm_Growth___init__ : List Str := ["self"]
theorem sc_Growth___init__ : FnScope ["self"] ["self"] (defScope s_Growth___init__) := ⟨rfl, rfl, rfl, by decide +kernel, rfl, by decide +kernel, by decide +kernel⟩
abbrev s_Growth_unfold : Stmt := inClass (top 26) 1
abbrev nm_Growth_unfold : List Str := ["self", "number", "pair"]
theorem sc_Growth_unfold : FnScope ["self", "number", "pair"] ["self", "number"] (defScope s_Growth_unfold) := ⟨rfl, rfl, rfl, by decide +kernel, rfl, by decide +kernel, by decide +kernel⟩
abbrev s_Growth_sides : Stmt := inClass (top 26) 2
abbrev nm_Growth_sides : List Str := ["self", "number"]
theorem sc_Growth_sides : FnScope ["self", "number"] ["self", "number"] (defScope s_Growth_sides) := ⟨rfl, rfl, rfl, by decide +kernel, rfl, by decide +kernel, by decide +kernel⟩
abbrev s_Growth_turn : Stmt := inClass (top 26) 3
abbrev nm_Growth_turn : List Str := ["self", "word", "address", "top", "letter", "left", "right", "outer", "inner"]
theorem sc_Growth_turn : FnScope ["self", "word", "address", "top", "letter", "left", "right", "outer", "inner"] ["self", "word", "address"] (defScope s_Growth_turn) := ⟨rfl, rfl, rfl, by decide +kernel, rfl, by decide +kernel, by decide +kernel⟩
abbrev s_Move___init__ : Stmt := inClass (top 32) 0
abbrev nm_Move___init__ : List Str := ["self", "before", "after"]
theorem sc_Move___init__ : FnScope ["self", "before", "after"] ["self", "before", "after"] (defScope s_Move___init__) := ⟨rfl, rfl, rfl, by decide +kernel, rfl, by decide +kernel, by decide +kernel⟩
abbrev s_Move_of : Stmt := inClass (top 32) 1
abbrev nm_Move_of : List Str := ["steps", "before", "after"]
theorem sc_Move_of : FnScope ["steps", "before", "after"] ["steps"] (defScope s_Move_of) := ⟨rfl, rfl, rfl, by decide +kernel, rfl, by decide +kernel, by decide +kernel⟩
abbrev s_Move_before : Stmt := inClass (top 32) 2
abbrev nm_Move_before : List Str := ["self"]
theorem sc_Move_before : FnScope ["self"] ["self"] (defScope s_Move_before) := ⟨rfl, rfl, rfl, by decide +kernel, rfl, by decide +kernel, by decide +kernel⟩
abbrev s_Move_after : Stmt := inClass (top 32) 3
abbrev nm_Move_after : List Str := ["self"]
theorem sc_Move_after : FnScope ["self"] ["self"] (defScope s_Move_after) := ⟨rfl, rfl, rfl, by decide +kernel, rfl, by decide +kernel, by decide +kernel⟩
abbrev s_Move___call__ : Stmt := inClass (top 32) 4
abbrev nm_Move___call__ : List Str := ["self", "tree"]
theorem sc_Move___call__ : FnScope ["self", "tree"] ["self", "tree"] (defScope s_Move___call__) := ⟨rfl, rfl, rfl, by decide +kernel, rfl, by decide +kernel, by decide +kernel⟩
abbrev s_Move_can : Stmt := inClass (top 32) 5
abbrev nm_Move_can : List Str := ["self", "tree"]
theorem sc_Move_can : FnScope ["self", "tree"] ["self", "tree"] (defScope s_Move_can) := ⟨rfl, rfl, rfl, by decide +kernel, rfl, by decide +kernel, by decide +kernel⟩
abbrev s_Move___eq__ : Stmt := inClass (top 32) 6
abbrev nm_Move___eq__ : List Str := ["self", "other"]
theorem sc_Move___eq__ : FnScope ["self", "other"] ["self", "other"] (defScope s_Move___eq__) := ⟨rfl, rfl, rfl, by decide +kernel, rfl, by decide +kernel, by decide +kernel⟩
abbrev s_Move___repr__ : Stmt := inClass (top 32) 7
abbrev nm_Move___repr__ : List Str := ["self"]
theorem sc_Move___repr__ : FnScope ["self"] ["self"] (defScope s_Move___repr__) := ⟨rfl, rfl, rfl, by decide +kernel, rfl, by decide +kernel, by decide +kernel⟩
abbrev s_Move___mul__ : Stmt := inClass (top 32) 8
abbrev nm_Move___mul__ : List Str := ["self", "other", "middle", "before"]
theorem sc_Move___mul__ : FnScope ["self", "other", "middle", "before"] ["self", "other"] (defScope s_Move___mul__) := ⟨rfl, rfl, rfl, by decide +kernel, rfl, by decide +kernel, by decide +kernel⟩
abbrev s_Move___invert__ : Stmt := inClass (top 32) 9
abbrev nm_Move___invert__ : List Str := ["self"]
theorem sc_Move___invert__ : FnScope ["self"] ["self"] (defScope s_Move___invert__) := ⟨rfl, rfl, rfl, by decide +kernel, rfl, by decide +kernel, by decide +kernel⟩
abbrev s_Move___le__ : Stmt := inClass (top 32) 11
abbrev nm_Move___le__ : List Str := ["self", "other", "trees"]
theorem sc_Move___le__ : FnScope ["self", "other", "trees"] ["self", "other"] (defScope s_Move___le__) := ⟨rfl, rfl, rfl, by decide +kernel, rfl, by decide +kernel, by decide +kernel⟩
abbrev s_Move___lt__ : Stmt := inClass (top 32) 12
abbrev nm_Move___lt__ : List Str := ["self", "other"]
theorem sc_Move___lt__ : FnScope ["self", "other"] ["self", "other"] (defScope s_Move___lt__) := ⟨rfl, rfl, rfl, by decide +kernel, rfl, by decide +kernel, by decide +kernel⟩
abbrev s_Move___ge__ : Stmt := inClass (top 32) 13
abbrev nm_Move___ge__ : List Str := ["self", "other"]
theorem sc_Move___ge__ : FnScope ["self", "other"] ["self", "other"] (defScope s_Move___ge__) := ⟨rfl, rfl, rfl, by decide +kernel, rfl, by decide +kernel, by decide +kernel⟩
abbrev s_Move___gt__ : Stmt := inClass (top 32) 14
abbrev nm_Move___gt__ : List Str := ["self", "other"]
theorem sc_Move___gt__ : FnScope ["self", "other"] ["self", "other"] (defScope s_Move___gt__) := ⟨rfl, rfl, rfl, by decide +kernel, rfl, by decide +kernel, by decide +kernel⟩
abbrev veL : List Value := [.type "ValueError", .type "Exception", .type "BaseException", .type "object"]
abbrev kv_OTHER_WORD : List (Str × Str) := [("left", "right"), ("right", "left")]
structure Txt (w : World) (K : PySem.W.Frag) (mg : Str → Option Value) where
  c_TurnError : Addr
  g_TurnError : mg "TurnError" = some (.ref c_TurnError)
  e_TurnError : ErrC K c_TurnError (.ref c_TurnError :: veL)
  c_InvalidTree : Addr
  o_InvalidTree : OwnE K mg "InvalidTree" c_InvalidTree "value" "value"
  g_InvalidTree : mg "InvalidTree" = some (.ref c_InvalidTree)
  e_InvalidTree : ErrC K c_InvalidTree (.ref c_InvalidTree :: .ref c_TurnError :: veL)
  x_InvalidTree : XfC K c_InvalidTree
  n_InvalidTree : PySem.W.findIn K (.ref c_InvalidTree) "value" = some none
  c_InvalidList : Addr
  o_InvalidList : OwnE K mg "InvalidList" c_InvalidList "value" "value"
  g_InvalidList : mg "InvalidList" = some (.ref c_InvalidList)
  e_InvalidList : ErrC K c_InvalidList (.ref c_InvalidList :: .ref c_TurnError :: veL)
  x_InvalidList : XfC K c_InvalidList
  n_InvalidList : PySem.W.findIn K (.ref c_InvalidList) "value" = some none
  c_InvalidScript : Addr
  o_InvalidScript : OwnE K mg "InvalidScript" c_InvalidScript "value" "value"
  g_InvalidScript : mg "InvalidScript" = some (.ref c_InvalidScript)
  e_InvalidScript : ErrC K c_InvalidScript (.ref c_InvalidScript :: .ref c_TurnError :: veL)
  x_InvalidScript : XfC K c_InvalidScript
  n_InvalidScript : PySem.W.findIn K (.ref c_InvalidScript) "value" = some none
  c_InvalidMove : Addr
  o_InvalidMove : OwnE K mg "InvalidMove" c_InvalidMove "value" "value"
  g_InvalidMove : mg "InvalidMove" = some (.ref c_InvalidMove)
  e_InvalidMove : ErrC K c_InvalidMove (.ref c_InvalidMove :: .ref c_TurnError :: veL)
  x_InvalidMove : XfC K c_InvalidMove
  n_InvalidMove : PySem.W.findIn K (.ref c_InvalidMove) "value" = some none
  c_CannotMove : Addr
  o_CannotMove : OwnE K mg "CannotMove" c_CannotMove "value" "value"
  g_CannotMove : mg "CannotMove" = some (.ref c_CannotMove)
  e_CannotMove : ErrC K c_CannotMove (.ref c_CannotMove :: .ref c_TurnError :: veL)
  x_CannotMove : XfC K c_CannotMove
  n_CannotMove : PySem.W.findIn K (.ref c_CannotMove) "value" = some none
  nd : [c_InvalidTree, c_InvalidList, c_InvalidScript, c_InvalidMove, c_CannotMove, c_TurnError].Nodup
  a_is_tree : Addr
  fd_is_tree : FuncData
  F_is_tree : Fun K "is_tree" "is_tree" s_is_tree a_is_tree fd_is_tree
  b_is_tree : Binds K fd_is_tree ["value"] []
  m_is_tree : mg "is_tree" = some (.ref a_is_tree)
  a_is_address : Addr
  fd_is_address : FuncData
  F_is_address : Fun K "is_address" "is_address" s_is_address a_is_address fd_is_address
  b_is_address : Binds K fd_is_address ["value"] []
  m_is_address : mg "is_address" = some (.ref a_is_address)
  a_check_tree : Addr
  fd_check_tree : FuncData
  F_check_tree : Fun K "check_tree" "check_tree" s_check_tree a_check_tree fd_check_tree
  b_check_tree : Binds K fd_check_tree ["value"] []
  m_check_tree : mg "check_tree" = some (.ref a_check_tree)
  a_size : Addr
  fd_size : FuncData
  F_size : Fun K "size" "size" s_size a_size fd_size
  b_size : Binds K fd_size ["tree"] []
  m_size : mg "size" = some (.ref a_size)
  a_ends : Addr
  fd_ends : FuncData
  F_ends : Fun K "ends" "ends" s_ends a_ends fd_ends
  b_ends : Binds K fd_ends ["tree"] []
  m_ends : mg "ends" = some (.ref a_ends)
  a_addressed : Addr
  fd_addressed : FuncData
  F_addressed : Fun K "addressed" "addressed" s_addressed a_addressed fd_addressed
  b_addressed : Binds K fd_addressed ["tree"] []
  m_addressed : mg "addressed" = some (.ref a_addressed)
  a_leaves : Addr
  fd_leaves : FuncData
  F_leaves : Fun K "leaves" "leaves" s_leaves a_leaves fd_leaves
  b_leaves : Binds K fd_leaves ["tree"] []
  m_leaves : mg "leaves" = some (.ref a_leaves)
  a_from_leaves : Addr
  fd_from_leaves : FuncData
  F_from_leaves : Fun K "from_leaves" "from_leaves" s_from_leaves a_from_leaves fd_from_leaves
  b_from_leaves : Binds K fd_from_leaves ["addresses"] []
  m_from_leaves : mg "from_leaves" = some (.ref a_from_leaves)
  a_check_hung : Addr
  fd_check_hung : FuncData
  F_check_hung : Fun K "check_hung" "check_hung" s_check_hung a_check_hung fd_check_hung
  b_check_hung : Binds K fd_check_hung ["tree", "trees"] []
  m_check_hung : mg "check_hung" = some (.ref a_check_hung)
  a_grown : Addr
  fd_grown : FuncData
  F_grown : Fun K "grown" "grown" s_grown a_grown fd_grown
  b_grown : Binds K fd_grown ["tree", "hung"] []
  m_grown : mg "grown" = some (.ref a_grown)
  a_hung : Addr
  fd_hung : FuncData
  F_hung : Fun K "hung" "hung" s_hung a_hung fd_hung
  b_hung : Binds K fd_hung ["tree", "top"] []
  m_hung : mg "hung" = some (.ref a_hung)
  a_joined : Addr
  fd_joined : FuncData
  F_joined : Fun K "joined" "joined" s_joined a_joined fd_joined
  b_joined : Binds K fd_joined ["one", "other"] []
  m_joined : mg "joined" = some (.ref a_joined)
  a_shared : Addr
  fd_shared : FuncData
  F_shared : Fun K "shared" "shared" s_shared a_shared fd_shared
  b_shared : Binds K fd_shared ["one", "other"] []
  m_shared : mg "shared" = some (.ref a_shared)
  a_is_step : Addr
  fd_is_step : FuncData
  F_is_step : Fun K "is_step" "is_step" s_is_step a_is_step fd_is_step
  b_is_step : Binds K fd_is_step ["value"] []
  m_is_step : mg "is_step" = some (.ref a_is_step)
  a_checked_script : Addr
  fd_checked_script : FuncData
  F_checked_script : Fun K "checked_script" "checked_script" s_checked_script a_checked_script fd_checked_script
  b_checked_script : Binds K fd_checked_script ["steps"] []
  m_checked_script : mg "checked_script" = some (.ref a_checked_script)
  a_written : Addr
  fd_written : FuncData
  F_written : Fun K "written" "written" s_written a_written fd_written
  b_written : Binds K fd_written ["pairs"] []
  m_written : mg "written" = some (.ref a_written)
  a_pair_of : Addr
  fd_pair_of : FuncData
  F_pair_of : Fun K "pair_of" "pair_of" s_pair_of a_pair_of fd_pair_of
  b_pair_of : Binds K fd_pair_of ["steps"] []
  m_pair_of : mg "pair_of" = some (.ref a_pair_of)
  a_opposite : Addr
  fd_opposite : FuncData
  F_opposite : Fun K "opposite" "opposite" s_opposite a_opposite fd_opposite
  b_opposite : Binds K fd_opposite ["steps"] []
  m_opposite : mg "opposite" = some (.ref a_opposite)
  a_moved : Addr
  fd_moved : FuncData
  F_moved : Fun K "moved" "moved" s_moved a_moved fd_moved
  b_moved : Binds K fd_moved ["tree", "before", "after"] []
  m_moved : mg "moved" = some (.ref a_moved)
  a_check_move : Addr
  fd_check_move : FuncData
  F_check_move : Fun K "check_move" "check_move" s_check_move a_check_move fd_check_move
  b_check_move : Binds K fd_check_move ["value"] []
  m_check_move : mg "check_move" = some (.ref a_check_move)
  a_left_beside : Addr
  fd_left_beside : FuncData
  F_left_beside : Fun K "left_beside" "left_beside" s_left_beside a_left_beside fd_left_beside
  b_left_beside : Binds K fd_left_beside ["address"] []
  m_left_beside : mg "left_beside" = some (.ref a_left_beside)
  a_paired : Addr
  fd_paired : FuncData
  F_paired : Fun K "paired" "paired" s_paired a_paired fd_paired
  b_paired : Binds K fd_paired ["move"] []
  m_paired : mg "paired" = some (.ref a_paired)
  a_widest : Addr
  fd_widest : FuncData
  F_widest : Fun K "widest" "widest" s_widest a_widest fd_widest
  b_widest : Binds K fd_widest ["move"] []
  m_widest : mg "widest" = some (.ref a_widest)
  a_begun_off_arm : Addr
  fd_begun_off_arm : FuncData
  F_begun_off_arm : Fun K "begun_off_arm" "begun_off_arm" s_begun_off_arm a_begun_off_arm fd_begun_off_arm
  b_begun_off_arm : Binds K fd_begun_off_arm ["address"] []
  m_begun_off_arm : mg "begun_off_arm" = some (.ref a_begun_off_arm)
  a_counts : Addr
  fd_counts : FuncData
  F_counts : Fun K "counts" "counts" s_counts a_counts fd_counts
  b_counts : Binds K fd_counts ["tree"] []
  m_counts : mg "counts" = some (.ref a_counts)
  a_arm_steps : Addr
  fd_arm_steps : FuncData
  F_arm_steps : Fun K "arm_steps" "arm_steps" s_arm_steps a_arm_steps fd_arm_steps
  b_arm_steps : Binds K fd_arm_steps ["numbers"] []
  m_arm_steps : mg "arm_steps" = some (.ref a_arm_steps)
  a_arm_script : Addr
  fd_arm_script : FuncData
  F_arm_script : Fun K "arm_script" "arm_script" s_arm_script a_arm_script fd_arm_script
  b_arm_script : Binds K fd_arm_script ["move"] []
  m_arm_script : mg "arm_script" = some (.ref a_arm_script)
  a_check_both : Addr
  fd_check_both : FuncData
  F_check_both : Fun K "check_both" "check_both" s_check_both a_check_both fd_check_both
  b_check_both : Binds K fd_check_both ["one", "other"] []
  m_check_both : mg "check_both" = some (.ref a_check_both)
  a_arm_way : Addr
  fd_arm_way : FuncData
  F_arm_way : Fun K "arm_way" "arm_way" s_arm_way a_arm_way fd_arm_way
  b_arm_way : Binds K fd_arm_way ["one", "other"] []
  m_arm_way : mg "arm_way" = some (.ref a_arm_way)
  a_law_mixed : Addr
  fd_law_mixed : FuncData
  F_law_mixed : Fun K "_law_mixed" "_law_mixed" s_law_mixed a_law_mixed fd_law_mixed
  b_law_mixed : Binds K fd_law_mixed ["_law_cell", "_law_k"] []
  m_law_mixed : mg "_law_mixed" = some (.ref a_law_mixed)
  a_law_purse : Addr
  fd_law_purse : FuncData
  F_law_purse : Fun K "_law_purse" "_law_purse" s_law_purse a_law_purse fd_law_purse
  b_law_purse : Binds K fd_law_purse ["_law_script", "_law_at"] []
  m_law_purse : mg "_law_purse" = some (.ref a_law_purse)
  a_law_draw : Addr
  fd_law_draw : FuncData
  F_law_draw : Fun K "_law_draw" "_law_draw" s_law_draw a_law_draw fd_law_draw
  b_law_draw : Binds K fd_law_draw ["_law_purse_here", "_law_out_of"] []
  m_law_draw : mg "_law_draw" = some (.ref a_law_draw)
  a_law_nest : Addr
  fd_law_nest : FuncData
  F_law_nest : Fun K "_law_nest" "_law_nest" s_law_nest a_law_nest fd_law_nest
  b_law_nest : Binds K fd_law_nest ["_law_purse_here", "_law_count"] []
  m_law_nest : mg "_law_nest" = some (.ref a_law_nest)
  a_law_text : Addr
  fd_law_text : FuncData
  F_law_text : Fun K "_law_text" "_law_text" s_law_text a_law_text fd_law_text
  b_law_text : Binds K fd_law_text ["_law_nest_here"] []
  m_law_text : mg "_law_text" = some (.ref a_law_text)
  a_law_width : Addr
  fd_law_width : FuncData
  F_law_width : Fun K "_law_width" "_law_width" s_law_width a_law_width fd_law_width
  b_law_width : Binds K fd_law_width ["_law_nest_here"] []
  m_law_width : mg "_law_width" = some (.ref a_law_width)
  a_law_spins : Addr
  fd_law_spins : FuncData
  F_law_spins : Fun K "_law_spins" "_law_spins" s_law_spins a_law_spins fd_law_spins
  b_law_spins : Binds K fd_law_spins ["_law_nest_here", "_law_address"] []
  m_law_spins : mg "_law_spins" = some (.ref a_law_spins)
  a_law_off : Addr
  fd_law_off : FuncData
  F_law_off : Fun K "_law_off" "_law_off" s_law_off a_law_off fd_law_off
  b_law_off : Binds K fd_law_off ["_law_nest_here", "_law_on"] []
  m_law_off : mg "_law_off" = some (.ref a_law_off)
  a_law_twins : Addr
  fd_law_twins : FuncData
  F_law_twins : Fun K "_law_twins" "_law_twins" s_law_twins a_law_twins fd_law_twins
  b_law_twins : Binds K fd_law_twins ["_law_nest_here", "_law_start"] []
  m_law_twins : mg "_law_twins" = some (.ref a_law_twins)
  a_law_cut : Addr
  fd_law_cut : FuncData
  F_law_cut : Fun K "_law_cut" "_law_cut" s_law_cut a_law_cut fd_law_cut
  b_law_cut : Binds K fd_law_cut ["_law_nest_here", "_law_start", "_law_found"] []
  m_law_cut : mg "_law_cut" = some (.ref a_law_cut)
  a_law_least : Addr
  fd_law_least : FuncData
  F_law_least : Fun K "_law_least" "_law_least" s_law_least a_law_least fd_law_least
  b_law_least : Binds K fd_law_least ["_law_one", "_law_other"] []
  m_law_least : mg "_law_least" = some (.ref a_law_least)
  a_law_led : Addr
  fd_law_led : FuncData
  F_law_led : Fun K "_law_led" "_law_led" s_law_led a_law_led fd_law_led
  b_law_led : Binds K fd_law_led ["_law_nest_here", "_law_script"] []
  m_law_led : mg "_law_led" = some (.ref a_law_led)
  a_law_arm : Addr
  fd_law_arm : FuncData
  F_law_arm : Fun K "_law_arm" "_law_arm" s_law_arm a_law_arm fd_law_arm
  b_law_arm : Binds K fd_law_arm ["_law_nest_here"] []
  m_law_arm : mg "_law_arm" = some (.ref a_law_arm)
  a_law : Addr
  fd_law : FuncData
  F_law : Fun K "law" "law" s_law a_law fd_law
  b_law : Binds K fd_law ["_law_script"] []
  m_law : mg "law" = some (.ref a_law)
  z_isinstance : mg "isinstance" = none
  z_str : mg "str" = none
  z_len : mg "len" = none
  z_list : mg "list" = none
  z_int : mg "int" = none
  z_max : mg "max" = none
  z_range : mg "range" = none
  z_tuple : mg "tuple" = none
  z_all : mg "all" = none
  z_enumerate : mg "enumerate" = none
  z_zip : mg "zip" = none
  z_repr : mg "repr" = none
  z_bool : mg "bool" = none
  z_sum : mg "sum" = none
  d_OTHER_WORD : Addr
  m_OTHER_WORD : mg "OTHER_WORD" = some (.ref d_OTHER_WORD)
  k_OTHER_WORD : TD.KD K w d_OTHER_WORD kv_OTHER_WORD
  c_Growth : Addr
  g_Growth : mg "Growth" = some (.ref c_Growth)
  l_Growth : Cls K c_Growth
  n_Growth_origin : NoAttr K c_Growth "origin"
  n_Growth_current : NoAttr K c_Growth "current"
  n_Growth_many : NoAttr K c_Growth "many"
  a_Growth___init__ : Addr
  fd_Growth___init__ : FuncData
  F_Growth___init__ : Fun K "__init__" "Growth.__init__" s_Growth___init__ a_Growth___init__ fd_Growth___init__
  b_Growth___init__ : Binds K fd_Growth___init__ ["self"] []
  k_Growth : Mk K c_Growth a_Growth___init__
  a_Growth_unfold : Addr
  fd_Growth_unfold : FuncData
  F_Growth_unfold : Fun K "unfold" "Growth.unfold" s_Growth_unfold a_Growth_unfold fd_Growth_unfold
  b_Growth_unfold : Binds K fd_Growth_unfold ["self", "number"] []
  t_Growth_unfold : Meth K c_Growth "unfold" a_Growth_unfold
  a_Growth_sides : Addr
  fd_Growth_sides : FuncData
  F_Growth_sides : Fun K "sides" "Growth.sides" s_Growth_sides a_Growth_sides fd_Growth_sides
  b_Growth_sides : Binds K fd_Growth_sides ["self", "number"] []
  t_Growth_sides : Meth K c_Growth "sides" a_Growth_sides
  a_Growth_turn : Addr
  fd_Growth_turn : FuncData
  F_Growth_turn : Fun K "turn" "Growth.turn" s_Growth_turn a_Growth_turn fd_Growth_turn
  b_Growth_turn : Binds K fd_Growth_turn ["self", "word", "address"] []
  t_Growth_turn : Meth K c_Growth "turn" a_Growth_turn
  c_Move : Addr
  g_Move : mg "Move" = some (.ref c_Move)
  l_Move : Cls K c_Move
  n_Move__before : NoAttr K c_Move "_before"
  n_Move__after : NoAttr K c_Move "_after"
  mc_Move : Value
  r_Move : ClX.CRead K c_Move mc_Move
  sf_Move : PySem.W.selfFirst K c_Move = true
  ne_Move : OW.NeC K c_Move
  y_Move : OW.TyC K c_Move
  a_Move___init__ : Addr
  fd_Move___init__ : FuncData
  F_Move___init__ : Fun K "__init__" "Move.__init__" s_Move___init__ a_Move___init__ fd_Move___init__
  b_Move___init__ : Binds K fd_Move___init__ ["self", "before", "after"] []
  k_Move : Mk K c_Move a_Move___init__
  a_Move_of : Addr
  fd_Move_of : FuncData
  F_Move_of : Fun K "of" "Move.of" s_Move_of a_Move_of fd_Move_of
  b_Move_of : Binds K fd_Move_of ["steps"] []
  pa_Move_of : Addr
  s_Move_of : OW.SMet K c_Move mc_Move "of" pa_Move_of a_Move_of
  a_Move_before : Addr
  fd_Move_before : FuncData
  F_Move_before : Fun K "before" "Move.before" s_Move_before a_Move_before fd_Move_before
  b_Move_before : Binds K fd_Move_before ["self"] []
  pa_Move_before : Addr
  p_Move_before : PropOf K c_Move "before" pa_Move_before a_Move_before
  a_Move_after : Addr
  fd_Move_after : FuncData
  F_Move_after : Fun K "after" "Move.after" s_Move_after a_Move_after fd_Move_after
  b_Move_after : Binds K fd_Move_after ["self"] []
  pa_Move_after : Addr
  p_Move_after : PropOf K c_Move "after" pa_Move_after a_Move_after
  a_Move___call__ : Addr
  fd_Move___call__ : FuncData
  F_Move___call__ : Fun K "__call__" "Move.__call__" s_Move___call__ a_Move___call__ fd_Move___call__
  b_Move___call__ : Binds K fd_Move___call__ ["self", "tree"] []
  q_Move : OW.CallC K c_Move a_Move___call__
  a_Move_can : Addr
  fd_Move_can : FuncData
  F_Move_can : Fun K "can" "Move.can" s_Move_can a_Move_can fd_Move_can
  b_Move_can : Binds K fd_Move_can ["self", "tree"] []
  t_Move_can : Meth K c_Move "can" a_Move_can
  a_Move___eq__ : Addr
  fd_Move___eq__ : FuncData
  F_Move___eq__ : Fun K "__eq__" "Move.__eq__" s_Move___eq__ a_Move___eq__ fd_Move___eq__
  b_Move___eq__ : Binds K fd_Move___eq__ ["self", "other"] []
  o_Move___eq__ : OW.Own K c_Move "__eq__" a_Move___eq__
  a_Move___repr__ : Addr
  fd_Move___repr__ : FuncData
  F_Move___repr__ : Fun K "__repr__" "Move.__repr__" s_Move___repr__ a_Move___repr__ fd_Move___repr__
  b_Move___repr__ : Binds K fd_Move___repr__ ["self"] []
  o_Move___repr__ : OW.Own K c_Move "__repr__" a_Move___repr__
  a_Move___mul__ : Addr
  fd_Move___mul__ : FuncData
  F_Move___mul__ : Fun K "__mul__" "Move.__mul__" s_Move___mul__ a_Move___mul__ fd_Move___mul__
  b_Move___mul__ : Binds K fd_Move___mul__ ["self", "other"] []
  o_Move___mul__ : OW.Own K c_Move "__mul__" a_Move___mul__
  a_Move___invert__ : Addr
  fd_Move___invert__ : FuncData
  F_Move___invert__ : Fun K "__invert__" "Move.__invert__" s_Move___invert__ a_Move___invert__ fd_Move___invert__
  b_Move___invert__ : Binds K fd_Move___invert__ ["self"] []
  o_Move___invert__ : OW.Own K c_Move "__invert__" a_Move___invert__
  a_Move___le__ : Addr
  fd_Move___le__ : FuncData
  F_Move___le__ : Fun K "__le__" "Move.__le__" s_Move___le__ a_Move___le__ fd_Move___le__
  b_Move___le__ : Binds K fd_Move___le__ ["self", "other"] []
  o_Move___le__ : OW.Own K c_Move "__le__" a_Move___le__
  a_Move___lt__ : Addr
  fd_Move___lt__ : FuncData
  F_Move___lt__ : Fun K "__lt__" "Move.__lt__" s_Move___lt__ a_Move___lt__ fd_Move___lt__
  b_Move___lt__ : Binds K fd_Move___lt__ ["self", "other"] []
  o_Move___lt__ : OW.Own K c_Move "__lt__" a_Move___lt__
  a_Move___ge__ : Addr
  fd_Move___ge__ : FuncData
  F_Move___ge__ : Fun K "__ge__" "Move.__ge__" s_Move___ge__ a_Move___ge__ fd_Move___ge__
  b_Move___ge__ : Binds K fd_Move___ge__ ["self", "other"] []
  o_Move___ge__ : OW.Own K c_Move "__ge__" a_Move___ge__
  a_Move___gt__ : Addr
  fd_Move___gt__ : FuncData
  F_Move___gt__ : Fun K "__gt__" "Move.__gt__" s_Move___gt__ a_Move___gt__ fd_Move___gt__
  b_Move___gt__ : Binds K fd_Move___gt__ ["self", "other"] []
  o_Move___gt__ : OW.Own K c_Move "__gt__" a_Move___gt__
/-! ### words for trees -/
abbrev trV (t : Tr) : V := .str (S t.cs)
/-- all but what stands at g is as it was -/
def Keep (g : Addr) (H H' : Hp) : Prop := ∀ b o, b ≠ g → H b = some o → H' b = some o
/-- a generator: its third number is at most n -/
def GenAt (H : Hp) (g : Addr) (n : Nat) : Prop := ∃ a b c : Int, H g = some (.lst [.int a, .int b, .int c]) ∧ 0 ≤ c ∧ c ≤ (n : Int)
def NotStr (K : PySem.W.Frag) (H : Hp) (v : V) : Prop := ∃ t, TyX K H v t ∧ PySem.W.kitOne K t (.type "str") = some false
/-- how is_tree reads, its stack's top first -/
def isT : List Nat → List Str → Bool
  | [], st => st.isEmpty
  | c :: cs, st =>
    if st.headD "end" = "tree" ∧ S [c] = "(" then isT cs ("tree" :: "tree" :: ")" :: st.tail)
    else if st.headD "end" ≠ S [c] ∧ ¬ (st.headD "end" = "tree" ∧ S [c] = ".") then false
    else isT cs st.tail
def sp_is_tree (K : PySem.W.Frag) : Sp := fun vs H Q _ => ∃ v, vs = [v] ∧ ((∃ x : Str, v = .str x ∧ x.length ≤ 1000000 ∧ ∀ H', Same H H' → Q (.bl (isT x.cps.toList ["tree"])) H') ∨ (NotStr K H v ∧ Q (.bl false) H))
def sp_law_cell (K : PySem.W.Frag) : Sp := fun vs H Q _ => ∃ (a : Addr) (ns : List Int) (i : Nat), vs = [.ref a, .int i] ∧ SqL K H a (ns.map V.int) ∧ Q (.int (ns.getD i 0)) H
def sp_law_hash (K : PySem.W.Frag) : Sp := fun vs H Q _ => ∃ s i : Int, vs = [.int s, .int i] ∧ 0 ≤ i ∧ i ≤ 1000000000000000 ∧ ∀ r : Int, Q (.int r) H
def sp_law_generator (K : PySem.W.Frag) : Sp := fun vs H Q _ => ∃ (a : Addr) (ns : List Int) (i : Nat), vs = [.ref a, .int i] ∧ SqL K H a (ns.map V.int) ∧ ∀ g H', H g = none → Same H H' → GenAt H' g (1000 * i) → Q (.ref g) H'
def sp_law_random (K : PySem.W.Frag) : Sp := fun vs H Q _ => ∃ (g : Addr) (b : Int) (n : Nat), vs = [.ref g, .int b] ∧ GenAt H g n ∧ n ≤ 100000000000000 ∧ 1 ≤ b ∧ b < 1000000000000000 ∧
  ∀ (r : Int) H', 0 ≤ r → r < b → Keep g H H' → GenAt H' g (n + 3) → Q (.int r) H'
def sp_law_tree (K : PySem.W.Frag) (k : Nat) : Sp := fun vs H Q _ => ∃ (g : Addr) (m n : Nat), vs = [.ref g, .int m] ∧ m < k ∧ m ≤ 2000 ∧ GenAt H g n ∧ n + 6 * m ≤ 10000000000000 ∧
  ∀ (t : Tr) H', t.size = m → Keep g H H' → GenAt H' g (n + 6 * m) → Q (trV t) H'
theorem tyX_same {K : PySem.W.Frag} {H H' : Hp} {x : V} {t : Value} (h : TyX K H x t) (s : Same H H') : TyX K H' x t := by
  cases h with
  | base h =>
    cases h with
    | non => exact .base .non
    | bl b => exact .base (.bl b)
    | int i => exact .base (.int i)
    | str z => exact .base (.str z)
    | flt z => exact .base (.flt z)
    | lst e => exact .base (.lst (s _ _ e))
    | frz e => exact .base (.frz (s _ _ e))
    | tup e => exact .base (.tup (s _ _ e))
    | dK e => exact .base (.dK (s _ _ e))
    | dT e => exact .base (.dT (s _ _ e))
    | ins e cl a b c d => exact .base (.ins (s _ _ e) cl a b c d)
  | byt b => exact .byt b
  | set e => exact .set (s _ _ e)
  | kList e c => exact .kList e c
  | kTuple e c => exact .kTuple e c
  | kDict e c => exact .kDict e c
  | fTuple e => exact .fTuple (s _ _ e)
  | fDict e => exact .fDict (s _ _ e)

/-! ### what may be refused -/
def NotTree (K : PySem.W.Frag) (H : Hp) (v : V) : Prop := (∃ x : Str, v = .str x ∧ x.length ≤ 1000000 ∧ isT x.cps.toList ["tree"] = false) ∨ NotStr K H v
/-- an error of the class at C with the value v leaves -/
def Out (C : Addr) (v : V) (H : Hp) (E : XK) : Prop := ∀ d H', Same H H' → H d = none → H' d = some (.xd [("value", v)]) → E (.ref C) (some d) H'
def GoodL (H : Hp) (t : Tr) (v : V) (xs : List Tr) : Prop := ∃ a, v = .ref a ∧ H a = some (.lst (xs.map trV)) ∧ xs.length = t.lvs ∧ ∀ x ∈ xs, x.size ≤ 2000
def BadL (K : PySem.W.Frag) (H : Hp) (t : Tr) (v : V) : Prop := (∃ ty, TyX K H v ty ∧ PySem.W.kitOne K ty (.type "list") = some false) ∨
  ∃ a ws, v = .ref a ∧ H a = some (.lst ws) ∧ ws.length ≤ 100000 ∧ (ws.length ≠ t.lvs ∨ (∀ u ∈ ws, (∃ x : Tr, u = trV x ∧ x.size ≤ 2000) ∨ NotTree K H u) ∧ ∃ u ∈ ws, NotTree K H u)
theorem NotStr.same {K : PySem.W.Frag} {H H' : Hp} {v : V} (h : NotStr K H v) (s : Same H H') : NotStr K H' v := let ⟨t, a, b⟩ := h; ⟨t, tyX_same a s, b⟩
theorem NotTree.same {K : PySem.W.Frag} {H H' : Hp} {v : V} (h : NotTree K H v) (s : Same H H') : NotTree K H' v := h.imp id fun z => z.same s
theorem Out.same {C : Addr} {v : V} {H H' : Hp} {E : XK} (h : Out C v H E) (s : Same H H') : Out C v H' E := fun d H2 s2 n e => h d H2 (s.trans s2) (s.free n) e
theorem GoodL.same {H H' : Hp} {t : Tr} {v : V} {xs : List Tr} (h : GoodL H t v xs) (s : Same H H') : GoodL H' t v xs := let ⟨a, e, g, r⟩ := h; ⟨a, e, s _ _ g, r⟩
theorem BadL.same {K : PySem.W.Frag} {H H' : Hp} {t : Tr} {v : V} (h : BadL K H t v) (s : Same H H') : BadL K H' t v := by
  rcases h with ⟨ty, a, b⟩ | ⟨a, ws, e, g, l, r⟩
  · exact .inl ⟨ty, tyX_same a s, b⟩
  · refine .inr ⟨a, ws, e, s _ _ g, l, r.imp id fun ⟨al, u, hu, nu⟩ => ⟨fun z hz => (al z hz).imp id fun n => n.same s, u, hu, nu.same s⟩⟩

/-! ### trees as nested tuples -/
inductive PT (H : Hp) : V → Tr → Prop
  | leaf {p : Addr} : H p = some (.tup []) → PT H (.ref p) .leaf
  | node {p : Addr} {x y : V} {l r : Tr} : H p = some (.tup [x, y]) → PT H x l → PT H y r → PT H (.ref p) (.node l r)
theorem PT.same {H H' : Hp} (s : Same H H') : ∀ {v : V} {t : Tr}, PT H v t → PT H' v t
  | _, _, .leaf h => .leaf (s _ _ h)
  | _, _, .node h a b => .node (s _ _ h) (PT.same s a) (PT.same s b)
/-- all but what stands at g, which is a list -/
theorem PT.keep {H H' : Hp} {g : Addr} {ws : List V} (s : Keep g H H') (hg : H g = some (.lst ws)) : ∀ {v : V} {t : Tr}, PT H v t → PT H' v t
  | _, _, .leaf h => .leaf (s _ _ (ne_of h hg fun z => by cases z) h)
  | _, _, .node h a b => .node (s _ _ (ne_of h hg fun z => by cases z) h) (PT.keep s hg a) (PT.keep s hg b)
def tD : Tr → PyData
  | .leaf => .tuple []
  | .node l r => .tuple [tD l, tD r]
theorem PT.dp {K : PySem.W.Frag} {H : Hp} : ∀ {v : V} {t : Tr}, PT H v t → Dp K H v (tD t)
  | _, _, .leaf h => .tup (SqT.of h) .nil
  | _, _, .node h a b => .tup (SqT.of h) (.cons (PT.dp a) (.cons (PT.dp b) .nil))
theorem tD_depth : ∀ t : Tr, (tD t).depth = Tr.hgt t + 1
  | .leaf => by simp [tD, PyData.depth, PyData.depthAll, Tr.hgt]
  | .node l r => by
    have h1 := tD_depth l
    have h2 := tD_depth r
    simp only [tD, PyData.depth, PyData.depthAll, Tr.hgt, h1, h2]
    omega
theorem tD_lay : ∀ t : Tr, (tD t).canLay0 = true
  | .leaf => by simp [tD, PyData.canLay0, PyData.canLayAll0]
  | .node l r => by
    simp only [tD, PyData.canLay0, PyData.canLayAll0, tD_lay l, tD_lay r]
    rfl
theorem tD_shaped {t : Tr} (h : Tr.hgt t ≤ 62) : SeqAt.shaped (tD t) = true := by
  unfold SeqAt.shaped
  rw [tD_lay, tD_depth]
  simp
  omega
theorem tD_leaf : ∀ t : Tr, PyData.eqv (tD t) (.tuple []) = decide (t = .leaf)
  | .leaf => by simp [tD, PyData.eqv, PyData.eqvAll]
  | .node l r => by simp [tD, PyData.eqv, PyData.eqvAll]
/-- x == () -/
theorem eqLeaf {K : PySem.W.Frag} {H : Hp} {v : V} {t : Tr} {p : Addr} {Q : VK} (h : PT H v t) (ht : Tr.hgt t ≤ 62) (hp : H p = some (.tup [])) (q : Q (.bl (decide (t = .leaf))) H) : rEqD K v (.ref p) H Q :=
  ⟨tD t, .tuple [], h.dp, .tup (SqT.of hp) .nil, tD_shaped ht, by decide +kernel, by rw [tD_leaf]; exact q⟩
section
variable {w : World} {K : PySem.W.Frag} {mg : Str → Option Value}
def sp_law_parsed (K : PySem.W.Frag) : Sp := fun vs H Q _ => ∃ t : Tr, vs = [trV t] ∧ t.size ≤ 2000 ∧ ∀ v H', Same H H' → PT H' v t → Q v H'
end
inductive PTs (H : Hp) : List V → List Tr → Prop
  | nil : PTs H [] []
  | cons {v : V} {t : Tr} {vs : List V} {ts : List Tr} : PT H v t → PTs H vs ts → PTs H (v :: vs) (t :: ts)
theorem PTs.same {H H' : Hp} (s : Same H H') : ∀ {vs : List V} {ts : List Tr}, PTs H vs ts → PTs H' vs ts
  | _, _, .nil => .nil
  | _, _, .cons a b => .cons (a.same s) (PTs.same s b)
theorem PTs.keep {H H' : Hp} {g : Addr} {ws : List V} (s : Keep g H H') (hg : H g = some (.lst ws)) : ∀ {vs : List V} {ts : List Tr}, PTs H vs ts → PTs H' vs ts
  | _, _, .nil => .nil
  | _, _, .cons a b => .cons (a.keep s hg) (PTs.keep s hg b)
theorem PTs.length {H : Hp} : ∀ {vs : List V} {ts : List Tr}, PTs H vs ts → vs.length = ts.length
  | _, _, .nil => rfl
  | _, _, .cons _ b => congrArg Nat.succ (PTs.length b)
theorem PTs.append {H : Hp} : ∀ {vs : List V} {ts : List Tr} {us : List V} {rs : List Tr}, PTs H vs ts → PTs H us rs → PTs H (vs ++ us) (ts ++ rs)
  | _, _, _, _, .nil, b => b
  | _, _, _, _, .cons a c, b => .cons a (PTs.append c b)
section
variable {w : World} {K : PySem.W.Frag} {mg : Str → Option Value}
/-- a value that can be shown -/
structure Good (H : Hp) (y : V) (d : PyData) : Prop where
  dv : DV H d.hasDict y d
  sh : d.showable = true
  dp : d.depth ≤ 20
  ls : d.leavesShort 30 = true
  bk : d.bulk ≤ 200000
theorem Good.same {H H' : Hp} {y : V} {d : PyData} (g : Good H y d) (s : Same H H') : Good H' y d := ⟨g.dv.same s, g.sh, g.dp, g.ls, g.bk⟩
theorem Good.repr {H : Hp} {y : V} {d : PyData} {Q : VK} (g : Good H y d) (q : Q (.str d.shown) H) : rReprV [y] H Q := by
  have h1 := g.dp
  have h2 := PyData.shown_le_bulk 30 (by decide) d g.ls
  have h3 := g.bk
  have h4 : (30 + 2) * d.bulk ≤ (30 + 2) * 200000 := Nat.mul_le_mul_left _ h3
  exact ⟨y, d, d.hasDict, rfl, g.dv, id, g.sh, by omega, by rw [sizeLine_eq]; omega, q⟩
def sp_law (K : PySem.W.Frag) : Sp := fun vs H Q _ => ∃ (a : Addr) (ns : List Int), vs = [.ref a] ∧ SqL K H a (ns.map V.int) ∧ ns.length ≤ 63 ∧ ∀ H', Q (.bl true) H'
end

abbrev sV (a : List Nat) : V := .str (S a)
def isA (a : List Nat) : Bool := a.all fun c => c == 108 || c == 114
def NotAdr (K : PySem.W.Frag) (H : Hp) (v : V) : Prop := (∃ a : List Nat, v = sV a ∧ a.length ≤ 1000000 ∧ isA a = false) ∨ NotStr K H v
theorem Keep.trans {g : Addr} {H H1 H2 : Hp} (a : Keep g H H1) (b : Keep g H1 H2) : Keep g H H2 := fun p o hp ho => b p o hp (a p o hp ho)
theorem Keep.new {g p : Addr} {H H' : Hp} (a : Keep g H H') (hp : H p = none) (o : HO) : Keep g H (upd H' p o) := fun b u hb hu => by
  rw [upd_ne (ne_of_none hu hp)]; exact a b u hb hu
theorem Keep.of {g : Addr} {H H' : Hp} (a : Same H H') : Keep g H H' := fun p o _ ho => a p o ho
theorem GenAt.same {g : Addr} {H H' : Hp} {n : Nat} (h : GenAt H g n) (s : Same H H') : GenAt H' g n := by
  obtain ⟨a, b, c, h, x, y⟩ := h
  exact ⟨a, b, c, s _ _ h, x, y⟩
theorem GenAt.new {g p : Addr} {H : Hp} {n : Nat} {o : HO} (h : GenAt H g n) (hp : H p = none) : GenAt (upd H p o) g n := by
  obtain ⟨a, b, c, h, x, y⟩ := h
  exact ⟨a, b, c, by rw [upd_ne (ne_of_none h hp)]; exact h, x, y⟩
theorem GenAt.mono {g : Addr} {H : Hp} {n m : Nat} (h : GenAt H g n) (l : n ≤ m) : GenAt H g m := by
  obtain ⟨a, b, c, h, x, y⟩ := h
  exact ⟨a, b, c, h, x, by omega⟩
theorem GenAt.some {g : Addr} {H : Hp} {n : Nat} (h : GenAt H g n) : ∃ o, H g = some o := by
  obtain ⟨a, b, c, h, x, y⟩ := h
  exact ⟨_, h⟩
theorem Keep.free {g p : Addr} {H H' : Hp} (k : Keep g H H') (hg : ∃ o, H' g = some o) (h : H' p = none) (hgH : ∃ o, H g = some o) : H p = none := by
  cases e : H p with
  | none => rfl
  | some o =>
    obtain ⟨o', ho'⟩ := hg
    have : p ≠ g := fun z => by rw [z, ho'] at h; cases h
    rw [k p o this e] at h; cases h
theorem Keep.same {g : Addr} {H H' : Hp} (k : Keep g H H') (h : H g = none) : Same H H' := fun b o hb => k b o (ne_of_none hb h) hb
theorem Kept.keep {H H' : Hp} {g a C : Addr} {fs : List (Str × V)} {ws : List V} (x : Kept H a C fs) (k : Keep g H H') (hg : H g = some (.lst ws)) : Kept H' a C fs := by
  obtain ⟨d, h1, h2⟩ := x
  exact ⟨d, k _ _ (ne_of h1 hg fun z => by have z' : HO.ext _ = HO.lst _ := z; cases z') h1, k _ _ (ne_of h2 hg fun z => by cases z) h2⟩
theorem kitSelf {K : PySem.W.Frag} {C : Addr} : PySem.W.kitOne K (.ref C) (.ref C) = some true := by
  unfold PySem.W.kitOne
  rw [if_pos (beq_self_eq_true _)]
theorem okL (a : List Nat) (h : ∀ c ∈ a, c < 0x110000) : PyData.strOk (S a) = true := by
  unfold PyData.strOk
  rw [Array.all_eq_true_iff_forall_mem]
  intro c hc
  exact decide_eq_true (h c (by simpa using hc))
def Lr (xs : List (List Nat)) : Prop := ∀ a ∈ xs, ∀ c ∈ a, c < 0x110000
theorem dpL {K : PySem.W.Frag} {H : Hp} : ∀ xs : List (List Nat), DpAll K H (xs.map sV) (xs.map fun a => PyData.str (S a))
  | [] => .nil
  | x :: xs => .cons (.str _) (dpL xs)
theorem layL : ∀ xs : List (List Nat), Lr xs → PyData.canLayAll0 (xs.map fun a => PyData.str (S a)) = true
  | [], _ => by simp [PyData.canLayAll0]
  | x :: xs, h => by
    simp only [List.map_cons, PyData.canLayAll0, PyData.canLay0, layL xs fun y hy => h y (List.mem_cons_of_mem _ hy), okL x (h x (List.mem_cons_self ..))]
    rfl
theorem depL : ∀ xs : List (List Nat), PyData.depthAll (xs.map fun a => PyData.str (S a)) = 0
  | [] => by simp [PyData.depthAll]
  | x :: xs => by simp only [List.map_cons, PyData.depthAll, PyData.depth, depL xs]; rfl
theorem eqL0 : ∀ xs : List (List Nat), PyData.eqvAll (xs.map fun a => PyData.str (S a)) (xs.map fun a => PyData.str (S a)) = true
  | [] => by simp [PyData.eqvAll]
  | x :: xs => by simp only [List.map_cons, PyData.eqvAll, PyData.eqv, eqL0 xs, beq_self_eq_true]; rfl
theorem shL {xs : List (List Nat)} (h : Lr xs) : SeqAt.shaped (.list (xs.map fun a => PyData.str (S a))) = true := by
  unfold SeqAt.shaped
  simp only [PyData.canLay0, PyData.depth, layL xs h, depL]
  decide
/-- a list of texts beside an empty one -/
theorem neNil {K : PySem.W.Frag} {H : Hp} {a b : Addr} {xs : List (List Nat)} {Q : VK} (hx : Lr xs) (ha : H a = some (.lst (xs.map sV))) (hb : H b = some (.lst [])) (q : Q (.bl (!decide (xs = []))) H) : rNeD K (.ref a) (.ref b) H Q := by
  refine ⟨.list (xs.map fun a => PyData.str (S a)), .list [], .lst (SqL.of ha) (dpL xs), .lst (SqL.of hb) .nil, shL hx, by decide, ?_⟩
  have e : PyData.eqv (.list (xs.map fun a => PyData.str (S a))) (.list []) = decide (xs = []) := by
    cases xs with
    | nil => simp [PyData.eqv, PyData.eqvAll]
    | cons x xs => simp [PyData.eqv, PyData.eqvAll]
  rw [e]
  exact q
/-- two lists of the same texts -/
theorem neL1 {K : PySem.W.Frag} {H : Hp} {a b : Addr} {xs : List (List Nat)} {Q : VK} (hx : Lr xs) (ha : H a = some (.lst (xs.map sV))) (hb : H b = some (.lst (xs.map sV))) (q : Q (.bl false) H) : rNeD K (.ref a) (.ref b) H Q := by
  refine ⟨.list (xs.map fun a => PyData.str (S a)), .list (xs.map fun a => PyData.str (S a)), .lst (SqL.of ha) (dpL xs), .lst (SqL.of hb) (dpL xs), shL hx, shL hx, ?_⟩
  rw [show PyData.eqv (.list (xs.map fun a => PyData.str (S a))) (.list (xs.map fun a => PyData.str (S a))) = true by simp only [PyData.eqv, eqL0 xs]]
  exact q
/-- the heap but for one place -/
def off (g : Addr) (H : Hp) : Hp := fun b => if b = g then none else H b
theorem off_same {g : Addr} {H : Hp} : Same (off g H) H := fun b o e => by
  unfold off at e
  split at e
  · cases e
  · exact e
theorem off_at {g b : Addr} {H : Hp} {o : HO} (n : b ≠ g) (h : H b = some o) : off g H b = some o := by
  unfold off
  rw [if_neg n]
  exact h
theorem off_self {g : Addr} {H : Hp} : off g H g = none := by unfold off; rw [if_pos rfl]
theorem off_keep {g : Addr} {H H' : Hp} (k : Keep g H H') : Same (off g H) (off g H') := fun b o e => by
  unfold off at e ⊢
  split at e
  · cases e
  · rename_i n
    rw [if_neg n]
    exact k b o n e
theorem off_to {g : Addr} {H H' : Hp} (k : Keep g H H') : Same (off g H) H' := (off_keep k).trans off_same
theorem off_in {g : Addr} {H0 H : Hp} (s : Same H0 H) (n : H0 g = none) : Same H0 (off g H) := fun b o e => off_at (fun z => by rw [z, n] at e; cases e) (s b o e)

inductive Stps (H : Hp) : List V → List (Str × List Nat) → Prop
  | nil : Stps H [] []
  | cons {p : Addr} {x : Str × List Nat} {vs : List V} {xs : List (Str × List Nat)} : H p = some (.tup [.str x.1, sV x.2]) → Stps H vs xs → Stps H (.ref p :: vs) (x :: xs)
theorem Stps.mono {H H' : Hp} (f : ∀ b vs, H b = some (.tup vs) → H' b = some (.tup vs)) : ∀ {vs : List V} {xs : List (Str × List Nat)}, Stps H vs xs → Stps H' vs xs
  | _, _, .nil => .nil
  | _, _, .cons a b => .cons (f _ _ a) (Stps.mono f b)
theorem Stps.append {H : Hp} : ∀ {vs : List V} {xs : List (Str × List Nat)} {us : List V} {ys : List (Str × List Nat)}, Stps H vs xs → Stps H us ys → Stps H (vs ++ us) (xs ++ ys)
  | _, _, _, _, .nil, b => b
  | _, _, _, _, .cons a c, b => .cons a (Stps.append c b)
theorem Stps.length {H : Hp} : ∀ {vs : List V} {xs : List (Str × List Nat)}, Stps H vs xs → vs.length = xs.length
  | _, _, .nil => rfl
  | _, _, .cons _ b => congrArg Nat.succ (Stps.length b)
/-- a step with an address of at most n letters -/
def okSt (n : Nat) (x : Str × List Nat) : Prop := (x.1 = Str.ofString "left" ∨ x.1 = Str.ofString "right") ∧ isA x.2 = true ∧ x.2.length ≤ n
def IsStep (H : Hp) (v : V) : Prop := ∃ (p : Addr) (x : Str × List Nat), v = .ref p ∧ H p = some (.tup [.str x.1, sV x.2]) ∧ okSt 3000 x
def NotStep (K : PySem.W.Frag) (H : Hp) (v : V) : Prop := (∃ ty, TyX K H v ty ∧ PySem.W.kitOne K ty (.type "tuple") = some false) ∨
  (∃ p vs, v = .ref p ∧ H p = some (.tup vs) ∧ vs.length ≠ 2) ∨
  ∃ p x y, v = .ref p ∧ H p = some (.tup [x, y]) ∧ (NotStr K H x ∨ (∃ z : Str, x = .str z ∧ z ≠ Str.ofString "left" ∧ z ≠ Str.ofString "right") ∨ ((x = .str (Str.ofString "left") ∨ x = .str (Str.ofString "right")) ∧ NotAdr K H y))
def GoodS (H : Hp) (v : V) (xs : List (Str × List Nat)) : Prop := ∃ a ws, v = .ref a ∧ H a = some (.lst ws) ∧ Stps H ws xs ∧ ws.length ≤ 3000 ∧ ∀ x ∈ xs, okSt 3000 x
def BadS (K : PySem.W.Frag) (H : Hp) (v : V) : Prop := (∃ ty, TyX K H v ty ∧ PySem.W.kitOne K ty (.type "list") = some false) ∨
  ∃ a ws, v = .ref a ∧ H a = some (.lst ws) ∧ ws.length ≤ 3000 ∧ (∀ u ∈ ws, IsStep H u ∨ NotStep K H u) ∧ ∃ u ∈ ws, NotStep K H u
theorem Stps.same {H H' : Hp} (s : Same H H') {vs : List V} {xs : List (Str × List Nat)} (h : Stps H vs xs) : Stps H' vs xs := h.mono fun b vs e => s _ _ e
theorem IsStep.same {H H' : Hp} {v : V} (h : IsStep H v) (s : Same H H') : IsStep H' v := let ⟨p, x, e, g, o⟩ := h; ⟨p, x, e, s _ _ g, o⟩
theorem NotAdr.same {K : PySem.W.Frag} {H H' : Hp} {v : V} (h : NotAdr K H v) (s : Same H H') : NotAdr K H' v := h.imp id fun z => z.same s
theorem NotStep.same {K : PySem.W.Frag} {H H' : Hp} {v : V} (h : NotStep K H v) (s : Same H H') : NotStep K H' v := by
  rcases h with ⟨ty, a, b⟩ | ⟨p, vs, e, g, n⟩ | ⟨p, x, y, e, g, r⟩
  · exact .inl ⟨ty, tyX_same a s, b⟩
  · exact .inr (.inl ⟨p, vs, e, s _ _ g, n⟩)
  · exact .inr (.inr ⟨p, x, y, e, s _ _ g, r.imp (fun z => z.same s) fun z => z.imp id fun z => ⟨z.1, z.2.same s⟩⟩)
theorem GoodS.same {H H' : Hp} {v : V} {xs : List (Str × List Nat)} (h : GoodS H v xs) (s : Same H H') : GoodS H' v xs := let ⟨a, ws, e, g, t, r⟩ := h; ⟨a, ws, e, s _ _ g, t.same s, r⟩
theorem BadS.same {K : PySem.W.Frag} {H H' : Hp} {v : V} (h : BadS K H v) (s : Same H H') : BadS K H' v := by
  rcases h with ⟨ty, a, b⟩ | ⟨a, ws, e, g, l, al, u, hu, nu⟩
  · exact .inl ⟨ty, tyX_same a s, b⟩
  · exact .inr ⟨a, ws, e, s _ _ g, l, fun z hz => (al z hz).imp (fun n => n.same s) fun n => n.same s, u, hu, nu.same s⟩

/-! ### words of the program -/
section
variable {w : World} {K : PySem.W.Frag} {mg : Str → Option Value}
abbrev nV (n : Nat) : V := .int (n : Nat)
def OnTree (K : PySem.W.Frag) (C : Addr) (vs : List V) (H : Hp) (E : XK) (G : Tr → Prop) : Prop := ∃ v, vs = [v] ∧ ((∃ t : Tr, v = trV t ∧ t.size ≤ 2000 ∧ G t) ∨ (NotTree K H v ∧ Out C v H E))
def TwoTrees (K : PySem.W.Frag) (C : Addr) (vs : List V) (H : Hp) (E : XK) (G : Tr → Tr → Prop) : Prop := ∃ (u v : V), vs = [u, v] ∧ ((∃ a : Tr, u = trV a ∧ a.size ≤ 2000 ∧ ((∃ b : Tr, v = trV b ∧ b.size ≤ 2000 ∧ G a b) ∨ (NotTree K H v ∧ Out C v H E))) ∨ (NotTree K H u ∧ Out C u H E))
inductive Tups (H : Hp) : List V → List (List Nat × Nat) → Prop
  | nil : Tups H [] []
  | cons {p : Addr} {x : List Nat × Nat} {vs : List V} {xs : List (List Nat × Nat)} : H p = some (.tup [sV x.1, sV [x.2]]) → Tups H vs xs → Tups H (.ref p :: vs) (x :: xs)
def BadAdr (K : PySem.W.Frag) (H : Hp) (t : Tr) (v : V) : Prop := NotAdr K H v ∨ ∃ a : List Nat, v = sV a ∧ a.length ≤ 1000 ∧ isA a = true ∧ tat t a = none
def OutF (C : Addr) (f : Str) (v : V) (H : Hp) (E : XK) : Prop := ∀ d H', Same H H' → H d = none → H' d = some (.xd [(f, v)]) → E (.ref C) (some d) H'
def bxs (x : Str × List Nat) : Bool × List Nat := (decide (x.1 = Str.ofString "right"), x.2)
end
def oth (w : Str) : Str := if w = Str.ofString "left" then Str.ofString "right" else Str.ofString "left"
def sgn (w : Str) : Nat := if w = Str.ofString "left" then 60 else 62
def stT (x : Str × List Nat) : List Nat := sgn x.1 :: x.2
def textT (xs : List (Str × List Nat)) : List Nat := TL.joinL [32] (xs.map stT)
def rdPiece : List Nat → Option (Str × List Nat)
  | [] => none
  | c :: a => if isA a then (if c = 60 then some (Str.ofString "left", a) else if c = 62 then some (Str.ofString "right", a) else none) else none
def rdAll : List (List Nat) → Option (List (Str × List Nat))
  | [] => some []
  | p :: ps => (rdPiece p).bind fun x => (rdAll ps).map fun y => x :: y
def rdText (cs : List Nat) : Option (List (Str × List Nat)) := if cs = [] then some [] else rdAll (spl 32 cs)
def turnT (w : Str) : Tr → Option Tr
  | .leaf => none
  | .node l r => if w = Str.ofString "right" then turnR l r else if w = Str.ofString "left" then turnL l r else none
def stepT (w : Str) (a : List Nat) (t : Tr) : Option Tr := ((tat t a).bind (turnT w)).map (put t a)
def tops (t : Tr) : List (List Nat) := ((t.adrs []).filter fun x => x.2 == 40).map (·.1)
def stepsT (t : Tr) : List (Str × List Nat) := ((tops t).filter fun a => decide (a ++ [114] ∈ tops t)).map (fun a => (Str.ofString "left", a)) ++ ((tops t).filter fun a => decide (a ++ [108] ∈ tops t)).map (fun a => (Str.ofString "right", a))
def runT : Nat → List (Str × List Nat) → Tr → Tr ⊕ Nat
  | _, [], t => .inl t
  | i, x :: xs, t => match stepT x.1 x.2 t with
    | some s => runT (i + 1) xs s
    | none => .inr i
/-- a new list of steps -/
def NewS (H : Hp) (xs : List (Str × List Nat)) (Q : VK) : Prop := ∀ p ws H', H p = none → Same H H' → H' p = some (.lst ws) → Stps H' ws xs → Q (.ref p) H'

section
variable {w : World} {K : PySem.W.Frag} {mg : Str → Option Value}
def sp_check_tree (T : Txt w K mg) : Sp := fun vs H Q E => ∃ v, vs = [v] ∧ ((∃ t : Tr, v = trV t ∧ t.size ≤ 2000 ∧ ∀ H', Same H H' → Q .non H') ∨ (NotTree K H v ∧ Out T.c_InvalidTree v H E))
def sp_size (T : Txt w K mg) : Sp := fun vs H Q E => OnTree K T.c_InvalidTree vs H E fun t => ∀ H', Same H H' → Q (.int (t.size : Nat)) H'
def sp_leaves (T : Txt w K mg) : Sp := fun vs H Q E => OnTree K T.c_InvalidTree vs H E fun t => ∀ p H', H p = none → Same H H' → H' p = some (.lst ((t.lvA []).map sV)) → Q (.ref p) H'
def sp_addressed (K : PySem.W.Frag) : Sp := fun vs H Q _ => ∃ t : Tr, vs = [trV t] ∧ t.size ≤ 2000 ∧ ∀ p ws H', H p = none → Same H H' → H' p = some (.lst ws) → Tups H' ws (t.adrs []) → Q (.ref p) H'
def sp_ends (K : PySem.W.Frag) : Sp := fun vs H Q _ => ∃ t : Tr, vs = [trV t] ∧ t.size ≤ 2000 ∧ ∀ p H', H p = none → Same H H' → H' p = some (.lst ((Tr.ends 0 t).map fun n => V.int (n : Nat))) → Q (.ref p) H'
def sp_check_hung (T : Txt w K mg) : Sp := fun vs H Q E => ∃ (t : Tr) (v : V), vs = [trV t, v] ∧ t.size ≤ 2000 ∧ ((∃ xs, GoodL H t v xs ∧ ∀ H', Same H H' → Q .non H') ∨ (BadL K H t v ∧ Out T.c_InvalidList v H E))
def sp_grown (T : Txt w K mg) : Sp := fun vs H Q E => ∃ (u v : V), vs = [u, v] ∧ ((∃ t : Tr, u = trV t ∧ t.size ≤ 2000 ∧ ((∃ xs, GoodL H t v xs ∧ ∀ H', Same H H' → Q (trV (t.grow xs)) H') ∨ (BadL K H t v ∧ Out T.c_InvalidList v H E))) ∨ (NotTree K H u ∧ Out T.c_InvalidTree u H E))
def sp_hung (T : Txt w K mg) : Sp := fun vs H Q E => TwoTrees K T.c_InvalidTree vs H E fun s c => (Tr.hang s c = none → ∀ H', Same H H' → Q .non H') ∧
  ∀ xs, Tr.hang s c = some xs → ∀ p H', H p = none → Same H H' → H' p = some (.lst (xs.map trV)) → Q (.ref p) H'
def sp_joined (T : Txt w K mg) : Sp := fun vs H Q E => TwoTrees K T.c_InvalidTree vs H E fun a b => ∀ H', Same H H' → Q (trV (Tr.join a b)) H'
def sp_shared (T : Txt w K mg) : Sp := fun vs H Q E => TwoTrees K T.c_InvalidTree vs H E fun a b => ∀ H', Same H H' → Q (trV (Tr.meet a b)) H'
def sp_is_address (K : PySem.W.Frag) : Sp := fun vs H Q _ => ∃ v, vs = [v] ∧ ((∃ a : List Nat, v = sV a ∧ a.length ≤ 1000000 ∧ Q (.bl (isA a)) H) ∨ (NotStr K H v ∧ Q (.bl false) H))
def sp_is_step (K : PySem.W.Frag) : Sp := fun vs H Q _ => ∃ v, vs = [v] ∧ ((IsStep H v ∧ Q (.bl true) H) ∨ (NotStep K H v ∧ Q (.bl false) H))
def sp_checked_script (T : Txt w K mg) : Sp := fun vs H Q E => ∃ v, vs = [v] ∧ ((∃ xs, GoodS H v xs ∧ NewS H xs Q) ∨ (BadS K H v ∧ Out T.c_InvalidScript v H E))
def sp_opposite (T : Txt w K mg) : Sp := fun vs H Q E => ∃ v, vs = [v] ∧ ((∃ xs, GoodS H v xs ∧ NewS H (xs.reverse.map fun x => (oth x.1, x.2)) Q) ∨ (BadS K H v ∧ Out T.c_InvalidScript v H E))
/-! ### the object that a script unfolds -/
def gf (lo lc : Addr) (m : Int) : List (Str × V) := [("origin", .ref lo), ("current", .ref lc), ("many", .int m)]
theorem gf_ne1 : ¬ (("origin" : Str) = "current") := by decide +kernel
theorem gf_ne2 : ¬ (("origin" : Str) = "many") := by decide +kernel
theorem gf_ne3 : ¬ (("current" : Str) = "many") := by decide +kernel
theorem gf_make (lo lc : Addr) (m : Int) : putF "many" (.int m) (putF "current" (.ref lc) (putF "origin" (.ref lo) [])) = gf lo lc m := by
  have e1 : putF "origin" (V.ref lo) [] = [(("origin" : Str), V.ref lo)] := rfl
  have e2 : putF "current" (V.ref lc) [(("origin" : Str), V.ref lo)] = [(("origin" : Str), V.ref lo), ("current", V.ref lc)] := by
    show (if ("origin" : Str) = "current" then _ else (("origin" : Str), V.ref lo) :: putF "current" (V.ref lc) []) = _
    rw [if_neg gf_ne1]; rfl
  rw [e1, e2]
  show (if ("origin" : Str) = "many" then _ else (("origin" : Str), V.ref lo) :: (if ("current" : Str) = "many" then _ else (("current" : Str), V.ref lc) :: putF "many" (V.int m) [])) = _
  rw [if_neg gf_ne2, if_neg gf_ne3]; rfl
theorem putF_len (x : Str) (v : V) : ∀ fs : List (Str × V), (putF x v fs).length ≤ fs.length + 1
  | [] => Nat.le_refl _
  | (y, u) :: fs => by
    show (if y = x then (y, v) :: fs else (y, u) :: putF x v fs).length ≤ _
    split
    · simp
    · have := putF_len x v fs
      simp only [List.length_cons]; omega
/-- behind the heap H0 such an object stands at p, with the dicts o and c and the number m -/
def GrowAt (C : Addr) (H0 H : Hp) (p : Addr) (o c : List (Key × V)) (m : Int) : Prop :=
  Same H0 H ∧ H0 p = none ∧ ∃ dx lo lc, H0 lo = none ∧ H0 lc = none ∧ lo ≠ lc ∧ H p = some (.ins C dx (gf lo lc m)) ∧ H lo = some (.dK o) ∧ H lc = some (.dK c)
section
variable {w : World} {K : PySem.W.Frag} {mg : Str → Option Value}
def sp_Growth___init__ (T : Txt w K mg) : Sp := fun vs H Q _ => ∃ (H0 : Hp) (p dx : Addr), vs = [.ref p] ∧ Same H0 H ∧ H0 p = none ∧ H p = some (.ins T.c_Growth dx []) ∧ ∀ H', GrowAt T.c_Growth H0 H' p [] [] 1 → Q .non H'
end
abbrev nK (n : Nat) : Key := .inl (n : Nat)
/-- what a dict from numbers to pairs of numbers holds -/
def DRep (H : Hp) (kvs : List (Key × V)) (f : Nat → Option (Nat × Nat)) : Prop := ∀ n : Nat, (f n = none → valV kvs (nK n) = none) ∧ ∀ x y, f n = some (x, y) → ∃ q, valV kvs (nK n) = some (.ref q) ∧ H q = some (.tup [nV x, nV y])
/-- at p, behind the heap H0, stands a growth that holds the two trees -/
def GrowS (C : Addr) (H0 H : Hp) (p : Addr) (O Cc : LT) (m : Nat) : Prop := ∃ o c, GrowAt C H0 H p o c (m : Nat) ∧ o.length < m ∧ c.length < m ∧ ∃ f g, DRep H o f ∧ DRep H c g ∧ LT.Sta f g m O Cc
def sp_Growth_unfold (T : Txt w K mg) : Sp := fun vs H Q _ => ∃ (H0 : Hp) (p : Addr) (O C s : LT) (m : Nat) (a : List Nat), vs = [.ref p, nV s.lab] ∧ GrowS T.c_Growth H0 H p O C m ∧ m ≤ 10000000 ∧ LT.lat C a = some s ∧
  ∀ H' O' C' m' l r, GrowS T.c_Growth H0 H' p O' C' m' → m' ≤ m + 2 → LT.lat C' a = some (.nd s.lab l r) → C'.shape = Tr.join C.shape (pth a cherry) → (∀ O0 C0, LT.Alike O0 C0 O C → LT.Alike O0 C0 O' C') → Q .non H'
def sp_Growth_sides (T : Txt w K mg) : Sp := fun vs H Q _ => ∃ (H0 : Hp) (p : Addr) (O C s : LT) (m : Nat) (a : List Nat), vs = [.ref p, nV s.lab] ∧ GrowS T.c_Growth H0 H p O C m ∧ m ≤ 10000000 ∧ LT.lat C a = some s ∧
  ∀ q H' O' C' m' l r, GrowS T.c_Growth H0 H' p O' C' m' → m' ≤ m + 2 → LT.lat C' a = some (.nd s.lab l r) → C'.shape = Tr.join C.shape (pth a cherry) → (∀ O0 C0, LT.Alike O0 C0 O C → LT.Alike O0 C0 O' C') → H' q = some (.tup [nV l.lab, nV r.lab]) → Q (.ref q) H'
def sp_Growth_turn (T : Txt w K mg) : Sp := fun vs H Q _ => ∃ (H0 : Hp) (p : Addr) (O C : LT) (m : Nat) (w : Str) (a : List Nat), vs = [.ref p, .str w, sV a] ∧ GrowS T.c_Growth H0 H p O C m ∧ a.length ≤ 100000 ∧ m + 2 * (a.length + 2) ≤ 10000000 ∧ (w = Str.ofString "left" ∨ w = Str.ofString "right") ∧
  ∀ H' O' C' m', GrowS T.c_Growth H0 H' p O' C' m' → m' ≤ m + 2 * (a.length + 2) → unf (O.shape, C.shape) (bxs (w, a)) = (O'.shape, C'.shape) → Q .non H'
def sp_written (K : PySem.W.Frag) : Sp := fun vs H Q _ => ∃ (d : Addr) (kvs : List (Key × V)) (f : Nat → Option (Nat × Nat)) (t : LT), vs = [.ref d] ∧ H d = some (.dK kvs) ∧ DRep H kvs f ∧ LT.Rep f t ∧ t.lab = 0 ∧ t.shape.size ≤ 2000 ∧ ∀ H', Same H H' → Q (trV t.shape) H'
/-- a script's trees, bounded -/
def PairB (xs : List (Str × List Nat)) : Prop := ∃ D, (∀ x ∈ xs, okSt D x) ∧ D ≤ 3000 ∧ (xs.length * (D + 2) ≤ 2000 ∨ (xs.length ≤ 2000 ∧ xs.length * (D + 2) ≤ 1000000 ∧ (pairT (xs.map bxs)).1.size ≤ 2000))
def sp_pair_of (T : Txt w K mg) : Sp := fun vs H Q E => ∃ (v : V) (xs : List (Str × List Nat)), vs = [v] ∧ GoodS H v xs ∧ PairB xs ∧ ∀ q H', H q = none → Same H H' → H' q = some (.tup [trV (pairT (xs.map bxs)).1, trV (pairT (xs.map bxs)).2]) → Q (.ref q) H'
def sp_law_text (K : PySem.W.Frag) (k : Nat) : Sp := fun vs H Q _ => ∃ (v : V) (t : Tr), vs = [v] ∧ PT H v t ∧ Tr.hgt t < k ∧ t.size ≤ 2000 ∧ ∀ H', Same H H' → Q (trV t) H'
def sp_moved (T : Txt w K mg) : Sp := fun vs H Q E => ∃ (u : V) (A B : Tr), vs = [u, trV A, trV B] ∧ A.size ≤ 1000 ∧ A.size = B.size ∧ ((∃ t : Tr, u = trV t ∧ t.size ≤ 1000 ∧ (Tr.hang t A = none → Out T.c_CannotMove u H E) ∧ ∀ ts, Tr.hang t A = some ts → ∀ H', Same H H' → Q (trV (B.grow ts)) H') ∨ (NotTree K H u ∧ Out T.c_InvalidTree u H E))
def mf (A B : Tr) : List (Str × V) := [("_before", trV A), ("_after", trV B)]
/-- a move with these two trees -/
def Mv (C : Addr) (H : Hp) (v : V) (A B : Tr) : Prop := A.size = B.size ∧ ∃ p dx, v = .ref p ∧ H p = some (.ins C dx (mf A B))
def NewM (C : Addr) (H : Hp) (A B : Tr) (Q : VK) : Prop := ∀ p H', H p = none → Same H H' → Mv C H' (.ref p) A B → Q (.ref p) H'
theorem Mv.same {C : Addr} {H H' : Hp} {v : V} {A B : Tr} (h : Mv C H v A B) (s : Same H H') : Mv C H' v A B := let ⟨z, p, dx, e, g⟩ := h; ⟨z, p, dx, e, s _ _ g⟩
theorem Mv.isc {C : Addr} {H : Hp} {v : V} {A B : Tr} (h : Mv C H v A B) : OW.IsC H C v := let ⟨_, p, dx, e, g⟩ := h; ⟨p, dx, _, e, g⟩
def sp_Move___init__ (T : Txt w K mg) : Sp := fun vs H Q E => ∃ (H0 : Hp) (p dx : Addr) (u v : V), vs = [.ref p, u, v] ∧ Same H0 H ∧ H0 p = none ∧ H p = some (.ins T.c_Move dx []) ∧
  ((∃ A : Tr, u = trV A ∧ A.size ≤ 2000 ∧ ((∃ B : Tr, v = trV B ∧ B.size ≤ 2000 ∧ (A.size = B.size → ∀ H', Same H0 H' → H' p = some (.ins T.c_Move dx (mf A B)) → Q .non H') ∧
    (A.size ≠ B.size → ∀ q d H', Same H H' → H q = none → H' q = some (.tup [u, v]) → H' d = some (.xd [("value", .ref q)]) → H d = none → E (.ref T.c_InvalidMove) (some d) H')) ∨ (NotTree K H v ∧ Out T.c_InvalidTree v H E))) ∨ (NotTree K H u ∧ Out T.c_InvalidTree u H E))
def sp_Move_of (T : Txt w K mg) : Sp := fun vs H Q _ => ∃ (v : V) (xs : List (Str × List Nat)), vs = [v] ∧ GoodS H v xs ∧ PairB xs ∧ NewM T.c_Move H (pairT (xs.map bxs)).1 (pairT (xs.map bxs)).2 Q
def sp_Move_before (T : Txt w K mg) : Sp := fun vs H Q _ => ∃ (v : V) (A B : Tr), vs = [v] ∧ Mv T.c_Move H v A B ∧ Q (trV A) H
def sp_Move_after (T : Txt w K mg) : Sp := fun vs H Q _ => ∃ (v : V) (A B : Tr), vs = [v] ∧ Mv T.c_Move H v A B ∧ Q (trV B) H
def sp_Move___call__ (T : Txt w K mg) : Sp := fun vs H Q E => ∃ (v u : V) (A B : Tr), vs = [v, u] ∧ Mv T.c_Move H v A B ∧ A.size ≤ 1000 ∧ ((∃ t : Tr, u = trV t ∧ t.size ≤ 1000 ∧ (Tr.hang t A = none → Out T.c_CannotMove u H E) ∧ ∀ ts, Tr.hang t A = some ts → ∀ H', Same H H' → Q (trV (B.grow ts)) H') ∨ (NotTree K H u ∧ Out T.c_InvalidTree u H E))
def sp_Move_can (T : Txt w K mg) : Sp := fun vs H Q E => ∃ (v u : V) (A B : Tr), vs = [v, u] ∧ Mv T.c_Move H v A B ∧ A.size ≤ 1000 ∧ ((∃ t : Tr, u = trV t ∧ t.size ≤ 1000 ∧ ∀ H', Same H H' → Q (.bl (Tr.hang t A).isSome) H') ∨ (NotTree K H u ∧ Out T.c_InvalidTree u H E))
def sp_Move___eq__ (T : Txt w K mg) : Sp := fun vs H Q _ => ∃ (v u : V) (A B C D : Tr), vs = [v, u] ∧ Mv T.c_Move H v A B ∧ Mv T.c_Move H u C D ∧ Q (.bl (decide (A = C ∧ B = D))) H
def mvR (A B : Tr) : Str := Str.empty ++ Str.ofString "Move(" ++ reprText (S A.cs) ++ Str.ofString ", " ++ reprText (S B.cs) ++ Str.ofString ")"
def sp_Move___repr__ (T : Txt w K mg) : Sp := fun vs H Q _ => ∃ (v : V) (A B : Tr), vs = [v] ∧ Mv T.c_Move H v A B ∧ A.size ≤ 2000 ∧ Q (.str (mvR A B)) H
def sp_Move___mul__ (T : Txt w K mg) : Sp := fun vs H Q _ => ∃ (v u : V) (A B C D : Tr), vs = [v, u] ∧ Mv T.c_Move H v A B ∧ Mv T.c_Move H u C D ∧ A.size ≤ 500 ∧ C.size ≤ 500 ∧ NewM T.c_Move H (mulT (A, B) (C, D)).1 (mulT (A, B) (C, D)).2 Q
def sp_Move___invert__ (T : Txt w K mg) : Sp := fun vs H Q _ => ∃ (v : V) (A B : Tr), vs = [v] ∧ Mv T.c_Move H v A B ∧ A.size ≤ 1000 ∧ NewM T.c_Move H B A Q
def sp_Move___le__ (T : Txt w K mg) : Sp := fun vs H Q _ => ∃ (v u : V) (A B C D : Tr), vs = [v, u] ∧ Mv T.c_Move H v A B ∧ Mv T.c_Move H u C D ∧ A.size ≤ 2000 ∧ C.size ≤ 2000 ∧ ∀ H', Same H H' → Q (.bl (leT (A, B) (C, D))) H'
def sp_Move___lt__ (T : Txt w K mg) : Sp := fun vs H Q _ => ∃ (v u : V) (A B C D : Tr), vs = [v, u] ∧ Mv T.c_Move H v A B ∧ Mv T.c_Move H u C D ∧ A.size ≤ 2000 ∧ C.size ≤ 2000 ∧ ∀ H', Same H H' → Q (.bl (leT (A, B) (C, D) && !decide (A = C ∧ B = D))) H'
def sp_Move___ge__ (T : Txt w K mg) : Sp := fun vs H Q _ => ∃ (v u : V) (A B C D : Tr), vs = [v, u] ∧ Mv T.c_Move H v A B ∧ Mv T.c_Move H u C D ∧ A.size ≤ 2000 ∧ C.size ≤ 2000 ∧ ∀ H', Same H H' → Q (.bl (leT (C, D) (A, B))) H'
def sp_Move___gt__ (T : Txt w K mg) : Sp := fun vs H Q _ => ∃ (v u : V) (A B C D : Tr), vs = [v, u] ∧ Mv T.c_Move H v A B ∧ Mv T.c_Move H u C D ∧ A.size ≤ 2000 ∧ C.size ≤ 2000 ∧ ∀ H', Same H H' → Q (.bl (leT (C, D) (A, B) && !decide (A = C ∧ B = D))) H'
/-- no move: its kind is told, and is not Move -/
def NotMove (T : Txt w K mg) (H : Hp) (v : V) : Prop := ∃ ty, TyX K H v ty ∧ PySem.W.kitOne K ty (.ref T.c_Move) = some false
def sp_check_move (T : Txt w K mg) : Sp := fun vs H Q E => ∃ v, vs = [v] ∧ ((∃ A B, Mv T.c_Move H v A B ∧ Q .non H) ∨ (NotMove T H v ∧ Out T.c_InvalidMove v H E))
def sp_from_leaves (K : PySem.W.Frag) : Sp := fun vs H Q _ => ∃ (a : Addr) (t : Tr), vs = [.ref a] ∧ H a = some (.lst ((t.lvA []).map sV)) ∧ t.size ≤ 2000 ∧ ∀ H', Same H H' → Q (trV t) H'
def lbV (a : List Nat) : V := match lb a with | none => .non | some b => sV b
def sp_left_beside (K : PySem.W.Frag) : Sp := fun vs H Q _ => ∃ a : List Nat, vs = [sV a] ∧ a.length ≤ 100000 ∧ Q (lbV a) H
/-- pairs of addresses as tuples -/
inductive APs (H : Hp) : List V → List AP → Prop
  | nil : APs H [] []
  | cons {q : Addr} {p : AP} {vs : List V} {ps : List AP} : H q = some (.tup [sV p.1, sV p.2]) → APs H vs ps → APs H (.ref q :: vs) (p :: ps)
theorem APs.mono {H H' : Hp} (f : ∀ b vs, H b = some (.tup vs) → H' b = some (.tup vs)) : ∀ {vs : List V} {ps : List AP}, APs H vs ps → APs H' vs ps
  | _, _, .nil => .nil
  | _, _, .cons a b => .cons (f _ _ a) (APs.mono f b)
theorem APs.same {H H' : Hp} (s : Same H H') {vs : List V} {ps : List AP} (h : APs H vs ps) : APs H' vs ps := h.mono fun b vs e => s _ _ e
theorem APs.keep {H H' : Hp} {g : Addr} {ws : List V} (k : Keep g H H') (hg : H g = some (.lst ws)) {vs : List V} {ps : List AP} (h : APs H vs ps) : APs H' vs ps := h.mono fun b vs e => k _ _ (ne_of e hg fun z => by cases z) e
theorem APs.append {H : Hp} : ∀ {vs : List V} {ps : List AP} {us : List V} {qs : List AP}, APs H vs ps → APs H us qs → APs H (vs ++ us) (ps ++ qs)
  | _, _, _, _, .nil, b => b
  | _, _, _, _, .cons a c, b => .cons a (APs.append c b)
theorem APs.length {H : Hp} : ∀ {vs : List V} {ps : List AP}, APs H vs ps → vs.length = ps.length
  | _, _, .nil => rfl
  | _, _, .cons _ b => congrArg Nat.succ (APs.length b)
theorem APs.get {H : Hp} : ∀ {vs : List V} {ps : List AP} {i : Nat} {x : V}, APs H vs ps → vs[i]? = some x → ∃ q p, x = .ref q ∧ ps[i]? = some p ∧ H q = some (.tup [sV p.1, sV p.2])
  | _, _, _, _, .nil, h => by simp at h
  | _, _, 0, x, .cons (q := q) (p := p) a b, h => by
    have : V.ref q = x := by simpa using h
    exact ⟨q, p, this.symm, rfl, a⟩
  | _, _, i + 1, x, .cons a b, h => by
    obtain ⟨q, p, e, g, t⟩ := APs.get (i := i) b (by simpa using h)
    exact ⟨q, p, e, by simpa using g, t⟩
theorem APs.snoc {H : Hp} {p : AP} : ∀ {L : List AP} {ws : List V}, APs H ws (L ++ [p]) → ∃ us q, ws = us ++ [.ref q] ∧ APs H us L ∧ H q = some (.tup [sV p.1, sV p.2])
  | [], _, .cons (q := q) a .nil => ⟨[], q, rfl, .nil, a⟩
  | x :: L, _, .cons (q := q) (vs := vs) a b => by
    obtain ⟨us, r, e, h, t⟩ := APs.snoc (L := L) b
    exact ⟨.ref q :: us, r, by rw [e]; rfl, .cons a h, t⟩
def sp_paired (T : Txt w K mg) : Sp := fun vs H Q E => ∃ v, vs = [v] ∧ ((∃ A B, Mv T.c_Move H v A B ∧ A.size ≤ 2000 ∧ ∀ p ws H', H p = none → Same H H' → H' p = some (.lst ws) → APs H' ws (prd A B) → Q (.ref p) H') ∨ (NotMove T H v ∧ Out T.c_InvalidMove v H E))
def sp_widest (T : Txt w K mg) : Sp := fun vs H Q E => ∃ v, vs = [v] ∧ ((∃ A B, Mv T.c_Move H v A B ∧ A.size ≤ 2000 ∧ NewM T.c_Move H (wdT A B).1 (wdT A B).2 Q) ∨ (NotMove T H v ∧ Out T.c_InvalidMove v H E))
def sp_begun_off_arm (K : PySem.W.Frag) : Sp := fun vs H Q _ => ∃ a : List Nat, vs = [sV a] ∧ a.length ≤ 100000 ∧ Q (.int (bg a : Nat)) H
def sp_counts (T : Txt w K mg) : Sp := fun vs H Q E => OnTree K T.c_InvalidTree vs H E fun t => ∀ p H', H p = none → Same H H' → H' p = some (.lst ((Tr.Dn t []).map fun n => V.int (n : Nat))) → Q (.ref p) H'
def armV : Nat → List Nat → List (Str × List Nat)
  | _, [] => []
  | k, n :: ns => List.replicate n (Str.ofString "right", List.replicate k 114) ++ armV (k + 1) ns
def sp_arm_steps (K : PySem.W.Frag) : Sp := fun vs H Q _ => ∃ (a : Addr) (ns : List Nat), vs = [.ref a] ∧ H a = some (.lst (ns.map fun n => V.int (n : Nat))) ∧ ns.length ≤ 2000 ∧ ns.sum ≤ 2900 ∧ NewS H (armV 0 ns) Q
/-- the script from one tree to another one of its size -/
def scrV (A B : Tr) : List (Str × List Nat) := armV 0 (Tr.Dn A []) ++ ((armV 0 (Tr.Dn B [])).reverse.map fun x => (oth x.1, x.2))
def sp_arm_script (T : Txt w K mg) : Sp := fun vs H Q E => ∃ v, vs = [v] ∧ ((∃ A B, Mv T.c_Move H v A B ∧ A.size ≤ 1000 ∧ NewS H (scrV (wdT A B).1 (wdT A B).2) Q) ∨ (NotMove T H v ∧ Out T.c_InvalidMove v H E))
def sp_check_both (T : Txt w K mg) : Sp := fun vs H Q _ => ∃ A B : Tr, vs = [trV A, trV B] ∧ A.size ≤ 1000 ∧ B.size ≤ 1000 ∧ ∀ H', Same H H' → Q .non H'
def sp_arm_way (T : Txt w K mg) : Sp := fun vs H Q _ => ∃ A B : Tr, vs = [trV A, trV B] ∧ A.size ≤ 1000 ∧ A.size = B.size ∧ NewS H (scrV (wdT A B).1 (wdT A B).2) Q
end

/-- a purse: its second number is small, its third at most n -/
def PurseAt (H : Hp) (g : Addr) (n : Nat) : Prop := ∃ a b c : Int, H g = some (.lst [.int a, .int b, .int c]) ∧ 0 ≤ b ∧ b < 2147483647 ∧ 0 ≤ c ∧ c ≤ (n : Int)
abbrev nI (n : Nat) : V := .int (n : Nat)
/-- where two neighbouring leaves of one node begin -/
def twT : Tr → Nat → List Nat
  | .leaf, _ => []
  | .node .leaf .leaf, s => [s]
  | .node (.node a b) r, s => twT (.node a b) s ++ twT r (s + (Tr.node a b).lvs)
  | .node .leaf (.node c d), s => twT (.node c d) (s + 1)
/-- those of a list taken off -/
def cutT : Tr → Nat → List Nat → Tr
  | .leaf, _, _ => .leaf
  | .node .leaf .leaf, s, F => if s ∈ F then .leaf else .node .leaf .leaf
  | .node (.node a b) r, s, F => .node (cutT (.node a b) s F) (cutT r (s + (Tr.node a b).lvs) F)
  | .node .leaf (.node c d), s, F => .node .leaf (cutT (.node c d) (s + 1) F)
/-- the steps that can be done on the arm, each with what it makes; f puts back what stands above -/
def armL : Nat → (Tr → Tr) → Tr → List ((Str × List Nat) × Tr)
  | _, _, .leaf => []
  | k, f, .node l r => (match l with | .leaf => [] | .node a b => [((Str.ofString "right", List.replicate k 114), f (.node a (.node b r)))]) ++
      (match r with | .leaf => [] | .node b c => [((Str.ofString "left", List.replicate k 114), f (.node (.node l b) c))]) ++ armL (k + 1) (fun x => f (.node l x)) r
/-- such a list -/
inductive ArmA (H : Hp) : List V → List ((Str × List Nat) × Tr) → Prop
  | nil : ArmA H [] []
  | cons {p q : Addr} {u : V} {x : (Str × List Nat) × Tr} {vs : List V} {xs : List ((Str × List Nat) × Tr)} : H p = some (.tup [.ref q, u]) → H q = some (.tup [.str x.1.1, sV x.1.2]) → PT H u x.2 → ArmA H vs xs → ArmA H (.ref p :: vs) (x :: xs)
def SpinsL (H : Hp) (ws : List V) (m : Nat) : Prop := ∀ v ∈ ws, ∃ p x u t, v = .ref p ∧ H p = some (.tup [x, u]) ∧ PT H u t ∧ t.size = m
section
variable {w : World} {K : PySem.W.Frag} {mg : Str → Option Value}
def sp_law_mixed (K : PySem.W.Frag) : Sp := fun vs H Q _ => ∃ s i : Int, vs = [.int s, .int i] ∧ 0 ≤ s ∧ s < 2147483647 ∧ 0 ≤ i ∧ i ≤ 1000000000000000 ∧ ∀ r : Int, 0 ≤ r → r < 2147483587 → Q (.int r) H
def sp_law_purse (K : PySem.W.Frag) : Sp := fun vs H Q _ => ∃ (a : Addr) (ns : List Int) (i : Nat), vs = [.ref a, .int i] ∧ SqL K H a (ns.map V.int) ∧ ns.length ≤ 63 ∧ i ≤ 100 ∧ ∀ g H', H g = none → Same H H' → PurseAt H' g (1000 * i) → Q (.ref g) H'
def sp_law_draw (K : PySem.W.Frag) : Sp := fun vs H Q _ => ∃ (g : Addr) (b : Int) (n : Nat), vs = [.ref g, .int b] ∧ PurseAt H g n ∧ n ≤ 100000000000000 ∧ 1 ≤ b ∧ b < 1000000000000000 ∧
  ∀ (r : Int) H', 0 ≤ r → r < b → Keep g H H' → PurseAt H' g (n + 3) → Q (.int r) H'
def sp_law_nest (K : PySem.W.Frag) (k : Nat) : Sp := fun vs H Q _ => ∃ (g : Addr) (m n : Nat), vs = [.ref g, .int m] ∧ m < k ∧ m ≤ 100 ∧ PurseAt H g n ∧ n + 6 * m ≤ 10000000000000 ∧
  ∀ (t : Tr) v H', t.size = m → Keep g H H' → PurseAt H' g (n + 6 * m) → PT H' v t → Q v H'
def sp_law_width (K : PySem.W.Frag) (k : Nat) : Sp := fun vs H Q _ => ∃ (v : V) (t : Tr), vs = [v] ∧ PT H v t ∧ Tr.hgt t < k ∧ Tr.hgt t ≤ 62 ∧ ∀ H', Same H H' → Q (nI t.lvs) H'
def sp_law_spins (K : PySem.W.Frag) (k : Nat) : Sp := fun vs H Q _ => ∃ (v : V) (a : List Nat) (t : Tr), vs = [v, sV a] ∧ PT H v t ∧ Tr.hgt t < k ∧ Tr.hgt t ≤ 62 ∧ t.size ≤ 100 ∧ a.length + Tr.hgt t ≤ 1000 ∧ ∀ p ws H', H p = none → Same H H' → H' p = some (.lst ws) → ws.length ≤ 2 * t.size → SpinsL H' ws t.size → Q (.ref p) H'
def sp_law_off (K : PySem.W.Frag) (k : Nat) : Sp := fun vs H Q _ => ∃ (v : V) (b : Bool) (t : Tr), vs = [v, .bl b] ∧ PT H v t ∧ Tr.hgt t < k ∧ Tr.hgt t ≤ 62 ∧ ∀ H', Same H H' → Q (nI (if b = true then t.off else t.size)) H'
def sp_law_twins (K : PySem.W.Frag) (k : Nat) : Sp := fun vs H Q _ => ∃ (v : V) (s : Nat) (t : Tr), vs = [v, nI s] ∧ PT H v t ∧ Tr.hgt t < k ∧ Tr.hgt t ≤ 62 ∧ t.size ≤ 100 ∧ ∀ p H', H p = none → Same H H' → H' p = some (.lst ((twT t s).map nI)) → Q (.ref p) H'
def sp_law_cut (K : PySem.W.Frag) (k : Nat) : Sp := fun vs H Q _ => ∃ (v : V) (s : Nat) (a : Addr) (F : List Nat) (t : Tr), vs = [v, nI s, .ref a] ∧ PT H v t ∧ Tr.hgt t < k ∧ Tr.hgt t ≤ 62 ∧ t.size ≤ 100 ∧ H a = some (.lst (F.map nI)) ∧ ∀ u H', Same H H' → PT H' u (cutT t s F) → Q u H'
def sp_law_least (K : PySem.W.Frag) : Sp := fun vs H Q _ => ∃ (u v : V) (A B : Tr), vs = [u, v] ∧ PT H u A ∧ PT H v B ∧ A.size = B.size ∧ A.size ≤ 60 ∧ ∀ H', Same H H' → Q (nI ((wdT A B).1.off + (wdT A B).2.off)) H'
def sp_law_arm (K : PySem.W.Frag) : Sp := fun vs H Q _ => ∃ (v : V) (t : Tr), vs = [v] ∧ PT H v t ∧ t.size ≤ 60 ∧ ∀ p ws H', H p = none → Same H H' → H' p = some (.lst ws) → ArmA H' ws (armL 0 id t) → Q (.ref p) H'
def sp_law_led (K : PySem.W.Frag) : Sp := fun vs H Q _ => ∃ (v : V) (a : Addr) (t s : Tr) (ws : List V) (xs : List (Str × List Nat)), vs = [v, .ref a] ∧ PT H v t ∧ t.size ≤ 60 ∧ H a = some (.lst ws) ∧ Stps H ws xs ∧
  (∀ x ∈ xs, (x.1 = Str.ofString "left" ∨ x.1 = Str.ofString "right") ∧ ∃ j, j ≤ 200 ∧ x.2 = List.replicate j 114) ∧ runO (xs.map bxs) t = some s ∧ ∀ u H', Same H H' → PT H' u s → Q u H'
end

section
variable {P : Program} {w : World} {K : PySem.W.Frag} {mg : Str → Option Value} {base : Heap}

theorem tr_len {t : Tr} (h : t.size ≤ 2000) : t.cs.length ≤ 6001 := by rw [Tr.cs_length, Tr.len_size]; omega
abbrev sgV (c : Nat) : V := .str (S [c])
theorem hgt_size : ∀ t : Tr, Tr.hgt t ≤ t.size
  | .leaf => Nat.le_refl _
  | .node l r => by
    have h1 := hgt_size l
    have h2 := hgt_size r
    show max (Tr.hgt l) (Tr.hgt r) + 1 ≤ l.size + r.size + 1
    omega
theorem GenAt.upd {g p : Addr} {H : Hp} {n : Nat} {o : HO} (h : GenAt H g n) (ne : p ≠ g) : GenAt (L2.upd H p o) g n := by
  obtain ⟨a, b, c, h, x, y⟩ := h
  exact ⟨a, b, c, by rw [upd_ne ne.symm]; exact h, x, y⟩
theorem GenAt.keep {g l : Addr} {H H' : Hp} {n : Nat} (h : GenAt H g n) (k : Keep l H H') (ne : g ≠ l) : GenAt H' g n := by
  obtain ⟨a, b, c, h, x, y⟩ := h
  exact ⟨a, b, c, k _ _ ne h, x, y⟩
theorem off_keepg {g : Addr} {H : Hp} : Keep g H (off g H) := fun b o n e => off_at n e
theorem PTs.off {H : Hp} {g : Addr} {y : List V} (hg : H g = some (.lst y)) {vs : List V} {ts : List Tr} (h : PTs H vs ts) : PTs (off g H) vs ts := h.keep (fun b o n e => off_at n e) hg
theorem put_size : ∀ (t : Tr) (a : List Nat) (p u : Tr), tat t a = some p → (put t a u).size + p.size = t.size + u.size
  | t, [], p, u, h => by
    rw [tat_nil] at h
    cases h
    rw [put_nil]; omega
  | .leaf, c :: a, p, u, h => by cases h
  | .node l r, c :: a, p, u, h => by
    have h : (if c = 108 then tat l a else tat r a) = some p := h
    show (if c = 108 then Tr.node (put l a u) r else Tr.node l (put r a u)).size + _ = _
    by_cases hc : c = 108
    · rw [if_pos hc] at h ⊢
      have := put_size l a p u h
      show (put l a u).size + r.size + 1 + p.size = l.size + r.size + 1 + u.size
      omega
    · rw [if_neg hc] at h ⊢
      have := put_size r a p u h
      show l.size + (put r a u).size + 1 + p.size = l.size + r.size + 1 + u.size
      omega
theorem cutAll (z : Str) : cutS z none none = z := by
  unfold cutS
  have e1 : HT.sIx z.length 0 none = 0 := rfl
  have e2 : HT.sIx z.length z.length none = z.length := rfl
  rw [e1, e2]
  cases z with
  | mk c =>
    show (⟨(List.take c.size c.toList).toArray⟩ : Str) = ⟨c⟩
    rw [List.take_of_length_le (by simp)]

theorem tD_eqv : ∀ a b : Tr, PyData.eqv (tD a) (tD b) = decide (a = b)
  | .leaf, .leaf => by simp [tD, PyData.eqv, PyData.eqvAll]
  | .leaf, .node c d => by simp [tD, PyData.eqv, PyData.eqvAll]
  | .node a b, .leaf => by simp [tD, PyData.eqv, PyData.eqvAll]
  | .node a b, .node c d => by
    simp only [tD, PyData.eqv, PyData.eqvAll, tD_eqv a c, tD_eqv b d, Bool.and_true, Tr.node.injEq]
    by_cases h1 : a = c <;> by_cases h2 : b = d <;> simp [h1, h2]
theorem ndA_at : ∀ (t : Tr) (b a : List Nat), a ∈ t.ndA b → ∃ c, a = b ++ c ∧ isA c = true ∧ c.length < Tr.hgt t ∧ ∃ l r, tat t c = some (.node l r)
  | .leaf, b, a, h => by cases h
  | .node l r, b, a, h => by
    have e1 : Tr.hgt (Tr.node l r) = max (Tr.hgt l) (Tr.hgt r) + 1 := rfl
    simp only [Tr.ndA, List.mem_append, List.mem_singleton] at h
    rcases h with (h | h) | h
    · obtain ⟨c, e, hc, hl, x, y, ht⟩ := ndA_at l _ a h
      refine ⟨108 :: c, by rw [e]; simp, by unfold isA at hc ⊢; simp [hc], by simp; omega, x, y, ?_⟩
      show (if (108 : Nat) = 108 then tat l c else tat r c) = _
      rw [if_pos rfl]; exact ht
    · exact ⟨[], by rw [h]; simp, rfl, by simp; omega, l, r, rfl⟩
    · obtain ⟨c, e, hc, hl, x, y, ht⟩ := ndA_at r _ a h
      refine ⟨114 :: c, by rw [e]; simp, by unfold isA at hc ⊢; simp [hc], by simp; omega, x, y, ?_⟩
      show (if (114 : Nat) = 108 then tat l c else tat r c) = _
      rw [if_neg (by decide)]; exact ht
theorem PT.eqE {K : PySem.W.Frag} {H : Hp} {u v : V} {a b : Tr} {Q : VK} (ha : PT H u a) (hb : PT H v b) (hm : Tr.hgt b ≤ 60) (q : Q (.bl (decide (a = b))) H) : TV.rEqE K u v H Q :=
  ⟨tD a, tD b, ha.dp, hb.dp, tD_lay a, tD_lay b, by rw [tD_depth b]; omega, by rw [tD_eqv]; exact q⟩
theorem PT.eqF {K : PySem.W.Frag} {H : Hp} {u v : V} {a b : Tr} {Q : VK} (ha : PT H u a) (hb : PT H v b) (hm : Tr.hgt b ≤ 190) (q : Q (.bl (decide (a = b))) H) : TI.rEqF K u v H Q :=
  ⟨tD a, tD b, ha.dp, hb.dp, tD_lay a, tD_lay b, by rw [tD_depth b]; omega, by rw [tD_eqv]; exact q⟩
theorem PT.neF {K : PySem.W.Frag} {H : Hp} {u v : V} {a b : Tr} {Q : VK} (ha : PT H u a) (hb : PT H v b) (hm : Tr.hgt b ≤ 190) (q : Q (.bl (!decide (a = b))) H) : TI.rNeF K u v H Q :=
  ⟨tD a, tD b, ha.dp, hb.dp, tD_lay a, tD_lay b, by rw [tD_depth b]; omega, by rw [tD_eqv]; exact q⟩

theorem neLeaf {H : Hp} {v : V} {t : Tr} {p : Addr} {Q : VK} (h : PT H v t) (ht : Tr.hgt t ≤ 62) (hp : H p = some (.tup [])) (q : Q (.bl (!decide (t = .leaf))) H) : rNeD K v (.ref p) H Q :=
  ⟨tD t, .tuple [], h.dp, .tup (SqT.of hp) .nil, tD_shaped ht, by decide +kernel, by rw [tD_leaf]; exact q⟩
theorem eqTD {H : Hp} {u v : V} {a b : Tr} {Q : VK} (ha : PT H u a) (hb : PT H v b) (h1 : Tr.hgt a ≤ 62) (h2 : Tr.hgt b ≤ 62) (q : Q (.bl (decide (a = b))) H) : rEqD K u v H Q :=
  ⟨tD a, tD b, ha.dp, hb.dp, tD_shaped h1, tD_shaped h2, by rw [tD_eqv]; exact q⟩
theorem neTD {H : Hp} {u v : V} {a b : Tr} {Q : VK} (ha : PT H u a) (hb : PT H v b) (h1 : Tr.hgt a ≤ 62) (h2 : Tr.hgt b ≤ 62) (q : Q (.bl (!decide (a = b))) H) : rNeD K u v H Q :=
  ⟨tD a, tD b, ha.dp, hb.dp, tD_shaped h1, tD_shaped h2, by rw [tD_eqv]; exact q⟩
theorem hgt_node (l r : Tr) : Tr.hgt (Tr.node l r) = max (Tr.hgt l) (Tr.hgt r) + 1 := rfl
theorem PT.ref {H : Hp} {v : V} {t : Tr} (h : PT H v t) : ∃ p xs, v = .ref p ∧ H p = some (.tup xs) := by cases h with | leaf h => exact ⟨_, _, rfl, h⟩ | node h _ _ => exact ⟨_, _, rfl, h⟩
theorem hgt_le : ∀ t : Tr, Tr.hgt t ≤ t.size
  | .leaf => Nat.le_refl _
  | .node l r => by
    have h1 := hgt_le l
    have h2 := hgt_le r
    rw [hgt_node]
    simp only [Tr.size]; omega
abbrev nD (n : Nat) : PyData := .int (n : Nat)
theorem nI_dp {H : Hp} : ∀ F : List Nat, DpAll K H (F.map nI) (F.map nD)
  | [] => .nil
  | n :: F => .cons (.int _) (nI_dp F)
theorem nI_lay : ∀ F : List Nat, PyData.canLayAll0 (F.map nD) = true
  | [] => by simp [PyData.canLayAll0]
  | n :: F => by
    simp only [List.map_cons, PyData.canLayAll0, PyData.canLay0, nI_lay F]; rfl
theorem nI_dep : ∀ F : List Nat, PyData.depthAll (F.map nD) = 0
  | [] => by simp [PyData.depthAll]
  | n :: F => by simp only [List.map_cons, PyData.depthAll, PyData.depth, nI_dep F]; rfl
theorem neInts {H : Hp} {a b : Addr} {F : List Nat} {Q : VK} (ha : H a = some (.lst (F.map nI))) (hb : H b = some (.lst [])) (q : Q (.bl (!decide (F = []))) H) : rNeD K (.ref a) (.ref b) H Q := by
  refine ⟨.list (F.map nD), .list [], .lst (SqL.of ha) (nI_dp F), .lst (SqL.of hb) .nil, ?_, by decide, ?_⟩
  · unfold SeqAt.shaped
    have := nI_dep F
    simp only [PyData.canLay0, PyData.depth, nI_lay F]
    simp
    omega
  · have e : PyData.eqv (.list (F.map nD)) (.list []) = decide (F = []) := by
      cases F with
      | nil => simp [PyData.eqv, PyData.eqvAll]
      | cons n F => simp [PyData.eqv, PyData.eqvAll]
    rw [e]; exact q
theorem PT.inv {H : Hp} {v : V} {a b : Tr} (h : PT H v (.node a b)) : ∃ p x y, v = .ref p ∧ H p = some (.tup [x, y]) ∧ PT H x a ∧ PT H y b := by
  cases h with
  | node hp hx hy => exact ⟨_, _, _, rfl, hp, hx, hy⟩

theorem eqLeafE {K : PySem.W.Frag} {H : Hp} {v : V} {t : Tr} {p : Addr} {Q : VK} (h : PT H v t) (hp : H p = some (.tup [])) (q : Q (.bl (decide (t = .leaf))) H) : TV.rEqE K v (.ref p) H Q :=
  ⟨tD t, .tuple [], h.dp, .tup (SqT.of hp) .nil, tD_lay t, by decide +kernel, by simp [PyData.depth, PyData.depthAll]; omega, by rw [tD_leaf]; exact q⟩

theorem ok_law_width (T : Txt w K mg) : ∀ k : Nat, FnD P w K mg base CX0 (k + 1) 3 T.a_law_width T.fd_law_width ["_law_nest_here"] (sp_law_width K k)
  | 0 => by
    have no : ∀ vs H Q E, ¬ sp_law_width K 0 vs H Q E := fun vs H Q E h => by
      obtain ⟨_, _, _, _, h, _⟩ := h
      omega
    exact ⟨fun vs H Q E h => absurd h (no vs H Q E), fun A outer s H args us vs Q E _ _ _ _ h => absurd h (no vs H Q E)⟩
  | k + 1 => by
    have rec_law_width := ok_law_width T k
    refine okD T.F_law_width sc_law_width (fun vs H Q E h => ?_) (fun cdv A outer s H vs Q E hr h => ?_)
    · obtain ⟨_, _, h, _⟩ := h; subst h; rfl
    obtain ⟨v, t, rfl, hv, hk, h62, q⟩ := h
    have hru := hr.room.units
    refine ⟨_, (pss_one (ps_ret (pe_ifExp (pt_cmpR (op_eqD hru) (pv 0) (pe_tup pa_nil) (nomark _)) pe_int (pe_op op_add (pe_callD rec_law_width (hr.mono (by first | decide | omega) (by first | decide | omega)) (by rfl) T.m_law_width T.F_law_width.kp T.b_law_width .nil pass0 (pa_cons (pe_ix ix_tup (pv 0) pe_int (fun _ _ => rfl)) pa_nil)) (pe_callD rec_law_width (hr.mono (by first | decide | omega) (by first | decide | omega)) (by rfl) T.m_law_width T.F_law_width.kp T.b_law_width .nil pass0 (pa_cons (pe_ix ix_tup (pv 0) pe_int (fun _ _ => rfl)) pa_nil)))))), ?_⟩
    simp only [cxOf_K, tAsg2, tYes, wipe, tSeq, tIfS, tNot, tB, tCB, tCons, tNil, tVar, tC, tTest, tOp, tAnd, tOr, tAsg, gName, tRet, tRetN, tDrop, tNext, tIf, tCall, tTup, tLst, tNotV, tAndV, tOrV, tUn, rI0, rI, rU, rEq, rNe, tM1, tM0, tBM, tBM0, tSl, tPart, tNoPart, iStr, iEnumS, iRng1, iRng2, iList, gSub, tBits, tAug, tPar, L2.start, List.map_cons, List.map_nil, List.length_cons, List.length_nil, List.getElem?_cons_zero, List.getElem?_cons_succ, List.cons_append, List.nil_append, List.append_nil, List.set_cons_zero, List.set_cons_succ, List.replicate_succ, List.replicate_zero, Option.some.injEq, exists_eq_left', V.int.injEq, V.str.injEq, V.ref.injEq, V.bl.injEq, exists_and_left, exists_eq_left, List.cons.injEq, and_true, true_and, tCallX, tRs]
    refine ⟨by decide, fun p0 np0 => ?_⟩
    have s0 := (L2.Same.refl H).new np0 (.tup [])
    refine eqLeaf (hv.same s0) h62 upd_same ⟨_, rfl, ?_⟩
    generalize upd H p0 (.tup []) = H0 at s0 ⊢
    have hv0 := hv.same s0
    cases hv0 with
    | leaf hp =>
      rw [if_pos (decide_eq_true rfl)]
      exact q _ s0
    | node hp hx hy =>
      rename_i pp x y l r
      have e1 : Tr.hgt (Tr.node l r) = max (Tr.hgt l) (Tr.hgt r) + 1 := rfl
      have e2 : (Tr.node l r).size = l.size + r.size + 1 := rfl
      have e3 : (Tr.node l r).lvs = l.lvs + r.lvs := rfl
      rw [if_neg (by simp)]
      refine ⟨pp, _, 0, x, rfl, rfl, SqT.of hp, rfl, x, l, rfl, hx, by omega, by omega, fun H1 s1 => ?_⟩
      refine ⟨pp, _, 1, y, rfl, rfl, SqT.of (s1 _ _ hp), rfl, y, r, rfl, hy.same s1, by omega, by omega, fun H2 s2 => ⟨_, rfl, _, rfl, ?_⟩⟩
      have := q _ (s0.trans (s1.trans s2))
      rw [e3] at this
      rw [show ((l.lvs : Nat) : Int) + ((r.lvs : Nat) : Int) = ((l.lvs + r.lvs : Nat) : Int) by omega]
      exact this

theorem twT_len : ∀ (t : Tr) (n : Nat), (twT t n).length ≤ t.size
  | .leaf, n => Nat.le_refl 0
  | .node .leaf .leaf, n => Nat.le_refl 1
  | .node (.node a b) r, n => by
    have h1 := twT_len (.node a b) n
    have h2 := twT_len r (n + (Tr.node a b).lvs)
    have e : (Tr.node (.node a b) r).size = (Tr.node a b).size + r.size + 1 := rfl
    show (twT (.node a b) n ++ twT r (n + (Tr.node a b).lvs)).length ≤ _
    rw [List.length_append]; omega
  | .node .leaf (.node c d), n => by
    have h1 := twT_len (.node c d) (n + 1)
    have e : (Tr.node .leaf (.node c d)).size = 0 + (Tr.node c d).size + 1 := rfl
    show (twT (.node c d) (n + 1)).length ≤ _
    omega
theorem ok_law_twins (T : Txt w K mg) : ∀ k : Nat, FnD P w K mg base CX0 (k + 76) 3 T.a_law_twins T.fd_law_twins ["_law_nest_here", "_law_start"] (sp_law_twins K k)
  | 0 => by
    have no : ∀ vs H Q E, ¬ sp_law_twins K 0 vs H Q E := fun vs H Q E h => by
      obtain ⟨_, _, _, _, _, h, _⟩ := h
      omega
    exact ⟨fun vs H Q E h => absurd h (no vs H Q E), fun A outer s H args us vs Q E _ _ _ _ h => absurd h (no vs H Q E)⟩
  | k + 1 => by
    have rec_law_twins := ok_law_twins T k
    refine okD T.F_law_twins sc_law_twins (fun vs H Q E h => ?_) (fun cdv A outer s H vs Q E hr h => ?_)
    · obtain ⟨_, _, _, h, _⟩ := h; subst h; rfl
    obtain ⟨v, n, t, rfl, hv, hk, h62, hz, q⟩ := h
    have hru := hr.room.units
    refine ⟨_, (pss_cons (ps_if (pt_cmpR (op_eqD hru) (pv 0) (pe_tup pa_nil) (nomark _)) (pss_one (ps_ret (pe_lst pa_nil))) pss_nil)
    (pss_cons (ps_if (pt_cmpR (op_eqD hru) (pv 0) (pe_tup (pa_cons (pe_tup pa_nil) (pa_cons (pe_tup pa_nil) pa_nil))) (nomark _)) (pss_one (ps_ret (pe_lst (pa_cons (pv 1) pa_nil)))) pss_nil)
    (pss_one (ps_ret (pe_op op_cat (pe_callD rec_law_twins (hr.mono (by first | decide | omega) (by first | decide | omega)) (by rfl) T.m_law_twins T.F_law_twins.kp T.b_law_twins .nil pass0 (pa_cons (pe_ix ix_tup (pv 0) pe_int (fun _ _ => rfl)) (pa_cons (pv 1) pa_nil))) (pe_callD rec_law_twins (hr.mono (by first | decide | omega) (by first | decide | omega)) (by rfl) T.m_law_twins T.F_law_twins.kp T.b_law_twins .nil pass0 (pa_cons (pe_ix ix_tup (pv 0) pe_int (fun _ _ => rfl)) (pa_cons (pe_op op_add (pv 1) (pe_callD (ok_law_width T 70) (hr.mono (by first | decide | omega) (by first | decide | omega)) (by rfl) T.m_law_width T.F_law_width.kp T.b_law_width .nil pass0 (pa_cons (pe_ix ix_tup (pv 0) pe_int (fun _ _ => rfl)) pa_nil))) pa_nil)))))))), ?_⟩
    simp only [cxOf_K, tAsg2, tYes, wipe, tSeq, tIfS, tNot, tB, tCB, tCons, tNil, tVar, tC, tTest, tOp, tAnd, tOr, tAsg, gName, tRet, tRetN, tDrop, tNext, tIf, tCall, tTup, tLst, tNotV, tAndV, tOrV, tUn, rI0, rI, rU, rEq, rNe, tM1, tM0, tBM, tBM0, tSl, tPart, tNoPart, iStr, iEnumS, iRng1, iRng2, iList, gSub, tBits, tAug, tPar, L2.start, List.map_cons, List.map_nil, List.length_cons, List.length_nil, List.getElem?_cons_zero, List.getElem?_cons_succ, List.cons_append, List.nil_append, List.append_nil, List.set_cons_zero, List.set_cons_succ, List.replicate_succ, List.replicate_zero, Option.some.injEq, exists_eq_left', V.int.injEq, V.str.injEq, V.ref.injEq, V.bl.injEq, exists_and_left, exists_eq_left, List.cons.injEq, and_true, true_and, tCallX, tRs]
    refine ⟨by decide, fun p0 np0 => ?_⟩
    have s0 := (L2.Same.refl H).new np0 (.tup [])
    refine eqLeaf (hv.same s0) h62 upd_same ⟨_, rfl, ?_⟩
    generalize upd H p0 (.tup []) = H0 at s0 ⊢
    have hv0 := hv.same s0
    cases hv0 with
    | leaf hp =>
      rw [if_pos (decide_eq_true rfl)]
      exact ⟨by decide, fun p np => q p _ (s0.free np) (s0.new (s0.free np) _) upd_same⟩
    | node hp hx hy =>
      rename_i pp x y l r
      have e1 : Tr.hgt (Tr.node l r) = max (Tr.hgt l) (Tr.hgt r) + 1 := rfl
      have e2 : (Tr.node l r).size = l.size + r.size + 1 := rfl
      have e3 : (Tr.node l r).lvs = l.lvs + r.lvs := rfl
      rw [if_neg (by simp)]
      refine ⟨by decide, fun q1 nq1 => ⟨by decide, fun q2 nq2 => ⟨by decide, fun q3 nq3 => ?_⟩⟩⟩
      have w1 := (L2.Same.refl H0).new nq1 (.tup [])
      have f1 : upd H0 q1 (.tup []) q1 = some (.tup []) := upd_same
      generalize upd H0 q1 (.tup []) = F1 at w1 f1 nq2 nq3 ⊢
      have w2 := (L2.Same.refl F1).new nq2 (.tup [])
      have f2 : upd F1 q2 (.tup []) q2 = some (.tup []) := upd_same
      generalize upd F1 q2 (.tup []) = F2 at w2 f2 nq3 ⊢
      have w3 := (L2.Same.refl F2).new nq3 (.tup [V.ref q1, .ref q2])
      have f3 : upd F2 q3 (.tup [V.ref q1, .ref q2]) q3 = some (.tup [V.ref q1, .ref q2]) := upd_same
      generalize upd F2 q3 (.tup [V.ref q1, .ref q2]) = F3 at w3 f3 ⊢
      have ch : PT F3 (.ref q3) (.node .leaf .leaf) := .node f3 (.leaf (w3 _ _ (w2 _ _ f1))) (.leaf (w3 _ _ f2))
      have sF := s0.trans (w1.trans (w2.trans w3))
      have wF := w1.trans (w2.trans w3)
      have hp := wF _ _ hp
      have hx := hx.same wF
      have hy := hy.same wF
      clear w1 w2 w3 f1 f2 f3 nq1 nq2 nq3 wF
      refine eqTD (PT.node hp hx hy) ch h62 (by decide) ⟨_, rfl, ?_⟩
      by_cases hc : Tr.node l r = .node .leaf .leaf
      · rw [if_pos (decide_eq_true hc)]
        obtain ⟨rfl, rfl⟩ := Tr.node.inj hc
        exact ⟨by decide, fun p np => q p _ (sF.free np) (sF.new (sF.free np) _) upd_same⟩
      · rw [if_neg (by simpa using hc)]
        have tw : twT (.node l r) n = twT l n ++ twT r (n + l.lvs) := by
          cases l with
          | leaf =>
            cases r with
            | leaf => exact absurd rfl hc
            | node c d => rfl
          | node a b => rfl
        refine ⟨pp, _, 0, x, rfl, rfl, SqT.of hp, rfl, x, n, l, rfl, hx, by omega, by omega, by omega, fun p1 H1 n1 s1 h1 => ?_⟩
        refine ⟨pp, _, 1, y, rfl, rfl, SqT.of (s1 _ _ hp), rfl, pp, _, 0, x, rfl, rfl, SqT.of (s1 _ _ hp), rfl, x, l, rfl, hx.same s1, by omega, by omega, fun H2 s2 => ⟨_, rfl, ?_⟩⟩
        refine ⟨y, n + l.lvs, r, by rw [show ((n : Nat) : Int) + ((l.lvs : Nat) : Int) = ((n + l.lvs : Nat) : Int) by omega], (hy.same s1).same s2, by omega, by omega, by omega, fun p2 H3 n3 s3 h3 => ?_⟩
        have l1 := twT_len l n
        have l2 := twT_len r (n + l.lvs)
        refine ⟨p1, p2, _, _, rfl, rfl, s3 _ _ (s2 _ _ h1), h3, by rw [List.length_map, List.length_map]; exact small5 (by omega), fun p np => ?_⟩
        have sA := sF.trans (s1.trans (s2.trans s3))
        exact q p _ (sA.free np) (sA.new (sA.free np) _) (by rw [upd_same, tw, List.map_append])

theorem cutHt {G : Prop} {U : Hp → Prop} {C : Hp → Nat → Prop} (use : (∀ H n, C H n → U H) → G) (key : ∀ H n, C H n → U H) : G := use key
theorem cutRt {G : Prop} {U : V → Hp → Prop} {C : V → Hp → Prop} (use : (∀ v H, C v H → U v H) → G) (key : ∀ v H, C v H → U v H) : G := use key
theorem cutPt {G P c : Prop} (use : (c → P) → G) (key : c → P) : G := use key

theorem inV_nI (n : Nat) : ∀ F : List Nat, inV (nI n) (F.map nI) = decide (n ∈ F)
  | [] => by simp [inV]
  | m :: F => by
    have ih := inV_nI n F
    unfold inV at ih ⊢
    rw [List.map_cons, List.any_cons, ih]
    have e : eqV (nI n) (nI m) = decide (n = m) := by
      show decide ((n : Int) = (m : Int)) = _
      exact decide_eq_decide.mpr (by omega)
    first | rw [e] | (rw [show eqV (nI m) (nI n) = decide (n = m) from by show decide ((m : Int) = (n : Int)) = _; exact decide_eq_decide.mpr (by omega)])
    by_cases h1 : n = m <;> by_cases h2 : n ∈ F <;> simp [h1, h2]
theorem ok_law_cut (T : Txt w K mg) : ∀ k : Nat, FnD P w K mg base CX0 (k + 76) 3 T.a_law_cut T.fd_law_cut ["_law_nest_here", "_law_start", "_law_found"] (sp_law_cut K k)
  | 0 => by
    have no : ∀ vs H Q E, ¬ sp_law_cut K 0 vs H Q E := fun vs H Q E h => by
      obtain ⟨_, _, _, _, _, _, _, h, _⟩ := h
      omega
    exact ⟨fun vs H Q E h => absurd h (no vs H Q E), fun A outer s H args us vs Q E _ _ _ _ h => absurd h (no vs H Q E)⟩
  | k + 1 => by
    have rec_law_cut := ok_law_cut T k
    refine okD T.F_law_cut sc_law_cut (fun vs H Q E h => ?_) (fun cdv A outer s H vs Q E hr h => ?_)
    · obtain ⟨_, _, _, _, _, h, _⟩ := h; subst h; rfl
    obtain ⟨v, n, a, F, t, rfl, hv, hk, h62, hz, hF, q⟩ := h
    have hru := hr.room.units
    refine ⟨_, (pss_cons (ps_if (pt_cmpR (op_eqD hru) (pv 0) (pe_tup pa_nil) (nomark _)) (pss_one (ps_ret (pv 0))) pss_nil)
    (pss_cons (ps_if (pw_and (pt_cmpR (op_eqD hru) (pv 0) (pe_tup (pa_cons (pe_tup pa_nil) (pa_cons (pe_tup pa_nil) pa_nil))) (nomark _)) (pw_and1 (pt_cmpR op_in_seq (pv 1) (pv 2) (by with_unfolding_all rfl)))).pt (pss_one (ps_ret (pe_tup pa_nil))) pss_nil)
    (pss_cons (ps_set (i := 3) sc_law_cut.nd rfl (by first | exact Or.inl rfl | exact Or.inr rfl) (pe_op op_add (pv 1) (pe_callD (ok_law_width T 70) (hr.mono (by first | decide | omega) (by first | decide | omega)) (by rfl) T.m_law_width T.F_law_width.kp T.b_law_width .nil pass0 (pa_cons (pe_ix ix_tup (pv 0) pe_int (fun _ _ => rfl)) pa_nil))))
    (pss_one (ps_ret (pe_tup (pa_cons (pe_callD rec_law_cut (hr.mono (by first | decide | omega) (by first | decide | omega)) (by rfl) T.m_law_cut T.F_law_cut.kp T.b_law_cut .nil pass0 (pa_cons (pe_ix ix_tup (pv 0) pe_int (fun _ _ => rfl)) (pa_cons (pv 1) (pa_cons (pv 2) pa_nil)))) (pa_cons (pe_callD rec_law_cut (hr.mono (by first | decide | omega) (by first | decide | omega)) (by rfl) T.m_law_cut T.F_law_cut.kp T.b_law_cut .nil pass0 (pa_cons (pe_ix ix_tup (pv 0) pe_int (fun _ _ => rfl)) (pa_cons (pv 3) (pa_cons (pv 2) pa_nil)))) pa_nil)))))))), ?_⟩
    simp only [cxOf_K, tAsg2, tYes, wipe, tSeq, tIfS, tNot, tB, tCB, tCons, tNil, tVar, tC, tTest, tOp, tAnd, tOr, tAsg, gName, tRet, tRetN, tDrop, tNext, tIf, tCall, tTup, tLst, tNotV, tAndV, tOrV, tUn, rI0, rI, rU, rEq, rNe, tM1, tM0, tBM, tBM0, tSl, tPart, tNoPart, iStr, iEnumS, iRng1, iRng2, iList, gSub, tBits, tAug, tPar, L2.start, List.map_cons, List.map_nil, List.length_cons, List.length_nil, List.getElem?_cons_zero, List.getElem?_cons_succ, List.cons_append, List.nil_append, List.append_nil, List.set_cons_zero, List.set_cons_succ, List.replicate_succ, List.replicate_zero, Option.some.injEq, exists_eq_left', V.int.injEq, V.str.injEq, V.ref.injEq, V.bl.injEq, exists_and_left, exists_eq_left, List.cons.injEq, and_true, true_and, tCallX, tRs]
    refine ⟨by decide, fun p0 np0 => ?_⟩
    have s0 := (L2.Same.refl H).new np0 (.tup [])
    refine eqLeaf (hv.same s0) h62 upd_same ⟨_, rfl, ?_⟩
    generalize upd H p0 (.tup []) = H0 at s0 ⊢
    have hv0 := hv.same s0
    cases hv0 with
    | leaf hp =>
      rw [if_pos (decide_eq_true rfl)]
      exact q _ _ s0 (.leaf hp)
    | node hp hx hy =>
      rename_i pp x y l r
      have e1 : Tr.hgt (Tr.node l r) = max (Tr.hgt l) (Tr.hgt r) + 1 := rfl
      have e2 : (Tr.node l r).size = l.size + r.size + 1 := rfl
      have e3 : (Tr.node l r).lvs = l.lvs + r.lvs := rfl
      rw [if_neg (by simp)]
      refine ⟨by decide, fun q1 nq1 => ⟨by decide, fun q2 nq2 => ⟨by decide, fun q3 nq3 => ?_⟩⟩⟩
      have w1 := (L2.Same.refl H0).new nq1 (.tup [])
      have f1 : upd H0 q1 (.tup []) q1 = some (.tup []) := upd_same
      generalize upd H0 q1 (.tup []) = F1 at w1 f1 nq2 nq3 ⊢
      have w2 := (L2.Same.refl F1).new nq2 (.tup [])
      have f2 : upd F1 q2 (.tup []) q2 = some (.tup []) := upd_same
      generalize upd F1 q2 (.tup []) = F2 at w2 f2 nq3 ⊢
      have w3 := (L2.Same.refl F2).new nq3 (.tup [V.ref q1, .ref q2])
      have f3 : upd F2 q3 (.tup [V.ref q1, .ref q2]) q3 = some (.tup [V.ref q1, .ref q2]) := upd_same
      generalize upd F2 q3 (.tup [V.ref q1, .ref q2]) = F3 at w3 f3 ⊢
      have ch : PT F3 (.ref q3) (.node .leaf .leaf) := .node f3 (.leaf (w3 _ _ (w2 _ _ f1))) (.leaf (w3 _ _ f2))
      have sF := s0.trans (w1.trans (w2.trans w3))
      have wF := w1.trans (w2.trans w3)
      have hp := wF _ _ hp
      have hx := hx.same wF
      have hy := hy.same wF
      clear w1 w2 w3 f1 f2 f3 nq1 nq2 nq3 wF
      refine eqTD (PT.node hp hx hy) ch h62 (by decide) ⟨_, rfl, ?_⟩
      have hF3 := sF _ _ hF
      have fl : (F.map nI).all flatV = true := by rw [List.all_eq_true]; intro y hy; obtain ⟨m, _, rfl⟩ := List.mem_map.mp hy; rfl
      refine' cutPt (c := cutT (.node l r) n F = .node (cutT l n F) (cutT r (n + l.lvs) F)) _ _
      rotate_left
      · intro step
        by_cases hc : Tr.node l r = .node .leaf .leaf
        · rw [if_pos (decide_eq_true hc)]
          obtain ⟨rfl, rfl⟩ := Tr.node.inj hc
          refine ⟨a, _, rfl, .inl (SqL.of hF3), rfl, fl, _, rfl, ?_⟩
          rw [inV_nI]
          by_cases hm : n ∈ F
          · rw [if_pos (by simp [hm])]
            refine ⟨by decide, fun p np => q _ _ (sF.new (sF.free np) _) ?_⟩
            rw [show cutT (.node .leaf .leaf) n F = .leaf from if_pos hm]
            exact .leaf upd_same
          · rw [if_neg (by simp [hm])]
            exact step (show (if n ∈ F then Tr.leaf else Tr.node .leaf .leaf) = _ from if_neg hm)
        · rw [if_neg (by simpa using hc), if_neg (by decide)]
          refine step ?_
          cases l with
          | leaf =>
            cases r with
            | leaf => exact absurd rfl hc
            | node c d => rfl
          | node a b => rfl
      · intro ec
        refine ⟨pp, _, 0, x, rfl, rfl, SqT.of hp, rfl, x, l, rfl, hx, by omega, by omega, fun H1 s1 => ⟨_, rfl, ?_⟩⟩
        refine ⟨pp, _, 0, x, rfl, rfl, SqT.of (s1 _ _ hp), rfl, x, n, a, F, l, rfl, hx.same s1, by omega, by omega, by omega, s1 _ _ hF3, fun u1 H2 s2 pt1 => ?_⟩
        have s12 := s1.trans s2
        refine ⟨pp, _, 1, y, rfl, rfl, SqT.of (s12 _ _ hp), rfl, y, n + l.lvs, a, F, r, by rw [show ((n : Nat) : Int) + ((l.lvs : Nat) : Int) = ((n + l.lvs : Nat) : Int) by omega], hy.same s12, by omega, by omega, by omega, s12 _ _ hF3, fun u2 H3 s3 pt2 => ⟨by decide, fun p np => ?_⟩⟩
        have sA := sF.trans (s12.trans s3)
        have s4 := (L2.Same.refl H3).new np (.tup [u1, u2])
        refine q _ _ (sA.trans s4) ?_
        rw [ec]
        exact .node upd_same ((pt1.same s3).same s4) (pt2.same s4)

theorem ok_law_off (T : Txt w K mg) : ∀ k : Nat, FnD P w K mg base CX0 (k + 1) 3 T.a_law_off T.fd_law_off ["_law_nest_here", "_law_on"] (sp_law_off K k)
  | 0 => by
    have no : ∀ vs H Q E, ¬ sp_law_off K 0 vs H Q E := fun vs H Q E h => by
      obtain ⟨_, _, _, _, _, h, _⟩ := h
      omega
    exact ⟨fun vs H Q E h => absurd h (no vs H Q E), fun A outer s H args us vs Q E _ _ _ _ h => absurd h (no vs H Q E)⟩
  | k + 1 => by
    have rec_law_off := ok_law_off T k
    refine okD T.F_law_off sc_law_off (fun vs H Q E h => ?_) (fun cdv A outer s H vs Q E hr h => ?_)
    · obtain ⟨_, _, _, h, _⟩ := h; subst h; rfl
    obtain ⟨v, b, t, rfl, hv, hk, h62, q⟩ := h
    have hru := hr.room.units
    refine ⟨_, (pss_cons (ps_if (pt_cmpR (op_eqD hru) (pv 0) (pe_tup pa_nil) (nomark _)) (pss_one (ps_ret pe_int)) pss_nil)
    (pss_one (ps_ret (pe_op op_add (pe_op op_add (pe_callTy call_intB (by rfl) T.z_int (by decide +kernel) (pa_cons (pe_not (pv 1)) pa_nil)) (pe_callD rec_law_off (hr.mono (by first | decide | omega) (by first | decide | omega)) (by rfl) T.m_law_off T.F_law_off.kp T.b_law_off .nil pass0 (pa_cons (pe_ix ix_tup (pv 0) pe_int (fun _ _ => rfl)) (pa_cons pe_bl pa_nil)))) (pe_callD rec_law_off (hr.mono (by first | decide | omega) (by first | decide | omega)) (by rfl) T.m_law_off T.F_law_off.kp T.b_law_off .nil pass0 (pa_cons (pe_ix ix_tup (pv 0) pe_int (fun _ _ => rfl)) (pa_cons (pv 1) pa_nil))))))), ?_⟩
    simp only [cxOf_K, tAsg2, tYes, wipe, tSeq, tIfS, tNot, tB, tCB, tCons, tNil, tVar, tC, tTest, tOp, tAnd, tOr, tAsg, gName, tRet, tRetN, tDrop, tNext, tIf, tCall, tTup, tLst, tNotV, tAndV, tOrV, tUn, rI0, rI, rU, rEq, rNe, tM1, tM0, tBM, tBM0, tSl, tPart, tNoPart, iStr, iEnumS, iRng1, iRng2, iList, gSub, tBits, tAug, tPar, L2.start, List.map_cons, List.map_nil, List.length_cons, List.length_nil, List.getElem?_cons_zero, List.getElem?_cons_succ, List.cons_append, List.nil_append, List.append_nil, List.set_cons_zero, List.set_cons_succ, List.replicate_succ, List.replicate_zero, Option.some.injEq, exists_eq_left', V.int.injEq, V.str.injEq, V.ref.injEq, V.bl.injEq, exists_and_left, exists_eq_left, List.cons.injEq, and_true, true_and, tCallX, tRs]
    refine ⟨by decide, fun p0 np0 => ?_⟩
    have s0 := (L2.Same.refl H).new np0 (.tup [])
    refine eqLeaf (hv.same s0) h62 upd_same ⟨_, rfl, ?_⟩
    generalize upd H p0 (.tup []) = H0 at s0 ⊢
    have hv0 := hv.same s0
    cases hv0 with
    | leaf hp =>
      rw [if_pos (decide_eq_true rfl)]
      have := q _ s0; rw [show (if b = true then Tr.off .leaf else Tr.size .leaf) = 0 by cases b <;> rfl] at this; exact this
    | node hp hx hy =>
      rename_i pp x y l r
      have e1 : Tr.hgt (Tr.node l r) = max (Tr.hgt l) (Tr.hgt r) + 1 := rfl
      have e2 : (Tr.node l r).size = l.size + r.size + 1 := rfl
      have e3 : (Tr.node l r).lvs = l.lvs + r.lvs := rfl
      rw [if_neg (by simp)]
      refine ⟨pp, _, 0, x, rfl, rfl, SqT.of hp, rfl, x, false, l, rfl, hx, by omega, by omega, fun H1 s1 => ⟨_, rfl, ?_⟩⟩
      refine ⟨pp, _, 1, y, rfl, rfl, SqT.of (s1 _ _ hp), rfl, y, b, r, rfl, hy.same s1, by omega, by omega, fun H2 s2 => ⟨_, rfl, ?_⟩⟩
      have := q _ (s0.trans (s1.trans s2))
      have eo : (Tr.node l r).off = l.size + r.off := rfl
      rw [eo, e2] at this
      have en : (if (!b) = true then (1 : Int) else 0) + (((if false = true then l.off else l.size : Nat)) : Int) + (((if b = true then r.off else r.size : Nat)) : Int) = (((if b = true then l.size + r.off else l.size + r.size + 1 : Nat)) : Int) := by
        cases b <;> simp <;> omega
      rw [en]
      exact this

theorem hang_eq : ∀ {s c : Tr}, (Tr.hang s c).isSome = true → s.size ≤ c.size → s = c
  | .leaf, .leaf, _, _ => rfl
  | .node a b, .leaf, _, h => by
    have h : a.size + b.size + 1 ≤ 0 := h
    omega
  | .leaf, .node c d, h, _ => by cases h
  | .node a b, .node c d, h, l => by
    have l : a.size + b.size + 1 ≤ c.size + d.size + 1 := l
    have h : ((Tr.hang a c).bind fun x => (Tr.hang b d).map fun y => x ++ y).isSome = true := h
    cases e1 : Tr.hang a c with
    | none => rw [e1] at h; cases h
    | some x =>
      cases e2 : Tr.hang b d with
      | none => rw [e1, e2] at h; cases h
      | some y =>
        have s1 := hang_size_le (s := a) (c := c) (by rw [e1]; rfl)
        have s2 := hang_size_le (s := b) (c := d) (by rw [e2]; rfl)
        rw [hang_eq (s := a) (c := c) (by rw [e1]; rfl) (by omega), hang_eq (s := b) (c := d) (by rw [e2]; rfl) (by omega)]
theorem leT_iff {A B C D : Tr} : leT (A, B) (C, D) = true ↔ ∃ xs, Tr.hang A C = some xs ∧ Tr.hang B D = some xs := by
  unfold leT
  constructor
  · intro h
    rw [Bool.and_eq_true] at h
    obtain ⟨xs, hx⟩ := Option.isSome_iff_exists.mp h.1
    exact ⟨xs, hx, (of_decide_eq_true h.2).symm.trans hx⟩
  · rintro ⟨xs, h1, h2⟩
    show ((Tr.hang A C).isSome && decide (Tr.hang A C = Tr.hang B D)) = true
    rw [h1, h2]; simp
theorem leT_anti {A B C D : Tr} (h1 : A.size = B.size) (h2 : C.size = D.size) : (leT (A, B) (C, D) && leT (C, D) (A, B)) = decide (A = C ∧ B = D) := by
  by_cases e : A = C ∧ B = D
  · obtain ⟨rfl, rfl⟩ := e
    have l : A.lvs = B.lvs := by rw [Tr.lvs_size, Tr.lvs_size, h1]
    have : leT (A, B) (A, B) = true := leT_iff.mpr ⟨_, hang_self A, by rw [l]; exact hang_self B⟩
    rw [this, decide_eq_true ⟨rfl, rfl⟩]; rfl
  · rw [decide_eq_false e]
    cases ha : leT (A, B) (C, D) with
    | false => rfl
    | true =>
      cases hb : leT (C, D) (A, B) with
      | false => rfl
      | true =>
        obtain ⟨xs, x1, x2⟩ := leT_iff.mp ha
        obtain ⟨ys, y1, y2⟩ := leT_iff.mp hb
        have s1 := hang_size_le (s := A) (c := C) (by rw [x1]; rfl)
        have s2 := hang_size_le (s := C) (c := A) (by rw [y1]; rfl)
        exact absurd ⟨hang_eq (by rw [x1]; rfl) (by omega), hang_eq (by rw [x2]; rfl) (by omega)⟩ e
theorem leT_self {A B : Tr} (h1 : A.size = B.size) : leT (A, B) (A, B) = true := by
  have l : A.lvs = B.lvs := by rw [Tr.lvs_size, Tr.lvs_size, h1]
  exact leT_iff.mpr ⟨_, hang_self A, by rw [l]; exact hang_self B⟩
theorem leT_grow {A B : Tr} {xs : List Tr} (h1 : xs.length = A.lvs) (h2 : xs.length = B.lvs) : leT (A.grow xs, B.grow xs) (A, B) = true :=
  leT_iff.mpr ⟨xs, Tr.hang_grow h1, Tr.hang_grow h2⟩
theorem leT_incl {A B C D : Tr} (hl : A.lvs = B.lvs) (hl2 : C.lvs = D.lvs) : leT (A, B) (C, D) = true ↔ ∀ p s, mvF A B p = some s → mvF C D p = some s := by
  constructor
  · intro h p s hp
    obtain ⟨xs, x1, x2⟩ := leT_iff.mp h
    obtain ⟨ts, ht, rfl⟩ : ∃ ts, Tr.hang p A = some ts ∧ B.grow ts = s := by
      unfold mvF at hp
      cases e : Tr.hang p A with
      | none => rw [e] at hp; cases hp
      | some ts => rw [e] at hp; exact ⟨ts, rfl, Option.some.inj hp⟩
    have l1 := Tr.hang_len _ _ _ x1
    have l2 := Tr.hang_len _ _ _ ht
    have g1 := Tr.grow_hang x1
    have g2 := Tr.grow_hang x2
    have hs : (Tr.hang p C).isSome = true := hang_trans (b := A) (by rw [ht]; rfl) (by rw [x1]; rfl)
    obtain ⟨zs, hz⟩ := Option.isSome_iff_exists.mp hs
    have lz := Tr.hang_len _ _ _ hz
    have gz := Tr.grow_hang hz
    have e1 : Tr.hang p A = hangL zs xs := by rw [← gz, ← g1, hang_grows lz l1]
    have e2 : Tr.hang (D.grow zs) B = hangL zs xs := by rw [← g2, hang_grows (by omega) (by omega)]
    have e3 := Tr.grow_hang (e2.trans (e1.symm.trans ht))
    unfold mvF
    rw [hz, e3]; rfl
  · intro h
    have h0 : mvF A B A = some B := by
      unfold mvF
      rw [hang_self]
      show some _ = _
      rw [grow_replicate_self hl]
    have h1 := h _ _ h0
    unfold mvF at h1
    cases e : Tr.hang A C with
    | none => rw [e] at h1; cases h1
    | some zs =>
      rw [e] at h1
      have h1 : D.grow zs = B := Option.some.inj h1
      have lz := Tr.hang_len _ _ _ e
      exact leT_iff.mpr ⟨zs, e, by rw [← h1]; exact Tr.hang_grow (by omega)⟩
theorem mul_mono {A B C D A1 B1 C1 D1 : Tr} (h1 : A.lvs = B.lvs) (h2 : C.lvs = D.lvs) (h3 : A1.lvs = B1.lvs) (h4 : C1.lvs = D1.lvs) (l1 : leT (A, B) (A1, B1) = true) (l2 : leT (C, D) (C1, D1) = true) :
    leT ((mulT (A, B) (C, D)).1, (mulT (A, B) (C, D)).2) ((mulT (A1, B1) (C1, D1)).1, (mulT (A1, B1) (C1, D1)).2) = true := by
  have t1 := mul_tells h1 h2
  have t2 := mul_tells h3 h4
  rw [leT_incl h1 h3] at l1
  rw [leT_incl h2 h4] at l2
  refine (leT_incl t1.1 t2.1).mpr fun p s hp => ?_
  have e1 : (mvF A B p).bind (mvF C D) = some s := (t1.2 p).trans hp
  have e2 : (mvF A1 B1 p).bind (mvF C1 D1) = some s := by
    cases e : mvF A B p with
    | none => rw [e] at e1; cases e1
    | some r =>
      rw [e] at e1
      rw [l1 _ _ e]
      exact l2 _ _ e1
  exact (t2.2 p).symm.trans e2
theorem leT_leaf (A : Tr) : leT (A, A) (.leaf, .leaf) = true := leT_iff.mpr ⟨[A], by cases A <;> rfl, by cases A <;> rfl⟩

/-! products, opposites, lowered moves, plainly -/
theorem lvs_of {A B : Tr} (h : A.size = B.size) : A.lvs = B.lvs := by rw [Tr.lvs_size, Tr.lvs_size, h]
theorem hang_leaves (t : Tr) : Tr.hang t t = some (List.replicate t.lvs .leaf) := by
  have h := Tr.hang_grow (c := t) (xs := List.replicate t.lvs .leaf) (by simp)
  rw [grow_leaves] at h
  exact h
theorem mvF_mul {A B C D : Tr} (h1 : A.lvs = B.lvs) (h2 : C.lvs = D.lvs) (p : Tr) : mvF (mulT (A, B) (C, D)).1 (mulT (A, B) (C, D)).2 p = (mvF A B p).bind (mvF C D) := ((mul_tells h1 h2).2 p).symm
theorem mul_lvs {A B C D : Tr} (h1 : A.lvs = B.lvs) (h2 : C.lvs = D.lvs) : (mulT (A, B) (C, D)).1.lvs = (mulT (A, B) (C, D)).2.lvs := (mul_tells h1 h2).1
/-- a move is what it does -/
theorem mvF_inj {A B C D : Tr} (h1 : A.lvs = B.lvs) (h2 : C.lvs = D.lvs) (h : ∀ p, mvF A B p = mvF C D p) : A = C ∧ B = D := by
  have l1 : leT (A, B) (C, D) = true := (leT_incl h1 h2).mpr fun p s e => (h p) ▸ e
  have l2 : leT (C, D) (A, B) = true := (leT_incl h2 h1).mpr fun p s e => (h p).symm ▸ e
  have s1 : A.size = B.size := by rw [Tr.lvs_size, Tr.lvs_size] at h1; omega
  have s2 : C.size = D.size := by rw [Tr.lvs_size, Tr.lvs_size] at h2; omega
  have := leT_anti s1 s2
  rw [l1, l2] at this
  exact of_decide_eq_true this.symm
theorem mul_assoc {A B C D E F : Tr} (h1 : A.lvs = B.lvs) (h2 : C.lvs = D.lvs) (h3 : E.lvs = F.lvs) : mulT (mulT (A, B) (C, D)) (E, F) = mulT (A, B) (mulT (C, D) (E, F)) := by
  obtain ⟨e1, e2⟩ := mvF_inj (mul_lvs (A := (mulT (A, B) (C, D)).1) (B := (mulT (A, B) (C, D)).2) (mul_lvs h1 h2) h3) (mul_lvs (C := (mulT (C, D) (E, F)).1) (D := (mulT (C, D) (E, F)).2) h1 (mul_lvs h2 h3)) fun p => by
    rw [mvF_mul (mul_lvs h1 h2) h3, mvF_mul h1 h2, mvF_mul h1 (mul_lvs h2 h3)]
    cases mvF A B p with
    | none => rfl
    | some q => exact (mvF_mul h2 h3 q).symm
  exact Prod.ext e1 e2
theorem mul_mid (A B C : Tr) (h1 : A.lvs = B.lvs) (h2 : B.lvs = C.lvs) : mulT (A, B) (B, C) = (A, C) := by
  unfold mulT
  rw [Tr.join_self, hang_leaves]
  show (A.grow (List.replicate B.lvs .leaf), C.grow (List.replicate B.lvs .leaf)) = _
  rw [← h1, grow_leaves, h1, h2, grow_leaves]
theorem grow_one (t : Tr) : Tr.leaf.grow [t] = t := grow_leaf1 t
theorem mul_leaf (A B : Tr) (h : A.lvs = B.lvs) : mulT (A, B) (.leaf, .leaf) = (A, B) := by
  unfold mulT
  rw [Tr.join_leaf, hang_leaves]
  show (A.grow (List.replicate B.lvs .leaf), Tr.leaf.grow ((Tr.hang B .leaf).getD [])) = _
  rw [← h, grow_leaves]
  cases B <;> exact congrArg (Prod.mk A) (grow_one _)
theorem leaf_mul (A B : Tr) (h : A.lvs = B.lvs) : mulT (.leaf, .leaf) (A, B) = (A, B) := by
  unfold mulT
  rw [Tr.leaf_join, hang_leaves]
  show (Tr.leaf.grow ((Tr.hang A .leaf).getD []), B.grow (List.replicate A.lvs .leaf)) = _
  rw [h, grow_leaves]
  cases A <;> exact congrArg (fun x => Prod.mk x B) (grow_one _)
theorem mul_swap (A B C D : Tr) : mulT (D, C) (B, A) = ((mulT (A, B) (C, D)).2, (mulT (A, B) (C, D)).1) := by
  unfold mulT
  rw [Tr.join_comm C B]
theorem mul_still (A C : Tr) : mulT (A, A) (C, C) = (Tr.join A C, Tr.join A C) := by
  obtain ⟨us, ws, hus, hws, l1, l2, l3, l4, e, j1, j2⟩ := mul_parts (A := A) (B := A) (C := C) (D := C) rfl rfl
  rw [e, ← j1, ← j2]
/-! node by node -/
theorem node_mul {A B C D A' B' C' D' : Tr} (h1 : A.lvs = B.lvs) (h2 : C.lvs = D.lvs) (h3 : A'.lvs = B'.lvs) (h4 : C'.lvs = D'.lvs) :
    mulT (.node A A', .node B B') (.node C C', .node D D') = (.node (mulT (A, B) (C, D)).1 (mulT (A', B') (C', D')).1, .node (mulT (A, B) (C, D)).2 (mulT (A', B') (C', D')).2) := by
  obtain ⟨us, ws, hus, hws, l1, l2, l3, l4, e, j1, j2⟩ := mul_parts (A := A) (B := B) (C := C) (D := D) h1 h2
  obtain ⟨us', ws', hus', hws', l1', l2', l3', l4', e', j1', j2'⟩ := mul_parts (A := A') (B := B') (C := C') (D := D') h3 h4
  rw [e, e']
  unfold mulT
  have g1 : Tr.hang (Tr.join (.node B B') (.node C C')) (.node B B') = some (us ++ us') := by
    show (Tr.hang (Tr.join B C) B).bind _ = _
    rw [hus, Option.bind_some, hus']
    rfl
  have g2 : Tr.hang (Tr.join (.node B B') (.node C C')) (.node C C') = some (ws ++ ws') := by
    show (Tr.hang (Tr.join B C) C).bind _ = _
    rw [hws, Option.bind_some, hws']
    rfl
  rw [g1, g2]
  show ((Tr.node A A').grow (us ++ us'), (Tr.node D D').grow (ws ++ ws')) = _
  rw [grow_node A A' us us' l1 l1', grow_node D D' ws ws' l4 l4']
theorem pth_lvs (a : List Nat) {A B : Tr} (h : A.lvs = B.lvs) : (pth a A).lvs = (pth a B).lvs := by
  rw [Tr.lvs_size, Tr.lvs_size, pth_size, pth_size]
  rw [Tr.lvs_size, Tr.lvs_size] at h
  omega
theorem pth_mul : ∀ (a : List Nat) {A B C D : Tr}, A.lvs = B.lvs → C.lvs = D.lvs → mulT (pth a A, pth a B) (pth a C, pth a D) = (pth a (mulT (A, B) (C, D)).1, pth a (mulT (A, B) (C, D)).2)
  | [], A, B, C, D, _, _ => rfl
  | c :: a, A, B, C, D, h1, h2 => by
    have e : mulT (.leaf, .leaf) (.leaf, .leaf) = ((.leaf, .leaf) : Tr × Tr) := mul_leaf _ _ rfl
    simp only [pth_cons]
    by_cases hc : c = 108
    · simp only [if_pos hc]
      rw [node_mul (pth_lvs a h1) (pth_lvs a h2) rfl rfl, pth_mul a h1 h2, e]
    · simp only [if_neg hc]
      rw [node_mul rfl rfl (pth_lvs a h1) (pth_lvs a h2), pth_mul a h1 h2, e]
theorem apart_mul {A B C D : Tr} (h1 : A.lvs = B.lvs) (h2 : C.lvs = D.lvs) : mulT (.node A .leaf, .node B .leaf) (.node .leaf C, .node .leaf D) = (.node A C, .node B D) := by
  rw [node_mul h1 rfl rfl h2, mul_leaf _ _ h1, leaf_mul _ _ h2]
theorem apart_mul' {A B C D : Tr} (h1 : A.lvs = B.lvs) (h2 : C.lvs = D.lvs) : mulT (.node .leaf C, .node .leaf D) (.node A .leaf, .node B .leaf) = (.node A C, .node B D) := by
  rw [node_mul rfl h1 h2 rfl, leaf_mul _ _ h1, mul_leaf _ _ h2]
/-- below two addresses that part, moves can be exchanged -/
theorem pth_comm (a : List Nat) {A B C D : Tr} (h1 : A.lvs = B.lvs) (h2 : C.lvs = D.lvs) :
    mulT (pth (a ++ [108]) A, pth (a ++ [108]) B) (pth (a ++ [114]) C, pth (a ++ [114]) D) = mulT (pth (a ++ [114]) C, pth (a ++ [114]) D) (pth (a ++ [108]) A, pth (a ++ [108]) B) := by
  have l : ∀ X : Tr, pth (a ++ [108]) X = pth a (.node X .leaf) := fun X => by rw [pth_app]; rfl
  have r : ∀ X : Tr, pth (a ++ [114]) X = pth a (.node .leaf X) := fun X => by rw [pth_app]; rfl
  have l1 : (Tr.node A .leaf).lvs = (Tr.node B .leaf).lvs := by show A.lvs + _ = B.lvs + _; rw [h1]
  have l2 : (Tr.node .leaf C).lvs = (Tr.node .leaf D).lvs := by show _ + C.lvs = _ + D.lvs; rw [h2]
  rw [l, l, r, r, pth_mul a l1 l2, pth_mul a l2 l1, apart_mul h1 h2, apart_mul' h1 h2]

/-! growing does not change the widest move -/
theorem bes_lr (c d : List Nat) : Bes (c ++ [108], d ++ [108]) (c ++ [114], d ++ [114]) := ⟨lb_snoc c, lb_snoc d⟩
theorem lb_l (c : List Nat) : lb (c ++ [108]) = none := by unfold lb; simp
theorem push_l (st : List AP) (c d : List Nat) : pushP st (c ++ [108], d ++ [108]) = (c ++ [108], d ++ [108]) :: st := by
  cases st with
  | nil => rfl
  | cons q st =>
    unfold pushP
    rw [if_neg (fun z => by have := z.1; rw [show lb (c ++ [108]) = none from lb_l c] at this; cases this)]
theorem push_tree : ∀ (x : Tr) (st : List AP) (c d : List Nat), (List.zip (x.lvA c) (x.lvA d)).foldl pushP st = pushP st (c, d)
  | .leaf, st, c, d => rfl
  | .node l r, st, c, d => by
    show (List.zip (l.lvA (c ++ [108]) ++ r.lvA (c ++ [114])) (l.lvA (d ++ [108]) ++ r.lvA (d ++ [114]))).foldl pushP st = _
    rw [List.zip_append (by rw [Tr.lvA_length, Tr.lvA_length]), List.foldl_append, push_tree l, push_tree r, push_l]
    show (if Bes (c ++ [108], d ++ [108]) (c ++ [114], d ++ [114]) then pushP st ((c ++ [114]).dropLast, (d ++ [114]).dropLast) else _) = _
    rw [if_pos (bes_lr c d)]
    simp
/-- the leaves of a grown tree -/
theorem lvA_grow : ∀ (t : Tr) (a : List Nat) (xs : List Tr), xs.length = t.lvs → (t.grow xs).lvA a = (List.zipWith (fun x c => x.lvA c) xs (t.lvA a)).flatten
  | .leaf, a, xs, h => by
    obtain ⟨y, rfl⟩ := List.length_eq_one_iff.mp h
    rw [grow_leaf1]
    simp [Tr.lvA]
  | .node l r, a, xs, h => by
    obtain ⟨ys, zs, rfl, h1, h2⟩ := split_len h
    rw [grow_node l r ys zs h1 h2]
    show (l.grow ys).lvA _ ++ (r.grow zs).lvA _ = (List.zipWith _ (ys ++ zs) (l.lvA (a ++ [108]) ++ r.lvA (a ++ [114]))).flatten
    rw [List.zipWith_append (by rw [Tr.lvA_length]; exact h1), List.flatten_append, lvA_grow l _ ys h1, lvA_grow r _ zs h2]
theorem push_trees : ∀ (xs : List Tr) (cs ds : List (List Nat)) (st : List AP), xs.length = cs.length → cs.length = ds.length →
    (List.zip (List.zipWith (fun x c => x.lvA c) xs cs).flatten (List.zipWith (fun x c => x.lvA c) xs ds).flatten).foldl pushP st = (List.zip cs ds).foldl pushP st
  | [], cs, ds, st, h1, h2 => by
    have e1 : cs = [] := List.length_eq_zero_iff.mp h1.symm
    subst e1
    have e2 : ds = [] := List.length_eq_zero_iff.mp h2.symm
    subst e2
    rfl
  | x :: xs, [], ds, st, h1, h2 => by simp at h1
  | x :: xs, c :: cs, [], st, h1, h2 => by simp at h2
  | x :: xs, c :: cs, d :: ds, st, h1, h2 => by
    simp only [List.zipWith_cons_cons, List.flatten_cons, List.zip_cons_cons, List.foldl_cons]
    rw [List.zip_append (by rw [Tr.lvA_length, Tr.lvA_length]), List.foldl_append, push_tree, push_trees xs cs ds _ (by simpa using h1) (by simpa using h2)]
theorem prd_gr {A B C D : Tr} (g : Gr A B C D) : prd A B = prd C D := by
  obtain ⟨xs, h1, h2, rfl, rfl⟩ := g
  unfold prd prdR zipA
  rw [lvA_grow C _ xs h1, lvA_grow D _ xs (h1.trans h2), push_trees xs _ _ _ (by rw [Tr.lvA_length]; exact h1) (by rw [Tr.lvA_length, Tr.lvA_length]; exact h2)]
theorem wdT_uniq {A B C D : Tr} (h1 : A.lvs = B.lvs) (h2 : C.lvs = D.lvs) (h : prd A B = prd C D) : wdT A B = wdT C D := by
  obtain ⟨e1, e2, _⟩ := wdT_of h1
  obtain ⟨f1, f2, _⟩ := wdT_of h2
  rw [h] at e1 e2
  exact Prod.ext (lvA_inj _ _ [] (e1.symm.trans f1)) (lvA_inj _ _ [] (e2.symm.trans f2))
theorem wdT_gr {A B C D : Tr} (g : Gr A B C D) : wdT A B = wdT C D := wdT_uniq g.lvs (by obtain ⟨_, _, h, _⟩ := g; exact h) (prd_gr g)
theorem wdT_Gr {A B : Tr} (h : A.lvs = B.lvs) : Gr A B (wdT A B).1 (wdT A B).2 := (wdT_of h).2.2
theorem leT_Gr {A B C D : Tr} (h : C.lvs = D.lvs) : leT (A, B) (C, D) = true ↔ Gr A B C D := by
  constructor
  · intro l
    obtain ⟨xs, e1, e2⟩ := leT_iff.mp l
    exact ⟨xs, Tr.hang_len _ _ _ e1, h, (Tr.grow_hang e1).symm, (Tr.grow_hang e2).symm⟩
  · rintro ⟨xs, h1, h2, rfl, rfl⟩
    exact leT_grow h1 (h1.trans h2)
theorem _root_.TT.Gr.right {A B C D : Tr} (g : Gr A B C D) : C.lvs = D.lvs := by obtain ⟨_, _, h, _⟩ := g; exact h
theorem mul_Gr {A B C D A1 B1 C1 D1 : Tr} (g1 : Gr A B A1 B1) (g2 : Gr C D C1 D1) : Gr (mulT (A, B) (C, D)).1 (mulT (A, B) (C, D)).2 (mulT (A1, B1) (C1, D1)).1 (mulT (A1, B1) (C1, D1)).2 :=
  (leT_Gr (mul_lvs g1.right g2.right)).mp (mul_mono g1.lvs g2.lvs g1.right g2.right ((leT_Gr g1.right).mpr g1) ((leT_Gr g2.right).mpr g2))
theorem _root_.TT.Gr.node {A B C D A' B' C' D' : Tr} (g : Gr A B C D) (g' : Gr A' B' C' D') : Gr (.node A A') (.node B B') (.node C C') (.node D D') := by
  obtain ⟨xs, h1, h2, rfl, rfl⟩ := g
  obtain ⟨ys, h3, h4, rfl, rfl⟩ := g'
  refine ⟨xs ++ ys, by rw [List.length_append, h1, h3]; rfl, by show C.lvs + C'.lvs = D.lvs + D'.lvs; omega, ?_, ?_⟩
  · rw [grow_node C C' xs ys h1 h3]
  · rw [grow_node D D' xs ys (h1.trans h2) (h3.trans h4)]
theorem pth_Gr : ∀ (a : List Nat) {A B C D : Tr}, Gr A B C D → Gr (pth a A) (pth a B) (pth a C) (pth a D)
  | [], _, _, _, _, g => g
  | c :: a, A, B, C, D, g => by
    have ih := pth_Gr a g
    have z : Gr .leaf .leaf .leaf .leaf := .refl rfl
    simp only [pth_cons]
    by_cases hc : c = 108
    · simp only [if_pos hc]; exact ih.node z
    · simp only [if_neg hc]; exact z.node ih
theorem _root_.TT.Gr.fun {A B B' W W' : Tr} (g : Gr A B W W') (g' : Gr A B' W W') : B = B' := by
  obtain ⟨xs, h1, h2, e1, e2⟩ := g
  obtain ⟨ys, h3, h4, e3, e4⟩ := g'
  have : xs = ys := by
    have a := Tr.hang_grow h1
    have b := Tr.hang_grow h3
    rw [← e1] at a
    rw [← e3] at b
    exact Option.some.inj (a.symm.trans b)
  rw [e2, e4, this]
theorem Gr_leaf (A : Tr) : Gr A A .leaf .leaf := ⟨[A], rfl, rfl, (grow_one A).symm, (grow_one A).symm⟩
theorem wdT_still (A : Tr) : wdT A A = wdT .leaf .leaf := wdT_gr (Gr_leaf A)
theorem _root_.TT.Gr.antisymm {A B C D : Tr} (g : Gr A B C D) (h : Gr C D A B) : A = C ∧ B = D := by
  have l1 := (leT_Gr g.right).mpr g
  have l2 := (leT_Gr h.right).mpr h
  have s1 : A.size = B.size := by have := g.lvs; rw [Tr.lvs_size, Tr.lvs_size] at this; omega
  have s2 : C.size = D.size := by have := g.right; rw [Tr.lvs_size, Tr.lvs_size] at this; omega
  have := leT_anti s1 s2
  rw [l1, l2] at this
  exact of_decide_eq_true this.symm
theorem wdT_wdT {A B : Tr} (h : A.lvs = B.lvs) : wdT (wdT A B).1 (wdT A B).2 = wdT A B := (wdT_gr (wdT_Gr h)).symm
theorem wdT_mul {A B C D : Tr} (h1 : A.lvs = B.lvs) (h2 : C.lvs = D.lvs) : wdT (mulT (A, B) (C, D)).1 (mulT (A, B) (C, D)).2 = wdT (mulT (wdT A B) (wdT C D)).1 (mulT (wdT A B) (wdT C D)).2 :=
  wdT_gr (mul_Gr (wdT_Gr h1) (wdT_Gr h2))
theorem mul_back {A B C D : Tr} (h1 : A.lvs = B.lvs) (h2 : C.lvs = D.lvs) : Gr (mulT (mulT (A, B) (C, D)) (D, C)).1 (mulT (mulT (A, B) (C, D)) (D, C)).2 A B := by
  rw [show mulT (mulT (A, B) (C, D)) (D, C) = mulT (A, B) (mulT (C, D) (D, C)) from mul_assoc h1 h2 h2.symm, mul_mid C D C h2 h2.symm]
  obtain ⟨us, ws, hus, hws, l1, l2, l3, l4, e, j1, j2⟩ := mul_parts (A := A) (B := B) (C := C) (D := C) h1 rfl
  rw [e]
  exact ⟨us, l1, h1, rfl, by show C.grow ws = _; rw [← j2, j1]⟩

/-! neighbouring leaves that both trees share, taken off, plainly -/
theorem twT_node {l r : Tr} (h : Tr.node l r ≠ .node .leaf .leaf) (s : Nat) : twT (.node l r) s = twT l s ++ twT r (s + l.lvs) := by
  cases l with
  | leaf =>
    cases r with
    | leaf => exact absurd rfl h
    | node c d => rfl
  | node a b => rfl
theorem cutT_node {l r : Tr} (h : Tr.node l r ≠ .node .leaf .leaf) (s : Nat) (F : List Nat) : cutT (.node l r) s F = .node (cutT l s F) (cutT r (s + l.lvs) F) := by
  cases l with
  | leaf =>
    cases r with
    | leaf => exact absurd rfl h
    | node c d => rfl
  | node a b => rfl
theorem twT_in : ∀ (t : Tr) (s p : Nat), p ∈ twT t s → s ≤ p ∧ p + 1 < s + t.lvs
  | .leaf, s, p, h => nomatch h
  | .node l r, s, p, h => by
    have e : (Tr.node l r).lvs = l.lvs + r.lvs := rfl
    by_cases hc : Tr.node l r = .node .leaf .leaf
    · obtain ⟨rfl, rfl⟩ := Tr.node.inj hc
      have : p = s := List.mem_singleton.mp h
      rw [this, e]
      exact ⟨Nat.le_refl _, by show s + 1 < s + 2; omega⟩
    · rw [twT_node hc] at h
      have v1 := Tr.lvs_pos l
      have v2 := Tr.lvs_pos r
      rcases List.mem_append.mp h with h | h
      · have := twT_in l s p h; omega
      · have := twT_in r _ p h; omega
/-- what was taken off at each leaf -/
def gl : Tr → Nat → List Nat → List Tr
  | .leaf, _, _ => [.leaf]
  | .node l r, s, F => if Tr.node l r = .node .leaf .leaf then (if s ∈ F then [cherry] else [.leaf, .leaf]) else gl l s F ++ gl r (s + l.lvs) F
theorem gl_grow : ∀ (t : Tr) (s : Nat) (F : List Nat), (gl t s F).length = (cutT t s F).lvs ∧ (cutT t s F).grow (gl t s F) = t
  | .leaf, s, F => ⟨rfl, rfl⟩
  | .node l r, s, F => by
    by_cases hc : Tr.node l r = .node .leaf .leaf
    · obtain ⟨rfl, rfl⟩ := Tr.node.inj hc
      unfold gl
      rw [if_pos rfl]
      show _ = (if s ∈ F then Tr.leaf else .node .leaf .leaf).lvs ∧ (if s ∈ F then Tr.leaf else .node .leaf .leaf).grow _ = _
      by_cases hm : s ∈ F
      · rw [if_pos hm, if_pos hm]
        exact ⟨rfl, rfl⟩
      · rw [if_neg hm, if_neg hm]
        exact ⟨rfl, rfl⟩
    · obtain ⟨a1, a2⟩ := gl_grow l s F
      obtain ⟨b1, b2⟩ := gl_grow r (s + l.lvs) F
      rw [cutT_node hc]
      unfold gl
      rw [if_neg hc]
      refine ⟨by rw [List.length_append, a1, b1]; rfl, ?_⟩
      rw [grow_node _ _ _ _ a1 b1, a2, b2]
/-- the same, told by the places alone -/
def wl (F : List Nat) : Nat → Nat → List Tr
  | _, 0 => []
  | _, 1 => [.leaf]
  | s, n + 2 => if s ∈ F then cherry :: wl F (s + 2) n else .leaf :: wl F (s + 1) (n + 1)
theorem wl_app (F : List Nat) : ∀ (a s b : Nat), (0 < a → s + a - 1 ∉ F) → wl F s (a + b) = wl F s a ++ wl F (s + a) b
  | 0, s, b, _ => by rw [Nat.zero_add]; rfl
  | 1, s, b, h => by
    have h := h (by decide)
    rw [show s + 1 - 1 = s by omega] at h
    cases b with
    | zero => rfl
    | succ b =>
      rw [show 1 + (b + 1) = b + 2 by omega]
      show (if s ∈ F then _ else _) = [Tr.leaf] ++ _
      rw [if_neg h]; rfl
  | a + 2, s, b, h => by
    have h := h (by omega)
    rw [show a + 2 + b = (a + b) + 2 by omega]
    show (if s ∈ F then cherry :: wl F (s + 2) (a + b) else .leaf :: wl F (s + 1) (a + b + 1)) = (if s ∈ F then cherry :: wl F (s + 2) a else .leaf :: wl F (s + 1) (a + 1)) ++ _
    by_cases hm : s ∈ F
    · rw [if_pos hm, if_pos hm, wl_app F a (s + 2) b (fun _ => by rw [show s + 2 + a - 1 = s + (a + 2) - 1 by omega]; exact h), show s + 2 + a = s + (a + 2) by omega]; rfl
    · rw [if_neg hm, if_neg hm, show a + b + 1 = (a + 1) + b by omega, wl_app F (a + 1) (s + 1) b (fun _ => by rw [show s + 1 + (a + 1) - 1 = s + (a + 2) - 1 by omega]; exact h), show s + 1 + (a + 1) = s + (a + 2) by omega]; rfl
theorem gl_wl (F : List Nat) : ∀ (t : Tr) (s : Nat), (∀ p ∈ F, s ≤ p → p < s + t.lvs → p ∈ twT t s) → gl t s F = wl F s t.lvs
  | .leaf, s, _ => rfl
  | .node l r, s, h => by
    have e : (Tr.node l r).lvs = l.lvs + r.lvs := rfl
    by_cases hc : Tr.node l r = .node .leaf .leaf
    · obtain ⟨rfl, rfl⟩ := Tr.node.inj hc
      unfold gl
      rw [if_pos rfl]
      show _ = wl F s 2
      unfold wl
      by_cases hm : s ∈ F
      · rw [if_pos hm, if_pos hm]; rfl
      · rw [if_neg hm, if_neg hm]; rfl
    · have v1 := Tr.lvs_pos l
      have v2 := Tr.lvs_pos r
      unfold gl
      rw [if_neg hc, e, wl_app F l.lvs s r.lvs (fun _ hm => ?_), gl_wl F l s (fun p hp h1 h2 => ?_), gl_wl F r (s + l.lvs) (fun p hp h1 h2 => ?_)]
      · have := h p hp (by omega) (by omega)
        rw [twT_node hc] at this
        rcases List.mem_append.mp this with k | k
        · have := twT_in l s p k; omega
        · exact k
      · have := h p hp (by omega) (by omega)
        rw [twT_node hc] at this
        rcases List.mem_append.mp this with k | k
        · exact k
        · have := twT_in r _ p k; omega
      · have := h _ hm (by omega) (by omega)
        rw [twT_node hc] at this
        rcases List.mem_append.mp this with k | k
        · have := twT_in l s _ k; omega
        · have := twT_in r _ _ k; omega
theorem cut_Gr {A B : Tr} {F : List Nat} (h : A.lvs = B.lvs) (hA : ∀ p ∈ F, p ∈ twT A 0) (hB : ∀ p ∈ F, p ∈ twT B 0) : Gr A B (cutT A 0 F) (cutT B 0 F) := by
  obtain ⟨a1, a2⟩ := gl_grow A 0 F
  obtain ⟨b1, b2⟩ := gl_grow B 0 F
  have e : gl A 0 F = gl B 0 F := by rw [gl_wl F A 0 fun p hp _ _ => hA p hp, gl_wl F B 0 fun p hp _ _ => hB p hp, h]
  exact ⟨gl A 0 F, a1, by rw [← a1, e, b1], a2.symm, by rw [e]; exact b2.symm⟩
theorem cut_nil : ∀ (t : Tr) (s : Nat), cutT t s [] = t
  | .leaf, s => rfl
  | .node l r, s => by
    by_cases hc : Tr.node l r = .node .leaf .leaf
    · obtain ⟨rfl, rfl⟩ := Tr.node.inj hc; rfl
    · rw [cutT_node hc, cut_nil l, cut_nil r]
theorem cut_size : ∀ (t : Tr) (s : Nat) (F : List Nat), (cutT t s F).size ≤ t.size ∧ ((∃ p ∈ F, p ∈ twT t s) → (cutT t s F).size < t.size)
  | .leaf, s, F => ⟨Nat.le_refl _, fun ⟨_, _, h⟩ => nomatch h⟩
  | .node l r, s, F => by
    have e : (Tr.node l r).size = l.size + r.size + 1 := rfl
    by_cases hc : Tr.node l r = .node .leaf .leaf
    · obtain ⟨rfl, rfl⟩ := Tr.node.inj hc
      show (if s ∈ F then Tr.leaf else .node .leaf .leaf).size ≤ 1 ∧ (_ → (if s ∈ F then Tr.leaf else .node .leaf .leaf).size < 1)
      by_cases hm : s ∈ F
      · rw [if_pos hm]; exact ⟨by decide, fun _ => by decide⟩
      · rw [if_neg hm]
        refine ⟨by decide, fun ⟨p, hp, h⟩ => ?_⟩
        rw [List.mem_singleton.mp h] at hp
        exact absurd hp hm
    · obtain ⟨a1, a2⟩ := cut_size l s F
      obtain ⟨b1, b2⟩ := cut_size r (s + l.lvs) F
      rw [cutT_node hc]
      have e2 : (Tr.node (cutT l s F) (cutT r (s + l.lvs) F)).size = (cutT l s F).size + (cutT r (s + l.lvs) F).size + 1 := rfl
      refine ⟨by omega, fun ⟨p, hp, h⟩ => ?_⟩
      rw [twT_node hc] at h
      rcases List.mem_append.mp h with h | h
      · have := a2 ⟨p, hp, h⟩; omega
      · have := b2 ⟨p, hp, h⟩; omega
/-- the twins within what hangs at the leaves -/
def twL : List Tr → Nat → List Nat
  | [], _ => []
  | x :: xs, s => twT x s ++ twL xs (s + x.lvs)
theorem twL_app : ∀ (xs ys : List Tr) (s : Nat), twL (xs ++ ys) s = twL xs s ++ twL ys (s + (xs.map Tr.lvs).sum)
  | [], ys, s => by simp [twL]
  | x :: xs, ys, s => by
    simp only [List.cons_append, twL, twL_app xs ys, List.append_assoc, List.map_cons, List.sum_cons]
    rw [Nat.add_assoc]
theorem grow_lvs_sum : ∀ (t : Tr) (xs : List Tr), xs.length = t.lvs → (t.grow xs).lvs = (xs.map Tr.lvs).sum
  | .leaf, xs, h => by
    obtain ⟨y, rfl⟩ := List.length_eq_one_iff.mp h
    rw [grow_leaf1]; simp
  | .node l r, xs, h => by
    obtain ⟨a, b, rfl, ha, hb⟩ := split_len h
    rw [grow_node l r a b ha hb, List.map_append, List.sum_append, ← grow_lvs_sum l a ha, ← grow_lvs_sum r b hb]; rfl
theorem twL_grow : ∀ (t : Tr) (xs : List Tr) (s : Nat), xs.length = t.lvs → ∀ p ∈ twL xs s, p ∈ twT (t.grow xs) s
  | .leaf, xs, s, h, p, hp => by
    obtain ⟨y, rfl⟩ := List.length_eq_one_iff.mp h
    rw [grow_leaf1]
    simpa [twL] using hp
  | .node l r, xs, s, h, p, hp => by
    obtain ⟨a, b, rfl, ha, hb⟩ := split_len h
    rw [grow_node l r a b ha hb]
    rw [twL_app, ← grow_lvs_sum l a ha] at hp
    by_cases hc : Tr.node (l.grow a) (r.grow b) = .node .leaf .leaf
    · obtain ⟨e1, e2⟩ := Tr.node.inj hc
      rcases List.mem_append.mp hp with h1 | h1
      · have := twL_grow l a s ha p h1
        rw [e1] at this
        exact nomatch this
      · have := twL_grow r b _ hb p h1
        rw [e2] at this
        exact nomatch this
    · rw [twT_node hc]
      rcases List.mem_append.mp hp with h1 | h1
      · exact List.mem_append_left _ (twL_grow l a s ha p h1)
      · exact List.mem_append_right _ (twL_grow r b _ hb p h1)
theorem tw_some : ∀ (t : Tr) (s : Nat), t ≠ .leaf → ∃ p, p ∈ twT t s
  | .leaf, s, h => absurd rfl h
  | .node l r, s, _ => by
    by_cases hc : Tr.node l r = .node .leaf .leaf
    · obtain ⟨rfl, rfl⟩ := Tr.node.inj hc
      exact ⟨s, List.mem_singleton.mpr rfl⟩
    · rw [twT_node hc]
      by_cases hl : l = .leaf
      · have hr : r ≠ .leaf := fun z => hc (by rw [hl, z])
        obtain ⟨p, hp⟩ := tw_some r (s + l.lvs) hr
        exact ⟨p, List.mem_append_right _ hp⟩
      · obtain ⟨p, hp⟩ := tw_some l s hl
        exact ⟨p, List.mem_append_left _ hp⟩
theorem twL_leaves : ∀ (xs : List Tr) (s : Nat), (∀ p, p ∉ twL xs s) → xs = List.replicate xs.length Tr.leaf
  | [], s, _ => rfl
  | x :: xs, s, h => by
    have hx : x = Tr.leaf := Decidable.byContradiction fun z => by
      obtain ⟨p, hp⟩ := tw_some x s z
      exact h p (List.mem_append_left _ hp)
    have := twL_leaves xs (s + x.lvs) fun p hp => h p (List.mem_append_right _ hp)
    rw [List.length_cons, List.replicate_succ, ← this, hx]
/-- where no twins are shared the move is the widest one -/
theorem wdT_reduced {C D : Tr} (h : C.lvs = D.lvs) (no : ∀ p ∈ twT C 0, p ∉ twT D 0) : wdT C D = (C, D) := by
  obtain ⟨xs, h1, h2, e1, e2⟩ := wdT_Gr h
  have nl : ∀ p, p ∉ twL xs 0 := fun p hp => by
    have k1 := twL_grow _ xs 0 h1 p hp
    have k2 := twL_grow _ xs 0 (h1.trans h2) p hp
    rw [← e1] at k1
    rw [← e2] at k2
    exact no p k1 k2
  have ex := twL_leaves xs 0 nl
  rw [h1] at ex
  rw [ex, grow_leaves] at e1
  rw [ex, h2, grow_leaves] at e2
  exact Prod.ext e1.symm e2.symm

theorem ok_law_least (T : Txt w K mg) : FnD P w K mg base CX0 150 3 T.a_law_least T.fd_law_least ["_law_one", "_law_other"] (sp_law_least K) := by
  refine okD T.F_law_least sc_law_least (fun vs H Q E h => ?_) (fun cdv A outer s H vs Q E hr h => ?_)
  · obtain ⟨_, _, _, _, rfl, _⟩ := h; rfl
  obtain ⟨u, v, A', B', rfl, pa, pb, ab, a60, q⟩ := h
  have hru := hr.room.units
  refine ⟨_, (pss_cons (ps_set (i := 2) sc_law_least.nd rfl (by first | exact Or.inl rfl | exact Or.inr rfl) (pe_lst (pa_cons pe_int pa_nil)))
    (pss_cons (ps_while PassesOwn.never (pt_cmpR (op_neD hru) (pv 2) (pe_lst pa_nil) (nomark _)) (pss_cons (ps_set (i := 3) sc_law_least.nd rfl (by first | exact Or.inl rfl | exact Or.inr rfl) (pe_callD (ok_law_twins T 70) (hr.mono (by first | decide | omega) (by first | decide | omega)) (by rfl) T.m_law_twins T.F_law_twins.kp T.b_law_twins .nil pass0 (pa_cons (pv 1) (pa_cons pe_int pa_nil))))
    (pss_cons (ps_setLc (i := 2) (own := [("_law_start", 4)]) rfl sc_law_least.nd rfl rfl (sw_true rfl rfl rfl (by decide +kernel)) (pi_list (pe_callD (ok_law_twins T 70) (hr.mono (by first | decide | omega) (by first | decide | omega)) (by rfl) T.m_law_twins T.F_law_twins.kp T.b_law_twins .nil pass0 (pa_cons (pv 0) (pa_cons pe_int pa_nil)))) (blkOk_by (own := [("_law_start", 4)]) (N := nm_law_least) (sc := defScope s_law_least) (by decide +kernel)) (fun _ _ _ _ _ => by exact (pg_name (i := 4) sc_law_least.nd rfl (by first | exact Or.inl rfl | exact Or.inr rfl))) (fun _ _ _ _ _ => by exact (pts_one (show L2.PT _ _ (tTest (tOp (rIn K false) _ _)) from (pt_cmpR op_in_seq (pv 4) (pv 3) (by with_unfolding_all rfl))))) (fun _ _ _ _ _ => by exact (pv 4)))
    (pss_one (ps_par (i := 0) (j := 1) rfl sc_law_least.nd rfl rfl (by decide) rfl rfl (pa_cons (pe_callD (ok_law_cut T 70) (hr.mono (by first | decide | omega) (by first | decide | omega)) (by rfl) T.m_law_cut T.F_law_cut.kp T.b_law_cut .nil pass0 (pa_cons (pv 0) (pa_cons pe_int (pa_cons (pv 2) pa_nil)))) (pa_cons (pe_callD (ok_law_cut T 70) (hr.mono (by first | decide | omega) (by first | decide | omega)) (by rfl) T.m_law_cut T.F_law_cut.kp T.b_law_cut .nil pass0 (pa_cons (pv 1) (pa_cons pe_int (pa_cons (pv 2) pa_nil)))) pa_nil)) rfl)))))
    (pss_one (ps_ret (pe_op op_add (pe_callD (ok_law_off T 70) (hr.mono (by first | decide | omega) (by first | decide | omega)) (by rfl) T.m_law_off T.F_law_off.kp T.b_law_off .nil pass0 (pa_cons (pv 0) (pa_cons pe_bl pa_nil))) (pe_callD (ok_law_off T 70) (hr.mono (by first | decide | omega) (by first | decide | omega)) (by rfl) T.m_law_off T.F_law_off.kp T.b_law_off .nil pass0 (pa_cons (pv 1) (pa_cons pe_bl pa_nil)))))))), ?_⟩
  simp only [cxOf_K, tAsg2, tYes, wipe, tSeq, tIfS, tNot, tB, tCB, tCons, tNil, tVar, tC, tTest, tOp, tAnd, tOr, tAsg, gName, tRet, tRetN, tDrop, tNext, tIf, tCall, tTup, tLst, tNotV, tAndV, tOrV, tUn, rI0, rI, rU, rEq, rNe, tM1, tM0, tBM, tBM0, tSl, tPart, tNoPart, iStr, iEnumS, iRng1, iRng2, iList, gSub, tBits, tAug, tPar, L2.start, List.map_cons, List.map_nil, List.length_cons, List.length_nil, List.getElem?_cons_zero, List.getElem?_cons_succ, List.cons_append, List.nil_append, List.append_nil, List.set_cons_zero, List.set_cons_succ, List.replicate_succ, List.replicate_zero, Option.some.injEq, exists_eq_left', V.int.injEq, V.str.injEq, V.ref.injEq, V.bl.injEq, exists_and_left, exists_eq_left, List.cons.injEq, and_true, true_and, tCallX, tRs]
  refine ⟨(by decide : (1 : Nat) ≤ sizeLine), fun pf npf => ?_⟩
  have s1 := (L2.Same.refl H).new npf (.lst [V.int 0])
  have h1 : upd H pf (.lst [V.int 0]) pf = some (.lst ([0].map nI)) := upd_same
  have pa := pa.same s1
  have pb := pb.same s1
  generalize upd H pf (.lst [V.int 0]) = H1 at s1 h1 pa pb ⊢
  have lv : A'.lvs = B'.lvs := by rw [Tr.lvs_size, Tr.lvs_size, ab]
  refine ⟨fun m σ H' => ∃ (x y : V) (C D : Tr) (pf : Addr) (F : List Nat) (a3 a4 : Option V), σ = [some x, some y, some (.ref pf), a3, a4] ∧ Same H1 H' ∧ PT H' x C ∧ PT H' y D ∧ Gr A' B' C D ∧ H' pf = some (.lst (F.map nI)) ∧ (F = [] → ∀ p ∈ twT C 0, p ∉ twT D 0) ∧ m = C.size + (if F = [] then 0 else 1),
    ⟨_, u, v, A', B', pf, [0], _, _, rfl, L2.Same.refl H1, pa, pb, .refl lv, h1, (fun z => nomatch z), rfl⟩, ?_⟩
  rintro m σ H2 ⟨x, y, C, D, pg, F, a3, a4, rfl, s2, pc, pd, g, hF, no, rfl⟩
  have cS := g.size
  have dS := g.swap.size
  have cl := g.right
  have hc1 := hgt_le C
  have hd1 := hgt_le D
  simp only [cxOf_K, tAsg2, tYes, wipe, tSeq, tIfS, tNot, tB, tCB, tCons, tNil, tVar, tC, tTest, tOp, tAnd, tOr, tAsg, gName, tRet, tRetN, tDrop, tNext, tIf, tCall, tTup, tLst, tNotV, tAndV, tOrV, tUn, rI0, rI, rU, rEq, rNe, tM1, tM0, tBM, tBM0, tSl, tPart, tNoPart, iStr, iEnumS, iRng1, iRng2, iList, gSub, tBits, tAug, tPar, L2.start, List.map_cons, List.map_nil, List.length_cons, List.length_nil, List.getElem?_cons_zero, List.getElem?_cons_succ, List.cons_append, List.nil_append, List.append_nil, List.set_cons_zero, List.set_cons_succ, List.replicate_succ, List.replicate_zero, Option.some.injEq, exists_eq_left', V.int.injEq, V.str.injEq, V.ref.injEq, V.bl.injEq, exists_and_left, exists_eq_left, List.cons.injEq, and_true, true_and, tCallX, tRs]
  refine ⟨by decide, fun pe npe => ?_⟩
  have s3 := (L2.Same.refl H2).new npe (.lst [])
  refine neInts (s3 _ _ hF) upd_same ⟨_, rfl, ?_⟩
  have pc := pc.same s3
  have pd := pd.same s3
  have s3 := s2.trans s3
  generalize upd H2 pe (.lst []) = H3 at s3 pc pd ⊢
  by_cases hf : F = []
  · rw [if_neg (by simp [hf])]
    have nt := no hf
    have wd := wdT_gr g
    rw [wdT_reduced cl nt] at wd
    refine ⟨x, true, C, rfl, pc, by omega, by omega, fun H4 s4 => ⟨y, true, D, rfl, pd.same s4, by omega, by omega, fun H5 s5 => ⟨_, rfl, _, rfl, ?_⟩⟩⟩
    have := q _ (s1.trans (s3.trans (s4.trans s5)))
    rw [wd] at this
    rw [if_pos rfl, if_pos rfl, show ((C.off : Nat) : Int) + ((D.off : Nat) : Int) = ((C.off + D.off : Nat) : Int) by omega]
    exact this
  · rw [if_pos (by simp [hf])]
    refine ⟨_, fun σ' H' z => z, ?_⟩
    refine ⟨y, 0, D, rfl, pd, by omega, by omega, by omega, fun pt H4 n4 s4 ht => ?_⟩
    have pc := pc.same s4
    have pd := pd.same s4
    have s4 := s3.trans s4
    refine ⟨_, rfl, x, 0, C, rfl, pc, by omega, by omega, by omega, fun po H5 n5 s5 ho => ?_⟩
    have pc := pc.same s5
    have pd := pd.same s5
    have ht5 := s5 _ _ ht
    have s5 := s4.trans s5
    refine ⟨po, rfl, ⟨_, SqL.of ho⟩, fun Dl hDl => ?_⟩
    have fl : ((twT D 0).map nI).all flatV = true := by rw [List.all_eq_true]; intro z hz; obtain ⟨m, _, rfl⟩ := List.mem_map.mp hz; rfl
    have tl := twT_len C 0
    refine lc_list (K := K) (a := po) (xs := (twT C 0).map nI) (fun i H' => Same H5 H' ∧ H' Dl = some (.lst ((((twT C 0).take i).filter fun n => decide (n ∈ twT D 0)).map nI))) ⟨(L2.Same.refl H5).new hDl _, upd_same⟩ (fun i H' _ z => SqL.of (z.1 _ _ ho)) ?_ ?_
    · rintro i z H' hi ⟨s6, hd⟩
      rw [List.getElem?_map] at hi
      obtain ⟨n, hn, rfl⟩ := Option.map_eq_some_iff.mp hi
      have il : i < (twT C 0).length := (List.getElem?_eq_some_iff.mp hn).1
      have tk : (twT C 0).take (i + 1) = (twT C 0).take i ++ [n] := by rw [List.take_succ, hn]; rfl
      simp only [cxOf_K, tAsg2, tYes, wipe, tSeq, tIfS, tNot, tB, tCB, tCons, tNil, tVar, tC, tTest, tOp, tAnd, tOr, tAsg, gName, tRet, tRetN, tDrop, tNext, tIf, tCall, tTup, tLst, tNotV, tAndV, tOrV, tUn, rI0, rI, rU, rEq, rNe, tM1, tM0, tBM, tBM0, tSl, tPart, tNoPart, iStr, iEnumS, iRng1, iRng2, iList, gSub, tBits, tAug, tPar, L2.start, List.map_cons, List.map_nil, List.length_cons, List.length_nil, List.getElem?_cons_zero, List.getElem?_cons_succ, List.cons_append, List.nil_append, List.append_nil, List.set_cons_zero, List.set_cons_succ, List.replicate_succ, List.replicate_zero, Option.some.injEq, exists_eq_left', V.int.injEq, V.str.injEq, V.ref.injEq, V.bl.injEq, exists_and_left, exists_eq_left, List.cons.injEq, and_true, true_and, tCallX, tRs]
      refine ⟨pt, _, rfl, .inl (SqL.of (s6 _ _ ht5)), rfl, fl, _, rfl, ?_⟩
      rw [inV_nI, tk, List.filter_append, List.map_append]
      by_cases c : n ∈ twT D 0
      · rw [if_pos (by simp [c])]
        refine ⟨_, hd, small5' ?_, s6.new hDl _, ?_⟩
        · rw [List.length_map]
          have := List.length_filter_le (fun n : Nat => decide (n ∈ twT D 0)) ((twT C 0).take i)
          rw [List.length_take] at this
          omega
        · rw [upd_same, List.filter_cons_of_pos (by simpa using c)]
          rfl
      · rw [if_neg (by simp [c])]
        refine ⟨s6, ?_⟩
        rw [hd, List.filter_cons_of_neg (by simpa using c)]
        simp
    · rintro H6 ⟨s6, hd⟩
      rw [List.length_map, List.take_length] at hd
      generalize hG : (twT C 0).filter (fun n => decide (n ∈ twT D 0)) = G at hd
      have gA : ∀ p ∈ G, p ∈ twT C 0 := fun p hp => by rw [← hG] at hp; exact (List.mem_filter.mp hp).1
      have gB : ∀ p ∈ G, p ∈ twT D 0 := fun p hp => by rw [← hG] at hp; simpa using (List.mem_filter.mp hp).2
      have pc := pc.same s6
      have pd := pd.same s6
      refine ⟨x, 0, Dl, G, C, rfl, pc, by omega, by omega, by omega, hd, fun u1 H7 s7 q1 => ?_⟩
      refine ⟨y, 0, Dl, G, D, rfl, pd.same s7, by omega, by omega, by omega, s7 _ _ hd, fun u2 H8 s8 q2 => ?_⟩
      have cg := cut_Gr cl gA gB
      refine ⟨_, _, ⟨rfl, rfl⟩, ?_⟩
      have hd8 := s8 _ _ (s7 _ _ hd)
      refine ⟨(cutT C 0 G).size + (if G = [] then 0 else 1), ?_, u1, u2, cutT C 0 G, cutT D 0 G, Dl, G, _, _, rfl, s5.trans (s6.trans (s7.trans s8)), q1.same s8, q2, g.trans cg, hd8, fun hg p hp hq => ?_, rfl⟩
      · obtain ⟨z1, z2⟩ := cut_size C 0 G
        rw [if_neg hf]
        by_cases hg : G = []
        · rw [if_pos hg]; omega
        · rw [if_neg hg]
          obtain ⟨p, G', hp⟩ := List.exists_cons_of_ne_nil hg
          have := z2 ⟨p, by rw [hp]; exact List.mem_cons_self .., gA p (by rw [hp]; exact List.mem_cons_self ..)⟩
          omega
      · rw [hg, cut_nil] at hp hq
        have : p ∈ G := by rw [← hG]; exact List.mem_filter.mpr ⟨hp, by simpa using hq⟩
        rw [hg] at this
        exact nomatch this

/-! scripts and their moves, plainly -/
theorem runO_app (ys : List (Bool × List Nat)) : ∀ (xs : List (Bool × List Nat)) (t : Tr), runO (xs ++ ys) t = (runO xs t).bind (runO ys)
  | [], t => rfl
  | x :: xs, t => by
    show (stepB x.1 x.2 t).bind (runO (xs ++ ys)) = ((stepB x.1 x.2 t).bind (runO xs)).bind _
    cases stepB x.1 x.2 t with
    | none => rfl
    | some s => exact runO_app ys xs s
theorem pair_lvs (xs : List (Bool × List Nat)) : (pairT xs).1.lvs = (pairT xs).2.lvs := (pairT_tells xs).1
theorem mvF_pair (xs : List (Bool × List Nat)) (p : Tr) : mvF (pairT xs).1 (pairT xs).2 p = runO xs p := ((pairT_tells xs).2 p).symm
theorem pair_app (xs ys : List (Bool × List Nat)) : pairT (xs ++ ys) = mulT (pairT xs) (pairT ys) := by
  obtain ⟨e1, e2⟩ := mvF_inj (pair_lvs (xs ++ ys)) (mul_lvs (pair_lvs xs) (pair_lvs ys)) fun p => by
    rw [mvF_pair, runO_app, mvF_mul (pair_lvs xs) (pair_lvs ys), mvF_pair]
    cases runO xs p with
    | none => rfl
    | some q => exact (mvF_pair ys q).symm
  exact Prod.ext e1 e2
theorem turn_back {r : Bool} {t s : Tr} (h : turnB r t = some s) : turnB (!r) s = some t := by
  cases t with
  | leaf => cases h
  | node x y =>
    cases r with
    | true =>
      cases x with
      | leaf => cases h
      | node a b => cases h; rfl
    | false =>
      cases y with
      | leaf => cases h
      | node a b => cases h; rfl
theorem step_back (r : Bool) : ∀ (a : List Nat) (t s : Tr), stepB r a t = some s → stepB (!r) a s = some t
  | [], t, s, h => by
    rw [stepB_nil] at h ⊢
    exact turn_back h
  | c :: cs, .leaf, s, h => by rw [stepB_leaf] at h; cases h
  | c :: cs, .node x y, s, h => by
    rw [stepB_cons] at h
    by_cases hc : c = 108
    · rw [if_pos hc] at h
      obtain ⟨z, hz, rfl⟩ := Option.map_eq_some_iff.mp h
      rw [stepB_cons, if_pos hc, step_back r cs x z hz]; rfl
    · rw [if_neg hc] at h
      obtain ⟨z, hz, rfl⟩ := Option.map_eq_some_iff.mp h
      rw [stepB_cons, if_neg hc, step_back r cs y z hz]; rfl
def invX (xs : List (Bool × List Nat)) : List (Bool × List Nat) := xs.reverse.map fun x => (!x.1, x.2)
theorem run_back : ∀ (xs : List (Bool × List Nat)) (t s : Tr), runO xs t = some s → runO (invX xs) s = some t
  | [], t, s, h => by cases h; rfl
  | x :: xs, t, s, h => by
    obtain ⟨u, hu, h2⟩ := Option.bind_eq_some_iff.mp (show (stepB x.1 x.2 t).bind (runO xs) = some s from h)
    have e : invX (x :: xs) = invX xs ++ [(!x.1, x.2)] := by simp [invX]
    rw [e, runO_app, run_back xs u s h2]
    show (stepB (!x.1) x.2 u).bind _ = _
    rw [step_back x.1 x.2 t u hu]; rfl
theorem invX_inv (xs : List (Bool × List Nat)) : invX (invX xs) = xs := by
  simp only [invX, List.map_reverse, List.reverse_reverse, List.map_map]
  refine (List.map_congr_left fun x _ => ?_).trans (List.map_id xs)
  obtain ⟨b, a⟩ := x
  simp
theorem mvF_back {A B p s : Tr} (h : A.lvs = B.lvs) (e : mvF A B p = some s) : mvF B A s = some p := by
  obtain ⟨ts, h1, rfl⟩ := Option.map_eq_some_iff.mp (show (Tr.hang p A).map B.grow = some s from e)
  have l := Tr.hang_len _ _ _ h1
  unfold mvF
  rw [Tr.hang_grow (by omega)]
  exact congrArg some (Tr.grow_hang h1)
theorem pair_opp (xs : List (Bool × List Nat)) : pairT (invX xs) = ((pairT xs).2, (pairT xs).1) := by
  obtain ⟨e1, e2⟩ := mvF_inj (pair_lvs (invX xs)) (pair_lvs xs).symm fun p => by
    refine Option.ext fun q => ⟨fun h => ?_, fun h => ?_⟩
    · rw [mvF_pair] at h
      have h2 := run_back _ _ _ h
      rw [invX_inv, ← mvF_pair] at h2
      exact mvF_back (pair_lvs xs) h2
    · have h2 := mvF_back (pair_lvs xs).symm h
      rw [mvF_pair] at h2
      rw [mvF_pair]
      exact run_back _ _ _ h2
  exact Prod.ext e1 e2
theorem stepB_pth (r : Bool) (b : List Nat) : ∀ (a : List Nat) (t : Tr), stepB r (a ++ b) (pth a t) = (stepB r b t).map (pth a)
  | [], t => by
    show stepB r b t = (stepB r b t).map (fun x => x)
    cases stepB r b t <;> rfl
  | c :: a, t => by
    rw [pth_cons]
    by_cases hc : c = 108
    · rw [if_pos hc, List.cons_append, stepB_cons, if_pos hc, stepB_pth r b a t]
      cases stepB r b t with
      | none => rfl
      | some s => simp [pth_cons, hc]
    · rw [if_neg hc, List.cons_append, stepB_cons, if_neg hc, stepB_pth r b a t]
      cases stepB r b t with
      | none => rfl
      | some s => simp [pth_cons, hc]
theorem pair_one (r : Bool) (a : List Nat) : pairT [(r, a)] = (pth a (ttop r), pth a (ttop (!r))) := by
  show unf (.leaf, .leaf) (r, a) = _
  unfold unf
  have e : stepB r a (stp r a) = some (pth a (ttop (!r))) := by
    have := stepB_pth r [] a (ttop r)
    rw [List.append_nil, stepB_nil] at this
    show stepB r a (pth a (ttop r)) = _
    rw [this]
    cases r <;> rfl
  show (Tr.leaf.grow ((Tr.hang (Tr.join .leaf (stp r a)) .leaf).getD []), (stepB r a (Tr.join .leaf (stp r a))).getD .leaf) = _
  rw [Tr.leaf_join, e]
  have h : Tr.hang (stp r a) .leaf = some [stp r a] := by cases stp r a <;> rfl
  rw [h]
  exact Prod.ext (grow_one _) rfl
theorem pair_low1 (a : List Nat) (x : Bool × List Nat) : pairT [(x.1, a ++ x.2)] = (pth a (pairT [x]).1, pth a (pairT [x]).2) := by
  rw [pair_one, show [x] = [(x.1, x.2)] from rfl, pair_one, pth_app, pth_app]
theorem pair_low (a : List Nat) : ∀ (ys : List (Bool × List Nat)) (x : Bool × List Nat), pairT ((x :: ys).map fun x => (x.1, a ++ x.2)) = (pth a (pairT (x :: ys)).1, pth a (pairT (x :: ys)).2)
  | [], x => pair_low1 a x
  | y :: ys, x => by
    have ih := pair_low a ys y
    rw [List.map_cons, show ((x.1, a ++ x.2) :: (y :: ys).map fun x => (x.1, a ++ x.2)) = [(x.1, a ++ x.2)] ++ (y :: ys).map fun x => (x.1, a ++ x.2) from rfl, pair_app, ih, pair_low1, pth_mul a (pair_lvs [x]) (pair_lvs (y :: ys)),
      show x :: y :: ys = [x] ++ (y :: ys) from rfl, pair_app]
/-! steps on the right arm -/
abbrev armT (i : Nat) : Tr × Tr := pairT [(true, List.replicate i 114)]
theorem arm_tree (i : Nat) : armT i = (pth (List.replicate i 114) (ttop true), pth (List.replicate i 114) (ttop false)) := pair_one _ _
theorem arm_plus (p k : Nat) : armT (p + k) = (pth (List.replicate p 114) (armT k).1, pth (List.replicate p 114) (armT k).2) := by
  rw [arm_tree, arm_tree, ← List.replicate_append_replicate, pth_app, pth_app]
theorem arm_succ (k : Nat) : armT (k + 1) = (.node .leaf (armT k).1, .node .leaf (armT k).2) := by
  rw [Nat.add_comm, arm_plus]; rfl
theorem hang_at_leaf (x : Tr) : Tr.hang x .leaf = some [x] := by cases x <;> rfl
theorem hang_node {a b c d : Tr} {x y : List Tr} (h1 : Tr.hang a c = some x) (h2 : Tr.hang b d = some y) : Tr.hang (.node a b) (.node c d) = some (x ++ y) := by
  show (Tr.hang a c).bind _ = _
  rw [h1, Option.bind_some, h2]; rfl
theorem arm_claim1 {X Y : Tr} (h : X.lvs = Y.lvs) : mulT (.node .leaf X, .node .leaf Y) (ttop true, ttop false) = (.node (.node .leaf .leaf) X, .node .leaf (.node .leaf Y)) := by
  unfold mulT
  have j : Tr.join (Tr.node .leaf Y) (ttop true) = .node (.node .leaf .leaf) Y := by show Tr.node _ (Tr.join Y .leaf) = _; rw [Tr.join_leaf]; rfl
  have h1 : Tr.hang (.node (.node .leaf .leaf) Y) (.node .leaf Y) = some ([.node .leaf .leaf] ++ List.replicate Y.lvs .leaf) := hang_node (hang_at_leaf _) (hang_leaves Y)
  have h2 : Tr.hang (.node (.node .leaf .leaf) Y) (ttop true) = some ([.leaf, .leaf] ++ [Y]) := hang_node (a := .node .leaf .leaf) (c := .node .leaf .leaf) rfl (hang_at_leaf Y)
  show ((Tr.node .leaf X).grow ((Tr.hang (Tr.join (Tr.node .leaf Y) (ttop true)) (.node .leaf Y)).getD []), (ttop false).grow ((Tr.hang (Tr.join (Tr.node .leaf Y) (ttop true)) (ttop true)).getD [])) = _
  rw [j, h1, h2]
  refine Prod.ext ?_ ?_
  · show (Tr.node .leaf X).grow ([.node .leaf .leaf] ++ List.replicate Y.lvs .leaf) = _
    rw [grow_node _ _ _ _ rfl (by simp [h]), ← h, grow_leaves, grow_one]
  · rfl
theorem arm_claim2 {X Y : Tr} (h : X.lvs = Y.lvs) : mulT (ttop true, ttop false) (.node .leaf (.node .leaf X), .node .leaf (.node .leaf Y)) = (.node (.node .leaf .leaf) X, .node .leaf (.node .leaf Y)) := by
  unfold mulT
  have j : Tr.join (ttop false) (Tr.node .leaf (.node .leaf X)) = .node .leaf (.node .leaf X) := rfl
  have h1 : Tr.hang (.node .leaf (.node .leaf X)) (ttop false) = some ([.leaf] ++ ([.leaf] ++ [X])) := hang_node (a := .leaf) (c := .leaf) rfl (hang_node (a := .leaf) (c := .leaf) rfl (hang_at_leaf X))
  have h2 : Tr.hang (Tr.node .leaf (.node .leaf X)) (Tr.node .leaf (.node .leaf X)) = _ := hang_leaves _
  show ((ttop true).grow ((Tr.hang (Tr.join (ttop false) (Tr.node .leaf (.node .leaf X))) (ttop false)).getD []), (Tr.node .leaf (.node .leaf Y)).grow ((Tr.hang (Tr.join (ttop false) (Tr.node .leaf (.node .leaf X))) (Tr.node .leaf (.node .leaf X))).getD [])) = _
  rw [j, h1, h2]
  refine Prod.ext rfl ?_
  have e : (Tr.node .leaf (.node .leaf X)).lvs = (Tr.node .leaf (.node .leaf Y)).lvs := by show 1 + (1 + X.lvs) = 1 + (1 + Y.lvs); rw [h]
  show (Tr.node .leaf (.node .leaf Y)).grow (List.replicate (Tr.node .leaf (.node .leaf X)).lvs .leaf) = _
  rw [e, grow_leaves]
theorem arm_lvs (k : Nat) : (armT k).1.lvs = (armT k).2.lvs := pair_lvs _
theorem arm_comm (p d : Nat) : mulT (armT (p + (d + 1))) (armT p) = mulT (armT p) (armT (p + (d + 1) + 1)) := by
  have e0 : armT p = (pth (List.replicate p 114) (ttop true), pth (List.replicate p 114) (ttop false)) := arm_tree p
  have l0 : (ttop true).lvs = (ttop false).lvs := rfl
  rw [Nat.add_assoc p (d + 1) 1, arm_plus p (d + 1), arm_plus p (d + 1 + 1), e0, pth_mul _ (arm_lvs _) l0, pth_mul _ l0 (arm_lvs _)]
  have c1 : mulT ((armT (d + 1)).1, (armT (d + 1)).2) (ttop true, ttop false) = mulT (ttop true, ttop false) ((armT (d + 1 + 1)).1, (armT (d + 1 + 1)).2) := by
    rw [arm_succ (d + 1), arm_succ d]
    exact (arm_claim1 (arm_lvs d)).trans (arm_claim2 (arm_lvs d)).symm
  rw [c1]
theorem mul_fst {A B C D : Tr} (h1 : A.lvs = B.lvs) (h2 : C.lvs = D.lvs) : (Tr.hang (mulT (A, B) (C, D)).1 A).isSome = true := by
  obtain ⟨us, ws, hus, hws, l1, l2, l3, l4, e, j1, j2⟩ := mul_parts (A := A) (B := B) (C := C) (D := D) h1 h2
  rw [e]
  show (Tr.hang (A.grow us) A).isSome = true
  rw [Tr.hang_grow l1]; rfl
theorem hang_pth : ∀ (a : List Nat) (x y : Tr), (Tr.hang (pth a x) (pth a y)).isSome = (Tr.hang x y).isSome
  | [], x, y => rfl
  | c :: a, x, y => by
    have ih := hang_pth a x y
    rw [pth_cons, pth_cons]
    by_cases hc : c = 108
    · rw [if_pos hc, if_pos hc, ← ih]
      show ((Tr.hang (pth a x) (pth a y)).bind fun u => (Tr.hang .leaf .leaf).map fun v => u ++ v).isSome = _
      cases Tr.hang (pth a x) (pth a y) <;> rfl
    · rw [if_neg hc, if_neg hc, ← ih]
      show ((Tr.hang .leaf .leaf).bind fun u => (Tr.hang (pth a x) (pth a y)).map fun v => u ++ v).isSome = _
      cases Tr.hang (pth a x) (pth a y) <;> rfl
theorem arm_ne (p d : Nat) (x : Tr × Tr) (hx : x.1.lvs = x.2.lvs) : (mulT (mulT (armT p) (armT (p + (d + 1)))) x).1 ≠ (armT (p + (d + 1))).1 := by
  intro e
  have m1 := mul_lvs (arm_lvs p) (arm_lvs (p + (d + 1)))
  have h1 := mul_fst (A := (mulT (armT p) (armT (p + (d + 1)))).1) (B := (mulT (armT p) (armT (p + (d + 1)))).2) (C := x.1) (D := x.2) m1 hx
  have h2 := mul_fst (A := (armT p).1) (B := (armT p).2) (C := (armT (p + (d + 1))).1) (D := (armT (p + (d + 1))).2) (arm_lvs p) (arm_lvs _)
  have h3 := hang_trans h1 h2
  rw [show mulT ((mulT (armT p) (armT (p + (d + 1)))).1, (mulT (armT p) (armT (p + (d + 1)))).2) (x.1, x.2) = mulT (mulT (armT p) (armT (p + (d + 1)))) x from rfl, e, arm_plus, arm_tree p, hang_pth, arm_succ] at h3
  cases h3
/-! the steps' words -/
theorem bxs_oth {x : Str × List Nat} (h : x.1 = Str.ofString "left" ∨ x.1 = Str.ofString "right") : bxs (oth x.1, x.2) = (!(bxs x).1, (bxs x).2) := by
  have e : ¬ (Str.ofString "left" = Str.ofString "right") := by decide +kernel
  obtain ⟨w, a⟩ := x
  have h : w = Str.ofString "left" ∨ w = Str.ofString "right" := h
  show bxs (oth w, a) = (!decide (w = Str.ofString "right"), a)
  rcases h with rfl | rfl
  · show (decide (oth (Str.ofString "left") = Str.ofString "right"), a) = _
    rw [oth, if_pos rfl, decide_eq_true rfl, decide_eq_false e]; rfl
  · show (decide (oth (Str.ofString "right") = Str.ofString "right"), a) = _
    rw [oth, if_neg (fun z => e z.symm), decide_eq_false e, decide_eq_true rfl]; rfl
theorem bxs_opp (xs : List (Str × List Nat)) (h : ∀ x ∈ xs, x.1 = Str.ofString "left" ∨ x.1 = Str.ofString "right") : (xs.reverse.map fun x => (oth x.1, x.2)).map bxs = invX (xs.map bxs) := by
  unfold invX
  rw [← List.map_reverse, List.map_map, List.map_map]
  exact List.map_congr_left fun x hx => bxs_oth (h x (List.mem_reverse.mp hx))
theorem bxs_low (a : List Nat) (xs : List (Str × List Nat)) : (xs.map fun x => (x.1, a ++ x.2)).map bxs = (xs.map bxs).map fun x => (x.1, a ++ x.2) := by
  rw [List.map_map, List.map_map]; rfl

/-! steps on the right arm, plainly -/
abbrev D0 (t : Tr) : List Nat := Tr.Dn t []
abbrev D1 (t : Tr) : List Nat := Tr.Dn t [108]
theorem Dn_same : ∀ (t : Tr) (a b : List Nat), (108 ∈ a ↔ 108 ∈ b) → Tr.Dn t a = Tr.Dn t b
  | .leaf, a, b, _ => rfl
  | .node l r, a, b, h => by
    show Tr.addH (if 108 ∈ a then 1 else 0) (Tr.Dn l (a ++ [108])) ++ Tr.Dn r (a ++ [114]) = Tr.addH (if 108 ∈ b then 1 else 0) (Tr.Dn l (b ++ [108])) ++ Tr.Dn r (b ++ [114])
    rw [Dn_same l (a ++ [108]) (b ++ [108]) (by simp), Dn_same r (a ++ [114]) (b ++ [114]) (by simp [h])]
    simp only [h]
theorem D0_node (l r : Tr) : D0 (.node l r) = D1 l ++ D0 r := by
  show Tr.addH 0 (Tr.Dn l [108]) ++ Tr.Dn r [114] = _
  rw [Tr.addH_zero, Dn_same r [114] [] (by simp)]
theorem D1_node (l r : Tr) : D1 (.node l r) = Tr.addH 1 (D1 l) ++ D1 r := by
  show Tr.addH 1 (Tr.Dn l [108, 108]) ++ Tr.Dn r [108, 114] = _
  rw [Dn_same l [108, 108] [108] (by simp), Dn_same r [108, 114] [108] (by simp)]
/-- so many steps to the right at each place of the arm -/
def armQ : Nat → List Nat → List (Bool × List Nat)
  | _, [] => []
  | k, n :: ns => List.replicate n (true, List.replicate k 114) ++ armQ (k + 1) ns
theorem armV_bxs : ∀ (k : Nat) (ns : List Nat), (armV k ns).map bxs = armQ k ns
  | _, [] => rfl
  | k, n :: ns => by
    show (List.replicate n (Str.ofString "right", List.replicate k 114) ++ armV (k + 1) ns).map bxs = _
    rw [List.map_append, armV_bxs (k + 1) ns, List.map_replicate]
    rw [show bxs (Str.ofString "right", List.replicate k 114) = (true, List.replicate k 114) by simp [bxs]]
    rfl
theorem armV_length : ∀ (k : Nat) (ns : List Nat), (armV k ns).length = ns.sum
  | _, [] => rfl
  | k, n :: ns => by
    show (List.replicate n (Str.ofString "right", List.replicate k 114) ++ armV (k + 1) ns).length = _
    rw [List.length_append, List.length_replicate, armV_length (k + 1) ns, List.sum_cons]
theorem armV_ok : ∀ (k : Nat) (ns : List Nat), ∀ x ∈ armV k ns, x.1 = Str.ofString "right" ∧ ∃ j, j < k + ns.length ∧ x.2 = List.replicate j 114
  | _, [], x, h => nomatch h
  | k, n :: ns, x, h => by
    rcases List.mem_append.mp (show x ∈ List.replicate n (Str.ofString "right", List.replicate k 114) ++ armV (k + 1) ns from h) with h | h
    · rw [List.eq_of_mem_replicate h]
      exact ⟨rfl, k, by rw [List.length_cons]; omega, rfl⟩
    · obtain ⟨h1, j, h2, h3⟩ := armV_ok (k + 1) ns x h
      exact ⟨h1, j, by rw [List.length_cons]; omega, h3⟩
theorem armQ_succ : ∀ (k : Nat) (ns : List Nat), armQ (k + 1) ns = (armQ k ns).map fun x => (x.1, 114 :: x.2)
  | _, [] => rfl
  | k, n :: ns => by
    show List.replicate n (true, List.replicate (k + 1) 114) ++ armQ (k + 1 + 1) ns = (List.replicate n (true, List.replicate k 114) ++ armQ (k + 1) ns).map _
    rw [List.map_append, armQ_succ (k + 1) ns, List.map_replicate]
    rfl
theorem run_right (x : Tr) : ∀ (s : List (Bool × List Nat)) (t : Tr), runO (s.map fun x => (x.1, 114 :: x.2)) (.node x t) = (runO s t).map (Tr.node x)
  | [], t => rfl
  | y :: ys, t => by
    show (stepB y.1 (114 :: y.2) (.node x t)).bind _ = ((stepB y.1 y.2 t).bind _).map _
    rw [stepB_cons, if_neg (by decide)]
    cases stepB y.1 y.2 t with
    | none => rfl
    | some z => exact run_right x ys z
theorem D1_ne (t : Tr) : D1 t ≠ [] := Tr.Dn_ne t _
/-- the steps that the counts tell lead to the right arm -/
theorem run_arm (t : Tr) : runO (armQ 0 (D0 t)) t = some (Tr.cR t.size) := by
  match t with
  | .leaf => rfl
  | .node .leaf r =>
    have ih := run_arm r
    rw [D0_node]
    show runO ([] ++ armQ 1 (D0 r)) _ = _
    rw [List.nil_append, armQ_succ, run_right, ih]
    show some (Tr.node .leaf (Tr.cR r.size)) = some (Tr.cR (0 + r.size + 1))
    rw [Nat.zero_add]; rfl
  | .node (.node a b) r =>
    have ih := run_arm (.node a (.node b r))
    rw [D0_node, D1_node, List.append_assoc]
    rw [D0_node, D0_node] at ih
    obtain ⟨n, ns, e⟩ : ∃ n ns, D1 a = n :: ns := by cases h : D1 a with | nil => exact absurd h (D1_ne a) | cons n ns => exact ⟨n, ns, rfl⟩
    rw [e] at ih ⊢
    have e1 : armQ 0 (Tr.addH 1 (n :: ns) ++ (D1 b ++ D0 r)) = (true, []) :: armQ 0 (n :: ns ++ (D1 b ++ D0 r)) := by
      show List.replicate (1 + n) (true, []) ++ _ = (true, []) :: (List.replicate n (true, []) ++ _)
      rw [Nat.add_comm, List.replicate_succ]; rfl
    rw [e1]
    show (stepB true [] (.node (.node a b) r)).bind _ = _
    rw [stepB_nil]
    show runO _ (.node a (.node b r)) = _
    rw [ih]
    congr 2
    simp only [Tr.size]; omega
termination_by t.size + t.off
decreasing_by
  · simp only [Tr.size, Tr.off]; omega
  · simp only [Tr.size, Tr.off]; omega
theorem scrV_bxs (A B : Tr) : (scrV A B).map bxs = armQ 0 (D0 A) ++ invX (armQ 0 (D0 B)) := by
  unfold scrV
  rw [List.map_append, bxs_opp _ (fun x hx => .inr (armV_ok _ _ x hx).1), armV_bxs, armV_bxs]
theorem run_scr {A B : Tr} (h : A.size = B.size) : runO ((scrV A B).map bxs) A = some B := by
  rw [scrV_bxs, runO_app, run_arm, h]
  exact run_back _ _ _ (run_arm B)
theorem D0_sum (t : Tr) : (D0 t).sum = t.off := by
  have := Tr.Dn_sum t []
  simpa using this
theorem scrV_length (A B : Tr) : (scrV A B).length = A.off + B.off := by
  unfold scrV
  rw [List.length_append, List.length_map, List.length_reverse, armV_length, armV_length, D0_sum, D0_sum]
theorem scrV_ok (A B : Tr) : ∀ x ∈ scrV A B, (x.1 = Str.ofString "left" ∨ x.1 = Str.ofString "right") ∧ ∃ j, j < A.lvs + B.lvs ∧ x.2 = List.replicate j 114 := by
  intro x hx
  have lA : (Tr.Dn A []).length = A.lvs := Tr.Dn_length A []
  have lB : (Tr.Dn B []).length = B.lvs := Tr.Dn_length B []
  rcases List.mem_append.mp hx with h | h
  · obtain ⟨h1, j, h2, h3⟩ := armV_ok _ _ x h
    exact ⟨.inr h1, j, by omega, h3⟩
  · obtain ⟨y, hy, rfl⟩ := List.mem_map.mp h
    obtain ⟨h1, j, h2, h3⟩ := armV_ok _ _ y (List.mem_reverse.mp hy)
    refine ⟨.inl ?_, j, by omega, h3⟩
    show oth y.1 = _
    rw [h1, oth, if_neg (by decide +kernel)]
theorem isA_rep (j : Nat) : isA (List.replicate j 114) = true := by unfold isA; simp
theorem scrV_okSt (A B : Tr) {D : Nat} (h : A.lvs + B.lvs ≤ D) : ∀ x ∈ scrV A B, okSt D x := by
  intro x hx
  obtain ⟨h1, j, h2, h3⟩ := scrV_ok A B x hx
  exact ⟨h1, by rw [h3]; exact isA_rep j, by rw [h3, List.length_replicate]; omega⟩
/-- what a script does on a tree, its move's trees tell -/
theorem Gr_run {xs : List (Bool × List Nat)} {A B : Tr} (h : runO xs A = some B) : Gr A B (pairT xs).1 (pairT xs).2 := by
  rw [← mvF_pair] at h
  obtain ⟨ts, h1, rfl⟩ := Option.map_eq_some_iff.mp (show (Tr.hang A (pairT xs).1).map (pairT xs).2.grow = some B from h)
  exact ⟨ts, Tr.hang_len _ _ _ h1, pair_lvs xs, (Tr.grow_hang h1).symm, rfl⟩
theorem Gr_scr {A B : Tr} (h : A.size = B.size) : Gr A B (pairT ((scrV A B).map bxs)).1 (pairT ((scrV A B).map bxs)).2 := Gr_run (run_scr h)
/-! how many nodes are off the arm -/
def gs : List Tr → Nat
  | [] => 0
  | [x] => x.off
  | x :: y :: xs => x.size + gs (y :: xs)
theorem gs_app : ∀ (a b : List Tr), b ≠ [] → gs (a ++ b) = (a.map Tr.size).sum + gs b
  | [], b, _ => by simp
  | [x], b, h => by
    cases b with
    | nil => exact absurd rfl h
    | cons y ys => simp [gs]
  | x :: y :: xs, b, h => by
    have ih := gs_app (y :: xs) b h
    simp only [List.cons_append, gs, List.map_cons, List.sum_cons] at ih ⊢
    omega
theorem size_grow : ∀ (t : Tr) (xs : List Tr), xs.length = t.lvs → (t.grow xs).size = t.size + (xs.map Tr.size).sum
  | .leaf, xs, h => by
    obtain ⟨y, rfl⟩ := List.length_eq_one_iff.mp h
    rw [grow_leaf1]; simp [Tr.size]
  | .node l r, xs, h => by
    obtain ⟨a, b, rfl, ha, hb⟩ := split_len h
    rw [grow_node l r a b ha hb]
    have h1 := size_grow l a ha
    have h2 := size_grow r b hb
    simp only [Tr.size, List.map_append, List.sum_append]; omega
theorem off_grow : ∀ (t : Tr) (xs : List Tr), xs.length = t.lvs → (t.grow xs).off = t.off + gs xs
  | .leaf, xs, h => by
    obtain ⟨y, rfl⟩ := List.length_eq_one_iff.mp h
    rw [grow_leaf1]; simp [Tr.off, gs]
  | .node l r, xs, h => by
    obtain ⟨a, b, rfl, ha, hb⟩ := split_len h
    rw [grow_node l r a b ha hb]
    have h1 := size_grow l a ha
    have h2 := off_grow r b hb
    have hb0 : b ≠ [] := fun z => by have := Tr.lvs_pos r; rw [z] at hb; simp at hb; omega
    rw [gs_app a b hb0]
    simp only [Tr.off]; omega
theorem off_join : ∀ a b : Tr, (Tr.join a b).off ≤ a.off + b.off
  | .leaf, b => by rw [Tr.leaf_join]; omega
  | .node a b, .leaf => by rw [Tr.join_leaf]; omega
  | .node a b, .node c d => by
    have h1 := Tr.size_join_le a c
    have h2 := off_join b d
    simp only [Tr.join, Tr.off]; omega
/-- the length of a move's arm script -/
noncomputable def Lg (A B : Tr) : Nat := (wdT A B).1.off + (wdT A B).2.off
theorem Lg_rep {A B : Tr} (h : A.lvs = B.lvs) : ∃ s, A.off = (wdT A B).1.off + s ∧ B.off = (wdT A B).2.off + s := by
  obtain ⟨xs, h1, h2, e1, e2⟩ := wdT_Gr h
  exact ⟨gs xs, by conv => lhs; rw [e1, off_grow _ _ h1], by conv => lhs; rw [e2, off_grow _ _ (h1.trans h2)]⟩
theorem Lg_Gr {A B C D : Tr} (g : Gr A B C D) : Lg A B = Lg C D := by unfold Lg; rw [wdT_gr g]
theorem Lg_swap {A B : Tr} (h : A.lvs = B.lvs) : Lg B A = Lg A B := by unfold Lg; rw [wdT_swap h]; exact Nat.add_comm _ _
/-- off the arm, of a product -/
theorem off_mul {S S' A B : Tr} (h1 : S.lvs = S'.lvs) (h2 : A.lvs = B.lvs) : ∃ j, j ≤ S'.off + A.off ∧ S'.off ≤ j ∧ A.off ≤ j ∧ (mulT (S, S') (A, B)).1.off = S.off + (j - S'.off) ∧ (mulT (S, S') (A, B)).2.off = B.off + (j - A.off) := by
  obtain ⟨us, ws, hus, hws, l1, l2, l3, l4, e, j1, j2⟩ := mul_parts (A := S) (B := S') (C := A) (D := B) h1 h2
  have o1 := off_grow S us l1
  have o2 := off_grow S' us l2
  have o3 := off_grow A ws l3
  have o4 := off_grow B ws l4
  rw [← j1] at o2
  rw [← j2] at o3
  refine ⟨(Tr.join S' A).off, off_join _ _, by omega, by omega, ?_, ?_⟩
  · rw [e]; show (S.grow us).off = _; omega
  · rw [e]; show (B.grow ws).off = _; omega
theorem Lg_step {S S' A B : Tr} (h1 : S.lvs = S'.lvs) (h2 : A.lvs = B.lvs) (o : S.off + S'.off = 1) : Lg (mulT (S, S') (A, B)).1 (mulT (S, S') (A, B)).2 ≤ Lg A B + 1 ∧ (Lg (mulT (S, S') (A, B)).1 (mulT (S, S') (A, B)).2 + Lg A B) % 2 = 1 := by
  have g := mul_Gr (Gr.refl h1) (wdT_Gr h2)
  have hw := (wdT_Gr h2).right
  rw [Lg_Gr g]
  obtain ⟨j, j1, j2, j3, e1, e2⟩ := off_mul (S := S) (S' := S') (A := (wdT A B).1) (B := (wdT A B).2) h1 hw
  obtain ⟨s, r1, r2⟩ := Lg_rep (mul_lvs (A := S) (B := S') (C := (wdT A B).1) (D := (wdT A B).2) h1 hw)
  have d1 : Lg A B = (wdT A B).1.off + (wdT A B).2.off := rfl
  have d2 : Lg (mulT (S, S') (wdT A B)).1 (mulT (S, S') (wdT A B)).2 = (wdT (mulT (S, S') (wdT A B)).1 (mulT (S, S') (wdT A B)).2).1.off + (wdT (mulT (S, S') (wdT A B)).1 (mulT (S, S') (wdT A B)).2).2.off := rfl
  have k1 : (mulT (S, S') ((wdT A B).1, (wdT A B).2)) = mulT (S, S') (wdT A B) := rfl
  rw [k1] at e1 e2 r1 r2
  rw [d1, d2]
  omega
theorem Lg_one {S S' A B : Tr} (h1 : S.lvs = S'.lvs) (h2 : A.lvs = B.lvs) (o : S.off + S'.off = 1) : Lg (mulT (S, S') (A, B)).1 (mulT (S, S') (A, B)).2 = Lg A B + 1 ∨ Lg (mulT (S, S') (A, B)).1 (mulT (S, S') (A, B)).2 + 1 = Lg A B := by
  obtain ⟨a1, a2⟩ := Lg_step h1 h2 o
  have ml := mul_lvs (A := S) (B := S') (C := A) (D := B) h1 h2
  obtain ⟨b1, _⟩ := Lg_step (S := S') (S' := S) (A := (mulT (S, S') (A, B)).1) (B := (mulT (S, S') (A, B)).2) h1.symm ml (by omega)
  have e : mulT (S', S) (mulT (S, S') (A, B)) = mulT (S', S') (A, B) := by
    rw [← mul_assoc h1.symm h1 h2, mul_mid S' S S' h1.symm h1]
  have g : Gr (mulT (S', S') (A, B)).1 (mulT (S', S') (A, B)).2 A B := by
    have := mul_Gr (Gr_leaf S') (Gr.refl h2)
    rw [leaf_mul A B h2] at this
    exact this
  have b2 : Lg (mulT (S', S) (mulT (S, S') (A, B))).1 (mulT (S', S) (mulT (S, S') (A, B))).2 = Lg A B := by rw [e]; exact Lg_Gr g
  have b3 : Lg (mulT (S', S) ((mulT (S, S') (A, B)).1, (mulT (S, S') (A, B)).2)).1 (mulT (S', S) ((mulT (S, S') (A, B)).1, (mulT (S, S') (A, B)).2)).2 = Lg A B := b2
  rw [b3] at b1
  omega
theorem Lg_one' {S S' A B : Tr} (h1 : S.lvs = S'.lvs) (h2 : A.lvs = B.lvs) (o : S.off + S'.off = 1) : Lg (mulT (A, B) (S, S')).1 (mulT (A, B) (S, S')).2 = Lg A B + 1 ∨ Lg (mulT (A, B) (S, S')).1 (mulT (A, B) (S, S')).2 + 1 = Lg A B := by
  have h := Lg_one (S := S') (S' := S) (A := B) (B := A) h1.symm h2.symm (by omega)
  rw [mul_swap A B S S', Lg_swap (mul_lvs h2 h1), Lg_swap h2] at h
  exact h
theorem off_pth (k : Nat) (x : Tr) : (pth (List.replicate k 114) x).off = x.off := by
  induction k with
  | zero => rfl
  | succ k ih =>
    rw [List.replicate_succ, pth_cons, if_neg (by decide)]
    show 0 + _ = _
    rw [ih, Nat.zero_add]
theorem one_off (r : Bool) (k : Nat) : (pairT [(r, List.replicate k 114)]).1.off + (pairT [(r, List.replicate k 114)]).2.off = 1 := by
  rw [pair_one]
  show (pth _ (ttop r)).off + (pth _ (ttop (!r))).off = 1
  rw [off_pth, off_pth]
  cases r <;> rfl

/-- all tuples stay -/
def TupK (H H' : Hp) : Prop := ∀ b vs, H b = some (.tup vs) → H' b = some (.tup vs)
theorem TupK.of {H H' : Hp} (s : Same H H') : TupK H H' := fun b vs e => s _ _ e
theorem TupK.upd {H : Hp} {p : Addr} {o : HO} {ws : List V} (h : H p = some (.lst ws)) : TupK H (L2.upd H p o) := fun b vs e => by rw [upd_ne (fun z => by rw [z, h] at e; cases e)]; exact e
theorem TupK.trans {H H' H2 : Hp} (a : TupK H H') (b : TupK H' H2) : TupK H H2 := fun c vs e => b _ _ (a _ _ e)
theorem PT.tup {H H' : Hp} (k : TupK H H') : ∀ {v : V} {t : Tr}, PT H v t → PT H' v t
  | _, _, .leaf h => .leaf (k _ _ h)
  | _, _, .node h a b => .node (k _ _ h) (PT.tup k a) (PT.tup k b)
theorem PTs.tup {H H' : Hp} (k : TupK H H') : ∀ {vs : List V} {ts : List Tr}, PTs H vs ts → PTs H' vs ts
  | _, _, .nil => .nil
  | _, _, .cons a b => .cons (a.tup k) (PTs.tup k b)
theorem ArmA.tup {H H' : Hp} (k : TupK H H') : ∀ {vs : List V} {ts : List ((Str × List Nat) × Tr)}, ArmA H vs ts → ArmA H' vs ts
  | _, _, .nil => .nil
  | _, _, .cons a b c d => .cons (k _ _ a) (k _ _ b) (c.tup k) (ArmA.tup k d)
theorem ArmA.snoc {H : Hp} {p q : Addr} {u : V} {x : (Str × List Nat) × Tr} (hp : H p = some (.tup [.ref q, u])) (hq : H q = some (.tup [.str x.1.1, sV x.1.2])) (hu : PT H u x.2) : ∀ {vs : List V} {ts : List ((Str × List Nat) × Tr)}, ArmA H vs ts → ArmA H (vs ++ [.ref p]) (ts ++ [x])
  | _, _, .nil => .cons hp hq hu .nil
  | _, _, .cons a b c d => .cons a b c (ArmA.snoc hp hq hu d)
theorem ArmA.length {H : Hp} : ∀ {vs : List V} {ts : List ((Str × List Nat) × Tr)}, ArmA H vs ts → vs.length = ts.length
  | _, _, .nil => rfl
  | _, _, .cons _ _ _ d => congrArg Nat.succ (ArmA.length d)
theorem ArmA.get {H : Hp} : ∀ {vs : List V} {ts : List ((Str × List Nat) × Tr)} {i : Nat} {v : V}, ArmA H vs ts → vs[i]? = some v → ∃ p q u x, v = .ref p ∧ ts[i]? = some x ∧ H p = some (.tup [.ref q, u]) ∧ H q = some (.tup [.str x.1.1, sV x.1.2]) ∧ PT H u x.2
  | _, _, _, _, .nil, h => by simp at h
  | _, _, 0, v, .cons (p := p) (q := q) (u := u) (x := x) a b c d, h => by
    have : V.ref p = v := by simpa using h
    exact ⟨p, q, u, x, this.symm, rfl, a, b, c⟩
  | _, _, i + 1, v, .cons a b c d, h => by
    obtain ⟨p, q, u, x, e, g, r⟩ := ArmA.get (i := i) d (by simpa using h)
    exact ⟨p, q, u, x, e, by simpa using g, r⟩
theorem PTs.snoc {H : Hp} {v : V} {t : Tr} (h : PT H v t) : ∀ {vs : List V} {ts : List Tr}, PTs H vs ts → PTs H (vs ++ [v]) (ts ++ [t])
  | _, _, .nil => .cons h .nil
  | _, _, .cons a b => .cons a (PTs.snoc h b)
theorem PTs.len {H : Hp} : ∀ {vs : List V} {ts : List Tr}, PTs H vs ts → vs.length = ts.length
  | _, _, .nil => rfl
  | _, _, .cons _ b => congrArg Nat.succ (PTs.len b)
theorem PTs.at {H : Hp} : ∀ {vs : List V} {ts : List Tr} {i : Nat} {v : V}, PTs H vs ts → vs[i]? = some v → ∃ t, ts[i]? = some t ∧ PT H v t
  | _, _, _, _, .nil, h => by simp at h
  | _, _, 0, v, .cons (t := t) a b, h => by
    cases h
    exact ⟨t, rfl, a⟩
  | _, _, i + 1, v, .cons a b, h => by
    obtain ⟨t, g, r⟩ := PTs.at (i := i) b (by simpa using h)
    exact ⟨t, by simpa using g, r⟩
theorem PTs.rev {H : Hp} : ∀ {vs : List V} {ts : List Tr}, PTs H vs ts → PTs H vs.reverse ts.reverse
  | _, _, .nil => .nil
  | _, _, .cons a b => by
    rw [List.reverse_cons, List.reverse_cons]
    exact PTs.snoc a (PTs.rev b)
theorem fS_rev : ∀ {S : List Tr} {i : Nat} {t : Tr}, S.reverse[i]? = some t → ∀ z : Tr, (S.drop (S.length - (i + 1))).foldr Tr.node z = .node t ((S.drop (S.length - i)).foldr Tr.node z) := by
  intro S i t h z
  obtain ⟨hi, e⟩ := List.getElem?_eq_some_iff.mp h
  rw [List.length_reverse] at hi
  rw [List.getElem_reverse] at e
  rw [List.drop_eq_getElem_cons (show S.length - (i + 1) < S.length by omega), List.foldr_cons, show S.length - (i + 1) + 1 = S.length - i by omega]
  congr 1
  rw [← e]; congr 1; omega
def fS (S : List Tr) (z : Tr) : Tr := S.foldr Tr.node z
theorem fS_snoc (S : List Tr) (l z : Tr) : fS (S ++ [l]) z = fS S (.node l z) := by unfold fS; rw [List.foldr_append]; rfl
theorem fS_size : ∀ (S : List Tr) (z : Tr), z.size ≤ (fS S z).size ∧ S.length ≤ (fS S z).size
  | [], z => ⟨Nat.le_refl _, Nat.zero_le _⟩
  | s :: S, z => by
    obtain ⟨a, b⟩ := fS_size S z
    have e : (fS (s :: S) z).size = s.size + (fS S z).size + 1 := rfl
    rw [List.length_cons]
    omega
def mkL (k : Nat) (l r : Tr) : List ((Str × List Nat) × Tr) := match l with | .leaf => [] | .node a b => [((Str.ofString "right", List.replicate k 114), .node a (.node b r))]
def mkR (k : Nat) (l r : Tr) : List ((Str × List Nat) × Tr) := match r with | .leaf => [] | .node b c => [((Str.ofString "left", List.replicate k 114), .node (.node l b) c)]
theorem mkL_len (k : Nat) (l r : Tr) : (mkL k l r).length ≤ 1 := by cases l <;> simp [mkL]
theorem mkR_len (k : Nat) (l r : Tr) : (mkR k l r).length ≤ 1 := by cases r <;> simp [mkR]
theorem armL_node (k : Nat) (f : Tr → Tr) (l r : Tr) : armL k f (.node l r) = ((mkL k l r) ++ (mkR k l r)).map (fun y => (y.1, f y.2)) ++ armL (k + 1) (fun x => f (.node l x)) r := by
  cases l <;> cases r <;> rfl
/-- what stands -/
def AS (H : Hp) (pf ps : Addr) (H' : Hp) (L : List ((Str × List Nat) × Tr)) (S : List Tr) : Prop := Same H H' ∧ (∃ ws, H' pf = some (.lst ws) ∧ ArmA H' ws L) ∧ ∃ us, H' ps = some (.lst us) ∧ PTs H' us S
theorem AS.same {H H' H2 : Hp} {pf ps : Addr} {L : List ((Str × List Nat) × Tr)} {S : List Tr} (h : AS H pf ps H' L S) (s : Same H' H2) : AS H pf ps H2 L S := by
  obtain ⟨a, ⟨ws, b, c⟩, us, d, e⟩ := h
  exact ⟨a.trans s, ⟨ws, s _ _ b, c.tup (.of s)⟩, us, s _ _ d, e.tup (.of s)⟩
theorem AS.upd {H H' : Hp} {pf ps pm : Addr} {o : HO} {wm : List V} {L : List ((Str × List Nat) × Tr)} {S : List Tr} (h : AS H pf ps H' L S) (hm : H pm = none) (hw : H' pm = some (.lst wm)) (n1 : pf ≠ pm) (n2 : ps ≠ pm) : AS H pf ps (L2.upd H' pm o) L S := by
  obtain ⟨a, ⟨ws, b, c⟩, us, d, e⟩ := h
  exact ⟨a.new hm _, ⟨ws, by rw [upd_ne n1]; exact b, c.tup (.upd hw)⟩, us, by rw [upd_ne n2]; exact d, e.tup (.upd hw)⟩
/-- .. and the list that is made -/
def Stg (H : Hp) (pf ps pm : Addr) (xl xr : V) (l r : Tr) (L : List ((Str × List Nat) × Tr)) (S : List Tr) (M : List ((Str × List Nat) × Tr)) (H' : Hp) : Prop := AS H pf ps H' L S ∧ PT H' xl l ∧ PT H' xr r ∧ ∃ wm, H' pm = some (.lst wm) ∧ ArmA H' wm M
theorem Stg.same {H H' H2 : Hp} {pf ps pm : Addr} {xl xr : V} {l r : Tr} {L M : List ((Str × List Nat) × Tr)} {S : List Tr} (h : Stg H pf ps pm xl xr l r L S M H') (s : Same H' H2) : Stg H pf ps pm xl xr l r L S M H2 := by
  obtain ⟨a, b, c, wm, d, e⟩ := h
  exact ⟨a.same s, b.same s, c.same s, wm, s _ _ d, e.tup (.of s)⟩
theorem ok_law_arm (T : Txt w K mg) : FnOk P w K mg base CX0 2 T.a_law_arm T.fd_law_arm ["_law_nest_here"] (sp_law_arm K) := by
  refine T.F_law_arm.ok sc_law_arm (fun vs H Q E h => ?_) (fun cdv A outer s H vs Q E hr h => ?_)
  · obtain ⟨_, _, rfl, _⟩ := h; rfl
  obtain ⟨v, t, rfl, hv, hz, q⟩ := h
  have hru := hr.units
  refine ⟨_, (pss_cons (ps_par (i := 1) (j := 2) rfl sc_law_arm.nd rfl rfl (by decide) rfl rfl (pa_cons (pe_lst pa_nil) (pa_cons (pe_lst pa_nil) pa_nil)) rfl)
    (pss_cons (ps_while PassesOwn.never (pt_cmpR (op_neD hru) (pv 0) (pe_tup pa_nil) (nomark _)) (pss_cons (ps_asg (pv 0) (pg_tup rfl (pgs_cons (pg_name (i := 3) sc_law_arm.nd rfl (by first | exact Or.inl rfl | exact Or.inr rfl)) (pgs_cons (pg_name (i := 4) sc_law_arm.nd rfl (by first | exact Or.inl rfl | exact Or.inr rfl)) pgs_nil))))
    (pss_cons (ps_set (i := 5) sc_law_arm.nd rfl (by first | exact Or.inl rfl | exact Or.inr rfl) (pe_op TRp.op_repS pe_str (pe_callB call_len_seq (by rfl) T.z_len PySem.boot_len (pa_cons (pv 2) pa_nil))))
    (pss_cons (ps_set (i := 6) sc_law_arm.nd rfl (by first | exact Or.inl rfl | exact Or.inr rfl) (pe_lst pa_nil))
    (pss_cons (ps_if (pt_cmpR (op_neD hru) (pv 3) (pe_tup pa_nil) (nomark _)) (pss_one (ps_expr (pe_bm PySem.F.plainAttrs_list PySem.F.slot_list_append PySem.F.type_list_append mt_append (pv 6) (pa_cons (pe_tup (pa_cons (pe_tup (pa_cons pe_str (pa_cons (pv 5) pa_nil))) (pa_cons (pe_tup (pa_cons (pe_ix ix_tup (pv 3) pe_int (fun _ _ => rfl)) (pa_cons (pe_tup (pa_cons (pe_ix ix_tup (pv 3) pe_int (fun _ _ => rfl)) (pa_cons (pv 4) pa_nil))) pa_nil))) pa_nil))) pa_nil)))) pss_nil)
    (pss_cons (ps_if (pt_cmpR (op_neD hru) (pv 4) (pe_tup pa_nil) (nomark _)) (pss_one (ps_expr (pe_bm PySem.F.plainAttrs_list PySem.F.slot_list_append PySem.F.type_list_append mt_append (pv 6) (pa_cons (pe_tup (pa_cons (pe_tup (pa_cons pe_str (pa_cons (pv 5) pa_nil))) (pa_cons (pe_tup (pa_cons (pe_tup (pa_cons (pv 3) (pa_cons (pe_ix ix_tup (pv 4) pe_int (fun _ _ => rfl)) pa_nil))) (pa_cons (pe_ix ix_tup (pv 4) pe_int (fun _ _ => rfl)) pa_nil))) pa_nil))) pa_nil)))) pss_nil)
    (pss_cons (ps_for PassesOwn.never rfl (pi_list (pv 6)) (pg_tup rfl (pgs_cons (pg_name (i := 7) sc_law_arm.nd rfl (by first | exact Or.inl rfl | exact Or.inr rfl)) (pgs_cons (pg_name (i := 8) sc_law_arm.nd rfl (by first | exact Or.inl rfl | exact Or.inr rfl)) pgs_nil))) (pss_cons (ps_for PassesOwn.never rfl (pi_list (pe_revL (pv 2))) (pg_name (i := 9) sc_law_arm.nd rfl (by first | exact Or.inl rfl | exact Or.inr rfl)) (pss_one (ps_set (i := 8) sc_law_arm.nd rfl (by first | exact Or.inl rfl | exact Or.inr rfl) (pe_tup (pa_cons (pv 9) (pa_cons (pv 8) pa_nil))))))
    (pss_one (ps_expr (pe_bm PySem.F.plainAttrs_list PySem.F.slot_list_append PySem.F.type_list_append mt_append (pv 1) (pa_cons (pe_tup (pa_cons (pv 7) (pa_cons (pv 8) pa_nil))) pa_nil))))))
    (pss_cons (ps_expr (pe_bm PySem.F.plainAttrs_list PySem.F.slot_list_append PySem.F.type_list_append mt_append (pv 2) (pa_cons (pv 3) pa_nil)))
    (pss_one (ps_set (i := 0) sc_law_arm.nd rfl (by first | exact Or.inl rfl | exact Or.inr rfl) (pv 4)))))))))))
    (pss_one (ps_ret (pv 1))))), ?_⟩
  simp only [tPar, cxOf_K, tAsg2, tYes, wipe, tSeq, tIfS, tNot, tB, tCB, tCons, tNil, tVar, tC, tTest, tOp, tAnd, tOr, tAsg, gName, tRet, tRetN, tDrop, tNext, tIf, tCall, tTup, tLst, tNotV, tAndV, tOrV, tUn, rI0, rI, rU, rEq, rNe, tM1, tM0, tBM, tBM0, tSl, tPart, tNoPart, iStr, iEnumS, iRng1, iRng2, iList, gSub, tBits, tAug, tPar, L2.start, List.map_cons, List.map_nil, List.length_cons, List.length_nil, List.getElem?_cons_zero, List.getElem?_cons_succ, List.cons_append, List.nil_append, List.append_nil, List.set_cons_zero, List.set_cons_succ, List.replicate_succ, List.replicate_zero, Option.some.injEq, exists_eq_left', V.int.injEq, V.str.injEq, V.ref.injEq, V.bl.injEq, exists_and_left, exists_eq_left, List.cons.injEq, and_true, true_and, tCallX, tRs]
  refine ⟨by decide, fun pf npf => ⟨by decide, fun ps nps => ⟨_, _, ⟨rfl, rfl⟩, ?_⟩⟩⟩
  have w1 := (L2.Same.refl H).new npf (.lst [])
  have f1 : upd H pf (.lst []) pf = some (.lst []) := upd_same
  have hps : H ps = none := w1.free nps
  have pfs : pf ≠ ps := ne_of_none f1 nps
  generalize upd H pf (.lst []) = H1 at w1 f1 nps ⊢
  have w2 := (L2.Same.refl H1).new nps (.lst [])
  have f2 : upd H1 ps (.lst []) ps = some (.lst []) := upd_same
  have f1 := w2 _ _ f1
  have w2 := w1.trans w2
  generalize upd H1 ps (.lst []) = H2 at w2 f1 f2 ⊢
  refine ⟨fun m σ H' => ∃ (x : V) (t' : Tr) (L : List ((Str × List Nat) × Tr)) (S : List Tr) (τ : List (Option V)), σ = some x :: some (.ref pf) :: some (.ref ps) :: τ ∧ τ.length = 7 ∧ AS H pf ps H' L S ∧ PT H' x t' ∧ armL 0 id t = L ++ armL S.length (fS S) t' ∧ (fS S t').size ≤ 60 ∧ L.length ≤ 2 * S.length ∧ m = t'.size,
    ⟨_, v, t, [], [], _, rfl, rfl, ⟨w2, ⟨[], f1, .nil⟩, [], f2, .nil⟩, hv.same w2, rfl, hz, by simp, rfl⟩, ?_⟩
  rintro m σ H3 ⟨x, t', L, S, τ, rfl, tl, as, px, eL, hs, lL, rfl⟩
  match τ, tl with
  | [b3, b4, b5, b6, b7, b8, b9], _ =>
  obtain ⟨fz1, fz2⟩ := fS_size S t'
  have hh := hgt_le t'
  simp only [cxOf_K, tAsg2, tYes, wipe, tSeq, tIfS, tNot, tB, tCB, tCons, tNil, tVar, tC, tTest, tOp, tAnd, tOr, tAsg, gName, tRet, tRetN, tDrop, tNext, tIf, tCall, tTup, tLst, tNotV, tAndV, tOrV, tUn, rI0, rI, rU, rEq, rNe, tM1, tM0, tBM, tBM0, tSl, tPart, tNoPart, iStr, iEnumS, iRng1, iRng2, iList, gSub, tBits, tAug, tPar, L2.start, List.map_cons, List.map_nil, List.length_cons, List.length_nil, List.getElem?_cons_zero, List.getElem?_cons_succ, List.cons_append, List.nil_append, List.append_nil, List.set_cons_zero, List.set_cons_succ, List.replicate_succ, List.replicate_zero, Option.some.injEq, exists_eq_left', V.int.injEq, V.str.injEq, V.ref.injEq, V.bl.injEq, exists_and_left, exists_eq_left, List.cons.injEq, and_true, true_and, tCallX, tRs]
  refine ⟨by decide, fun pe npe => ?_⟩
  have w3 := (L2.Same.refl H3).new npe (.tup [])
  refine neLeaf (px.same w3) (by omega) upd_same ⟨_, rfl, ?_⟩
  have as := as.same w3
  have px := px.same w3
  clear w3
  generalize upd H3 pe (.tup []) = H4 at as px ⊢
  cases t' with
  | leaf =>
    rw [if_neg (by decide)]
    obtain ⟨sH, ⟨ws, hw, aw⟩, _⟩ := as
    refine q pf ws _ npf sH hw ?_
    rw [eL]
    show ArmA H4 ws (L ++ [])
    rw [List.append_nil]; exact aw
  | node l r =>
    rw [if_pos (by simp)]
    refine ⟨_, fun σ' H' z => z, ?_⟩
    obtain ⟨pp, xl, xr, rfl, hpp, pl, pr⟩ := px.inv
    have zt : (Tr.node l r).size = l.size + r.size + 1 := rfl
    have hl2 := hgt_le l
    have hr2 := hgt_le r
    simp only [gTup, gCons, gNil, gName, cxOf_K, tAsg2, tYes, wipe, tSeq, tIfS, tNot, tB, tCB, tCons, tNil, tVar, tC, tTest, tOp, tAnd, tOr, tAsg, gName, tRet, tRetN, tDrop, tNext, tIf, tCall, tTup, tLst, tNotV, tAndV, tOrV, tUn, rI0, rI, rU, rEq, rNe, tM1, tM0, tBM, tBM0, tSl, tPart, tNoPart, iStr, iEnumS, iRng1, iRng2, iList, gSub, tBits, tAug, tPar, L2.start, List.map_cons, List.map_nil, List.length_cons, List.length_nil, List.getElem?_cons_zero, List.getElem?_cons_succ, List.cons_append, List.nil_append, List.append_nil, List.set_cons_zero, List.set_cons_succ, List.replicate_succ, List.replicate_zero, Option.some.injEq, exists_eq_left', V.int.injEq, V.str.injEq, V.ref.injEq, V.bl.injEq, exists_and_left, exists_eq_left, List.cons.injEq, and_true, true_and, tCallX, tRs]
    refine ⟨_, SqT.of hpp, rfl, _, _, rfl, _, _, rfl, rfl, ?_⟩
    obtain ⟨sH, ⟨ws, hw, aw⟩, us, hu, pus⟩ := as
    have ul := pus.len
    refine ⟨us, .inl (SqL.of hu), _, 114, us.length, rfl, by decide +kernel, rfl, by omega, ?_⟩
    rw [ul]
    refine ⟨by decide, fun pm npm => ?_⟩
    have w5 := (L2.Same.refl H4).new npm (.lst [])
    have f5 : upd H4 pm (.lst []) pm = some (.lst []) := upd_same
    have hpm : H pm = none := sH.free npm
    have pfm : pf ≠ pm := ne_of_none hw npm
    have psm : ps ≠ pm := ne_of_none hu npm
    have st0 : Stg H pf ps pm xl xr l r L S [] (upd H4 pm (.lst [])) := ⟨AS.same ⟨sH, ⟨ws, hw, aw⟩, us, hu, pus⟩ w5, pl.same w5, pr.same w5, [], f5, .nil⟩
    generalize upd H4 pm (.lst []) = H5 at st0 ⊢
    clear w5 f5 hw aw hu pus hpp px pl pr sH
    refine' cutHt (C := fun H' _ => Stg H pf ps pm xl xr l r L S (mkL S.length l r) H') _ _
    rotate_left
    · intro go
      refine ⟨by decide, fun pe npe => ?_⟩
      have w1 := (L2.Same.refl H5).new npe (.tup [])
      refine neLeaf (st0.2.1.same w1) (by omega) upd_same ⟨_, rfl, ?_⟩
      have st := st0.same w1
      clear w1
      generalize upd H5 pe (.tup []) = H6 at st ⊢
      by_cases hl : l = .leaf
      · rw [if_neg (by simp [hl])]
        refine go H6 0 ?_
        rw [show mkL S.length l r = [] by rw [hl]; rfl]
        exact st
      · rw [if_pos (by simp [hl])]
        obtain ⟨la, lb, el⟩ : ∃ la lb, l = .node la lb := by cases l with | leaf => exact absurd rfl hl | node u v => exact ⟨u, v, rfl⟩
        obtain ⟨as, ql, qr, wm, hm, am⟩ := st
        have ql2 : PT H6 xl (.node la lb) := el ▸ ql
        obtain ⟨px, xa, xb, ex, hpx, ha, hb⟩ := ql2.inv
        refine ⟨.inl ⟨rfl, _, SqL.of hm⟩, by decide, fun q1 nq1 => ?_⟩
        have t1 := (L2.Same.refl H6).new nq1 (.tup [V.str (Str.ofString "right"), sV (List.replicate S.length 114)])
        have g1 : upd H6 q1 (.tup [V.str (Str.ofString "right"), sV (List.replicate S.length 114)]) q1 = some _ := upd_same
        generalize upd H6 q1 (.tup [V.str (Str.ofString "right"), sV (List.replicate S.length 114)]) = J1 at t1 g1 ⊢
        refine ⟨px, _, 0, xa, ex, rfl, SqT.of (t1 _ _ hpx), rfl, px, _, 1, xb, ex, rfl, SqT.of (t1 _ _ hpx), rfl, by decide, fun q2 nq2 => ?_⟩
        have t2 := (L2.Same.refl J1).new nq2 (.tup [xb, xr])
        have g2 : upd J1 q2 (.tup [xb, xr]) q2 = some _ := upd_same
        generalize upd J1 q2 (.tup [xb, xr]) = J2 at t2 g2 ⊢
        refine ⟨by decide, fun q3 nq3 => ?_⟩
        have t3 := (L2.Same.refl J2).new nq3 (.tup [xa, V.ref q2])
        have g3 : upd J2 q3 (.tup [xa, V.ref q2]) q3 = some _ := upd_same
        generalize upd J2 q3 (.tup [xa, V.ref q2]) = J3 at t3 g3 ⊢
        refine ⟨by decide, fun q4 nq4 => ?_⟩
        have t4 := (L2.Same.refl J3).new nq4 (.tup [V.ref q1, .ref q3])
        have g4 : upd J3 q4 (.tup [V.ref q1, .ref q3]) q4 = some _ := upd_same
        generalize upd J3 q4 (.tup [V.ref q1, .ref q3]) = J4 at t4 g4 ⊢
        have tt := t1.trans (t2.trans (t3.trans t4))
        have pt : PT J4 (.ref q3) (.node la (.node lb r)) := .node (t4 _ _ g3) (ha.same tt) (.node (t4 _ _ (t3 _ _ g2)) (hb.same tt) (qr.same tt))
        have wl := am.length
        refine ⟨pm, wm, _, rfl, rfl, tt _ _ hm, small5' (by rw [wl]; decide), ?_⟩
        refine go (upd J4 pm (.lst (wm ++ [V.ref q4]))) 0 ?_
        have k := TupK.upd (o := .lst (wm ++ [.ref q4])) (tt _ _ hm)
        rw [show mkL S.length l r = [((Str.ofString "right", List.replicate S.length 114), .node la (.node lb r))] by rw [el]; rfl]
        refine ⟨(as.same tt).upd hpm (tt _ _ hm) pfm psm, (ql.same tt).tup k, (qr.same tt).tup k, _, upd_same, ?_⟩
        exact ArmA.snoc (x := ((Str.ofString "right", List.replicate S.length 114), .node la (.node lb r))) (k _ _ g4) (k _ _ (t4 _ _ (t3 _ _ (t2 _ _ g1)))) (pt.tup k) ((am.tup (.of tt)).tup k)
    · rintro H6 _ st1
      refine' cutHt (C := fun H' _ => Stg H pf ps pm xl xr l r L S (mkL S.length l r ++ mkR S.length l r) H') _ _
      rotate_left
      · intro go
        refine ⟨by decide, fun pe npe => ?_⟩
        have w1 := (L2.Same.refl H6).new npe (.tup [])
        refine neLeaf (st1.2.2.1.same w1) (by omega) upd_same ⟨_, rfl, ?_⟩
        have st := st1.same w1
        clear w1
        generalize upd H6 pe (.tup []) = H7 at st ⊢
        by_cases hl : r = .leaf
        · rw [if_neg (by simp [hl])]
          refine go H7 0 ?_
          rw [show mkR S.length l r = [] by rw [hl]; rfl, List.append_nil]
          exact st
        · rw [if_pos (by simp [hl])]
          obtain ⟨la, lb, el⟩ : ∃ la lb, r = .node la lb := by cases r with | leaf => exact absurd rfl hl | node u v => exact ⟨u, v, rfl⟩
          obtain ⟨as, ql, qr, wm, hm, am⟩ := st
          have ql2 : PT H7 xr (.node la lb) := el ▸ qr
          obtain ⟨px, xa, xb, ex, hpx, ha, hb⟩ := ql2.inv
          refine ⟨.inl ⟨rfl, _, SqL.of hm⟩, by decide, fun q1 nq1 => ?_⟩
          have t1 := (L2.Same.refl H7).new nq1 (.tup [V.str (Str.ofString "left"), sV (List.replicate S.length 114)])
          have g1 : upd H7 q1 (.tup [V.str (Str.ofString "left"), sV (List.replicate S.length 114)]) q1 = some _ := upd_same
          generalize upd H7 q1 (.tup [V.str (Str.ofString "left"), sV (List.replicate S.length 114)]) = J1 at t1 g1 ⊢
          refine ⟨px, _, 0, xa, ex, rfl, SqT.of (t1 _ _ hpx), rfl, by decide, fun q2 nq2 => ?_⟩
          have t2 := (L2.Same.refl J1).new nq2 (.tup [xl, xa])
          have g2 : upd J1 q2 (.tup [xl, xa]) q2 = some _ := upd_same
          generalize upd J1 q2 (.tup [xl, xa]) = J2 at t2 g2 ⊢
          refine ⟨px, _, 1, xb, ex, rfl, SqT.of (t2 _ _ (t1 _ _ hpx)), rfl, by decide, fun q3 nq3 => ?_⟩
          have t3 := (L2.Same.refl J2).new nq3 (.tup [V.ref q2, xb])
          have g3 : upd J2 q3 (.tup [V.ref q2, xb]) q3 = some _ := upd_same
          generalize upd J2 q3 (.tup [V.ref q2, xb]) = J3 at t3 g3 ⊢
          refine ⟨by decide, fun q4 nq4 => ?_⟩
          have t4 := (L2.Same.refl J3).new nq4 (.tup [V.ref q1, .ref q3])
          have g4 : upd J3 q4 (.tup [V.ref q1, .ref q3]) q4 = some _ := upd_same
          generalize upd J3 q4 (.tup [V.ref q1, .ref q3]) = J4 at t4 g4 ⊢
          have tt := t1.trans (t2.trans (t3.trans t4))
          have pt : PT J4 (.ref q3) (.node (.node l la) lb) := .node (t4 _ _ g3) (.node (t4 _ _ (t3 _ _ g2)) (ql.same tt) (ha.same tt)) (hb.same tt)
          have wl := am.length
          have ml := mkL_len S.length l r
          refine ⟨pm, wm, _, rfl, rfl, tt _ _ hm, small5' (by omega), ?_⟩
          refine go (upd J4 pm (.lst (wm ++ [V.ref q4]))) 0 ?_
          have k := TupK.upd (o := .lst (wm ++ [.ref q4])) (tt _ _ hm)
          rw [show mkR S.length l r = [((Str.ofString "left", List.replicate S.length 114), .node (.node l la) lb)] by rw [el]; rfl]
          refine ⟨(as.same tt).upd hpm (tt _ _ hm) pfm psm, (ql.same tt).tup k, (qr.same tt).tup k, _, upd_same, ?_⟩
          exact ArmA.snoc (x := ((Str.ofString "left", List.replicate S.length 114), .node (.node l la) lb)) (k _ _ g4) (k _ _ (t4 _ _ (t3 _ _ (t2 _ _ g1)))) (pt.tup k) ((am.tup (.of tt)).tup k)
      · rintro H7 _ ⟨as, ql, qr, wm, hm, am⟩
        have ml := mkL_len S.length l r
        have mr := mkR_len S.length l r
        have ml : (mkL S.length l r ++ mkR S.length l r).length ≤ 2 := by rw [List.length_append]; omega
        have eA := armL_node S.length (fS S) l r
        rw [show (fun x => fS S (Tr.node l x)) = fS (S ++ [l]) by funext x; exact (fS_snoc S l x).symm] at eA
        generalize mkL S.length l r ++ mkR S.length l r = M at am ml eA
        have wl := am.length
        refine ⟨_, rfl, pm, rfl, ⟨_, SqL.of hm⟩, for_list (K := K) (a := pm) (xs := wm) (fun j σ H' => ∃ b7 b8 b9, σ = [some (.ref pp), some (.ref pf), some (.ref ps), some xl, some xr, some (sV (List.replicate S.length 114)), some (.ref pm), b7, b8, b9] ∧ AS H pf ps H' (L ++ (M.take j).map (fun y => (y.1, fS S y.2))) S ∧ TupK H7 H' ∧ H' pm = some (.lst wm)) ⟨b7, b8, b9, ?_, ?_, fun _ _ e => e, hm⟩ (fun j σ H' _ ⟨_, _, _, _, _, _, h⟩ => SqL.of h) ?_ ?_⟩
        · rfl
        · rw [List.take_zero, List.map_nil, List.append_nil]; exact as
        · rintro j w' σ K0 hj ⟨b7, b8, b9, rfl, ⟨sH, ⟨ws, hw, aw⟩, us, hu, pus⟩, kA, hm⟩
          have jl : j < wm.length := (List.getElem?_eq_some_iff.mp hj).1
          obtain ⟨p, q1, u, y, rfl, gy, hp, hq, pu⟩ := (am.tup kA).get hj
          simp only [gTup, gCons, gNil, gName, cxOf_K, tAsg2, tYes, wipe, tSeq, tIfS, tNot, tB, tCB, tCons, tNil, tVar, tC, tTest, tOp, tAnd, tOr, tAsg, gName, tRet, tRetN, tDrop, tNext, tIf, tCall, tTup, tLst, tNotV, tAndV, tOrV, tUn, rI0, rI, rU, rEq, rNe, tM1, tM0, tBM, tBM0, tSl, tPart, tNoPart, iStr, iEnumS, iRng1, iRng2, iList, gSub, tBits, tAug, tPar, L2.start, List.map_cons, List.map_nil, List.length_cons, List.length_nil, List.getElem?_cons_zero, List.getElem?_cons_succ, List.cons_append, List.nil_append, List.append_nil, List.set_cons_zero, List.set_cons_succ, List.replicate_succ, List.replicate_zero, Option.some.injEq, exists_eq_left', V.int.injEq, V.str.injEq, V.ref.injEq, V.bl.injEq, exists_and_left, exists_eq_left, List.cons.injEq, and_true, true_and, tCallX, tRs]
          refine ⟨_, SqT.of hp, rfl, _, _, rfl, _, _, rfl, rfl, ?_⟩
          refine ⟨_, rfl, ps, us, rfl, SqL.of hu, fun pr npr => ?_⟩
          have t1 := (L2.Same.refl K0).new npr (.lst us.reverse)
          have g1 : upd K0 pr (.lst us.reverse) pr = some (.lst us.reverse) := upd_same
          generalize upd K0 pr (.lst us.reverse) = K1 at t1 g1 ⊢
          have pr1 := (pus.tup (.of t1)).rev
          have ul := pus.len
          refine ⟨pr, rfl, ⟨_, SqL.of g1⟩, for_list (K := K) (a := pr) (xs := us.reverse) (fun i σ H' => ∃ x8 b9, σ = [some (.ref pp), some (.ref pf), some (.ref ps), some xl, some xr, some (sV (List.replicate S.length 114)), some (.ref pm), some (.ref q1), some x8, b9] ∧ Same K1 H' ∧ PT H' x8 (fS (S.drop (S.length - i)) y.2)) ⟨u, b9, rfl, .refl K1, ?_⟩ (fun j σ H' _ ⟨_, _, _, z, _⟩ => SqL.of (z _ _ g1)) ?_ ?_⟩
          · rw [Nat.sub_zero, List.drop_length]
            exact pu.same t1
          · rintro i v σ K2 hi ⟨x8, b9, rfl, s2, p8⟩
            obtain ⟨t1', gt, pv⟩ := pr1.at hi
            simp only [gName, cxOf_K, tAsg2, tYes, wipe, tSeq, tIfS, tNot, tB, tCB, tCons, tNil, tVar, tC, tTest, tOp, tAnd, tOr, tAsg, gName, tRet, tRetN, tDrop, tNext, tIf, tCall, tTup, tLst, tNotV, tAndV, tOrV, tUn, rI0, rI, rU, rEq, rNe, tM1, tM0, tBM, tBM0, tSl, tPart, tNoPart, iStr, iEnumS, iRng1, iRng2, iList, gSub, tBits, tAug, tPar, L2.start, List.map_cons, List.map_nil, List.length_cons, List.length_nil, List.getElem?_cons_zero, List.getElem?_cons_succ, List.cons_append, List.nil_append, List.append_nil, List.set_cons_zero, List.set_cons_succ, List.replicate_succ, List.replicate_zero, Option.some.injEq, exists_eq_left', V.int.injEq, V.str.injEq, V.ref.injEq, V.bl.injEq, exists_and_left, exists_eq_left, List.cons.injEq, and_true, true_and, tCallX, tRs]
            refine ⟨by decide, fun q2 nq2 => ⟨_, _, ⟨rfl, rfl⟩, s2.trans ((L2.Same.refl K2).new nq2 _), ?_⟩⟩
            have n2 := (L2.Same.refl K2).new nq2 (.tup [v, x8])
            show PT _ _ ((S.drop (S.length - (i + 1))).foldr Tr.node y.2)
            rw [fS_rev gt]
            exact .node upd_same ((pv.same s2).same n2) (p8.same n2)
          · rintro σ K2 ⟨x8, b9, rfl, s2, p8⟩
            simp only [cxOf_K, tAsg2, tYes, wipe, tSeq, tIfS, tNot, tB, tCB, tCons, tNil, tVar, tC, tTest, tOp, tAnd, tOr, tAsg, gName, tRet, tRetN, tDrop, tNext, tIf, tCall, tTup, tLst, tNotV, tAndV, tOrV, tUn, rI0, rI, rU, rEq, rNe, tM1, tM0, tBM, tBM0, tSl, tPart, tNoPart, iStr, iEnumS, iRng1, iRng2, iList, gSub, tBits, tAug, tPar, L2.start, List.map_cons, List.map_nil, List.length_cons, List.length_nil, List.getElem?_cons_zero, List.getElem?_cons_succ, List.cons_append, List.nil_append, List.append_nil, List.set_cons_zero, List.set_cons_succ, List.replicate_succ, List.replicate_zero, Option.some.injEq, exists_eq_left', V.int.injEq, V.str.injEq, V.ref.injEq, V.bl.injEq, exists_and_left, exists_eq_left, List.cons.injEq, and_true, true_and, tCallX, tRs]
            rw [List.length_reverse, ul, Nat.sub_self, List.drop_zero] at p8
            have tt := t1.trans s2
            refine ⟨.inl ⟨rfl, _, SqL.of (tt _ _ hw)⟩, by decide, fun q3 nq3 => ?_⟩
            have t3 := (L2.Same.refl K2).new nq3 (.tup [.ref q1, x8])
            have g3 : upd K2 q3 (.tup [.ref q1, x8]) q3 = some _ := upd_same
            generalize upd K2 q3 (.tup [.ref q1, x8]) = K3 at t3 g3 ⊢
            have tj := tt.trans t3
            have al := aw.length
            rw [List.length_append, List.length_map, List.length_take] at al
            refine ⟨pf, ws, _, rfl, rfl, tj _ _ hw, small5' (by omega), ?_⟩
            have k := TupK.upd (o := .lst (ws ++ [.ref q3])) (tj _ _ hw)
            refine ⟨_, _, _, ⟨rfl, rfl, rfl⟩, ⟨(sH.trans tj).new npf _, ⟨_, upd_same, ?_⟩, us, by rw [upd_ne pfs.symm]; exact tj _ _ hu, (pus.tup (.of tj)).tup k⟩, kA.trans ((TupK.of tj).trans k), by rw [upd_ne pfm.symm]; exact tj _ _ hm⟩
            rw [show L ++ ((M.take (j + 1)).map fun y => (y.1, fS S y.2)) = (L ++ (M.take j).map fun y => (y.1, fS S y.2)) ++ [(y.1, fS S y.2)] by rw [List.take_succ, gy]; simp]
            exact ArmA.snoc (x := (y.1, fS S y.2)) (k _ _ g3) (k _ _ (tj _ _ hq)) ((p8.same t3).tup k) ((aw.tup (.of tj)).tup k)
        · rintro σ K0 ⟨b7, b8, b9, rfl, ⟨sH, ⟨ws, hw, aw⟩, us, hu, pus⟩, kA, hm⟩
          simp only [cxOf_K, tAsg2, tYes, wipe, tSeq, tIfS, tNot, tB, tCB, tCons, tNil, tVar, tC, tTest, tOp, tAnd, tOr, tAsg, gName, tRet, tRetN, tDrop, tNext, tIf, tCall, tTup, tLst, tNotV, tAndV, tOrV, tUn, rI0, rI, rU, rEq, rNe, tM1, tM0, tBM, tBM0, tSl, tPart, tNoPart, iStr, iEnumS, iRng1, iRng2, iList, gSub, tBits, tAug, tPar, L2.start, List.map_cons, List.map_nil, List.length_cons, List.length_nil, List.getElem?_cons_zero, List.getElem?_cons_succ, List.cons_append, List.nil_append, List.append_nil, List.set_cons_zero, List.set_cons_succ, List.replicate_succ, List.replicate_zero, Option.some.injEq, exists_eq_left', V.int.injEq, V.str.injEq, V.ref.injEq, V.bl.injEq, exists_and_left, exists_eq_left, List.cons.injEq, and_true, true_and, tCallX, tRs]
          rw [wl, List.take_length] at aw
          have ul := pus.len
          refine ⟨.inl ⟨rfl, _, SqL.of hu⟩, ps, us, _, rfl, rfl, hu, small5' (by omega), ?_⟩
          have k := TupK.upd (o := .lst (us ++ [xl])) hu
          refine ⟨r.size, by omega, xr, r, L ++ M.map (fun y => (y.1, fS S y.2)), S ++ [l], _, ⟨rfl, rfl⟩, rfl, ⟨sH.new hps _, ⟨ws, by rw [upd_ne pfs]; exact hw, aw.tup k⟩, _, upd_same, PTs.snoc ((ql.tup kA).tup k) (pus.tup k)⟩, (qr.tup kA).tup k, ?_, ?_, ?_, rfl⟩
          · rw [eL, eA, List.length_append, List.length_singleton, List.append_assoc]
          · rw [fS_snoc]; exact hs
          · rw [List.length_append, List.length_append, List.length_map, List.length_singleton]; omega

theorem isA_count : ∀ a : List Nat, a.count 108 + a.count 114 ≤ a.length ∧ (isA a = true ↔ a.count 108 + a.count 114 = a.length)
  | [] => ⟨Nat.le_refl _, by simp [isA]⟩
  | c :: a => by
    obtain ⟨h1, h2⟩ := isA_count a
    have e : isA (c :: a) = ((c == 108 || c == 114) && isA a) := rfl
    rw [e, List.count_cons, List.count_cons, List.length_cons]
    by_cases h : c = 108
    · subst h
      rw [show ((108 : Nat) == 108) = true from rfl, show ((108 : Nat) == 114) = false from rfl, Bool.true_or, Bool.true_and, h2]
      simp
      omega
    · by_cases h' : c = 114
      · subst h'
        rw [show ((114 : Nat) == 108) = false from rfl, show ((114 : Nat) == 114) = true from rfl, Bool.or_true, Bool.true_and, h2]
        simp
        omega
      · have e1 : (c == 108) = false := by simp [h]
        have e2 : (c == 114) = false := by simp [h']
        rw [e1, e2]
        simp
        omega
theorem isA_dec (a : List Nat) : decide (((a.count 108 : Nat) : Int) + ((a.count 114 : Nat) : Int) = ((a.length : Nat) : Int)) = isA a := by
  obtain ⟨_, h⟩ := isA_count a
  cases e : isA a with
  | true => exact decide_eq_true (by have := h.mp e; omega)
  | false => exact decide_eq_false (fun z => by rw [h.mpr (by omega)] at e; cases e)
theorem ok_is_address (T : Txt w K mg) : FnOk P w K mg base CX0 1 T.a_is_address T.fd_is_address ["value"] (sp_is_address K) := by
  refine T.F_is_address.ok sc_is_address (fun vs H Q E h => ?_) (fun cdv A outer s H vs Q E hr h => ?_)
  · obtain ⟨v, rfl, _⟩ := h; rfl
  obtain ⟨v, rfl, h⟩ := h
  refine ⟨_, (pss_one (ps_ret (pe_and (pe_callB call_isi (by rfl) T.z_isinstance (by decide +kernel) (pa_cons (pv 0) (pa_cons (pe_bltn (v := .ty "str") (by rfl) T.z_str (by decide +kernel) rfl) pa_nil))) (pe_one (pe_cmpR op_eq (pe_op op_add (pe_m1 PySem.F.slot_str_count PySem.F.type_str_count mt_count (pv 0) pe_str) (pe_m1 PySem.F.slot_str_count PySem.F.type_str_count mt_count (pv 0) pe_str)) (pe_callB call_len_str (by rfl) T.z_len PySem.boot_len (pa_cons (pv 0) pa_nil)) (nomark _)))))), ?_⟩
  simp only [cxOf_K, tAsg2, tYes, wipe, tSeq, tIfS, tNot, tB, tCB, tCons, tNil, tVar, tC, tTest, tOp, tAnd, tOr, tAsg, gName, tRet, tRetN, tDrop, tNext, tIf, tCall, tTup, tLst, tNotV, tAndV, tOrV, tUn, rI0, rI, rU, rEq, rNe, tM1, tM0, tBM, tBM0, tSl, tPart, tNoPart, iStr, iEnumS, iRng1, iRng2, iList, gSub, tBits, tAug, tPar, L2.start, List.map_cons, List.map_nil, List.length_cons, List.length_nil, List.getElem?_cons_zero, List.getElem?_cons_succ, List.cons_append, List.nil_append, List.append_nil, List.set_cons_zero, List.set_cons_succ, List.replicate_succ, List.replicate_zero, Option.some.injEq, exists_eq_left', V.int.injEq, V.str.injEq, V.ref.injEq, V.bl.injEq, exists_and_left, exists_eq_left, List.cons.injEq, and_true, true_and, tCallX, tRs]
  rcases h with ⟨x, rfl, hx, q⟩ | ⟨⟨t, ht, hk⟩, q⟩
  · refine ⟨_, _, _, _, true, rfl, .ty _, .base (.str _), kit_ty (by decide +kernel), _, rfl, ?_⟩
    rw [if_pos rfl]
    have sl : (S x).length = x.length := S_len x
    refine ⟨⟨_, rfl⟩, S x, rfl, ⟨_, rfl⟩, S x, rfl, S x, rfl, small5 (by omega), rfl, ?_⟩
    rw [show Str.ofString "l" = S [108] by decide +kernel, show Str.ofString "r" = S [114] by decide +kernel, count_S, count_S, sl, isA_dec]
    exact q
  · refine ⟨_, _, _, _, false, rfl, .ty _, ht, hk, _, rfl, ?_⟩
    rw [if_neg Bool.false_ne_true]
    exact q

theorem okStW {n : Nat} {x : Str × List Nat} (h : okSt n x) : (kv_OTHER_WORD.lookup x.1).isSome = true := by
  rcases h.1 with e | e
  · rw [e]; decide +kernel
  · rw [e]; decide +kernel
theorem noW {z : Str} (h1 : z ≠ Str.ofString "left") (h2 : z ≠ Str.ofString "right") : (kv_OTHER_WORD.lookup z).isSome = false := by
  have e1 : (z == Str.ofString "left") = false := beq_eq_false_iff_ne.mpr h1
  have e2 : (z == Str.ofString "right") = false := beq_eq_false_iff_ne.mpr h2
  show (List.lookup z [((Str.ofString "left" : Str), (Str.ofString "right" : Str)), (Str.ofString "right", Str.ofString "left")]).isSome = false
  simp [List.lookup, e1, e2]
theorem ok_is_step (T : Txt w K mg) : FnOk P w K mg base CX0 2 T.a_is_step T.fd_is_step ["value"] (sp_is_step K) := by
  refine T.F_is_step.ok sc_is_step (fun vs H Q E h => ?_) (fun cdv A outer s H vs Q E hr h => ?_)
  · obtain ⟨v, rfl, _⟩ := h; rfl
  obtain ⟨v, rfl, h⟩ := h
  refine ⟨_, (pss_cons (ps_if (pw_or (pt_not (pt_val (pe_callB call_isi (by rfl) T.z_isinstance (by decide +kernel) (pa_cons (pv 0) (pa_cons (pe_bltn (v := .ty "tuple") (by rfl) T.z_tuple (by decide +kernel) rfl) pa_nil))))) (pw_or1 (pt_cmpR op_ne (pe_callB call_len_seq (by rfl) T.z_len PySem.boot_len (pa_cons (pv 0) pa_nil)) pe_int (nomark _)))).pt (pss_one (ps_ret pe_bl)) pss_nil)
    (pss_one (ps_ret (pe_and (pe_callB call_isi (by rfl) T.z_isinstance (by decide +kernel) (pa_cons (pe_ix ix_tup (pv 0) pe_int (fun _ _ => rfl)) (pa_cons (pe_bltn (v := .ty "str") (by rfl) T.z_str (by decide +kernel) rfl) pa_nil))) (pe_and (pe_cmpR (TD.op_inKD T.k_OTHER_WORD) (pe_ix ix_tup (pv 0) pe_int (fun _ _ => rfl)) (pe_glob (v := .ref T.d_OTHER_WORD) (by rfl) T.m_OTHER_WORD rfl) (by with_unfolding_all rfl)) (pe_one (pe_call (ok_is_address T) (hr.mono (by first | decide | omega)) (by rfl) T.m_is_address T.F_is_address.kp T.b_is_address .nil pass0 (pa_cons (pe_ix ix_tup (pv 0) pe_int (fun _ _ => rfl)) pa_nil)))))))), ?_⟩
  simp only [cxOf_K, tAsg2, tYes, wipe, tSeq, tIfS, tNot, tB, tCB, tCons, tNil, tVar, tC, tTest, tOp, tAnd, tOr, tAsg, gName, tRet, tRetN, tDrop, tNext, tIf, tCall, tTup, tLst, tNotV, tAndV, tOrV, tUn, rI0, rI, rU, rEq, rNe, tM1, tM0, tBM, tBM0, tSl, tPart, tNoPart, iStr, iEnumS, iRng1, iRng2, iList, gSub, tBits, tAug, tPar, L2.start, List.map_cons, List.map_nil, List.length_cons, List.length_nil, List.getElem?_cons_zero, List.getElem?_cons_succ, List.cons_append, List.nil_append, List.append_nil, List.set_cons_zero, List.set_cons_succ, List.replicate_succ, List.replicate_zero, Option.some.injEq, exists_eq_left', V.int.injEq, V.str.injEq, V.ref.injEq, V.bl.injEq, exists_and_left, exists_eq_left, List.cons.injEq, and_true, true_and, tCallX, tRs]
  rcases h with ⟨⟨p, x, rfl, hp, ok⟩, q⟩ | ⟨ns, q⟩
  · refine ⟨_, _, _, _, true, rfl, .ty _, .base (.tup hp), kit_ty (by decide +kernel), true, rfl, ?_⟩
    rw [if_neg (by decide)]
    refine ⟨p, rfl, _, .inr (SqT.of hp), rfl, ?_⟩
    rw [if_neg (by simp)]
    refine ⟨p, _, _, _, rfl, rfl, SqT.of hp, atI_nat (j := 0) rfl, _, _, _, _, true, rfl, .ty _, .base (.str _), kit_ty (by decide +kernel), _, rfl, ?_⟩
    rw [if_pos rfl]
    refine ⟨p, _, _, _, rfl, rfl, SqT.of hp, atI_nat (j := 0) rfl, _, rfl, rfl, _, rfl, ?_⟩
    rw [okStW ok, if_pos rfl]
    refine ⟨p, _, _, _, rfl, rfl, SqT.of hp, atI_nat (j := 1) rfl, _, rfl, .inl ⟨x.2, rfl, by have := ok.2.2; omega, ?_⟩⟩
    rw [ok.2.1]
    exact q
  · rcases ns with ⟨ty, h1, h2⟩ | ⟨p, ws, rfl, hp, hl⟩ | ⟨p, x, y, rfl, hp, r⟩
    · refine ⟨v, _, ty, _, false, rfl, .ty _, h1, h2, false, rfl, ?_⟩
      rw [if_pos (by decide), if_pos (by decide)]
      exact q
    · refine ⟨_, _, _, _, true, rfl, .ty _, .base (.tup hp), kit_ty (by decide +kernel), true, rfl, ?_⟩
      rw [if_neg (by decide)]
      refine ⟨p, rfl, _, .inr (SqT.of hp), rfl, ?_⟩
      rw [if_pos (by rw [decide_eq_false (by omega)]; rfl)]
      exact q
    · refine ⟨_, _, _, _, true, rfl, .ty _, .base (.tup hp), kit_ty (by decide +kernel), true, rfl, ?_⟩
      rw [if_neg (by decide)]
      refine ⟨p, rfl, _, .inr (SqT.of hp), rfl, ?_⟩
      rw [if_neg (by simp)]
      rcases r with ⟨ty, h1, h2⟩ | ⟨z, rfl, n1, n2⟩ | ⟨hx, na⟩
      · refine ⟨p, _, _, _, rfl, rfl, SqT.of hp, atI_nat (j := 0) rfl, _, _, _, _, false, rfl, .ty _, h1, h2, _, rfl, ?_⟩
        rw [if_neg Bool.false_ne_true]
        exact q
      · refine ⟨p, _, _, _, rfl, rfl, SqT.of hp, atI_nat (j := 0) rfl, _, _, _, _, true, rfl, .ty _, .base (.str _), kit_ty (by decide +kernel), _, rfl, ?_⟩
        rw [if_pos rfl]
        refine ⟨p, _, _, _, rfl, rfl, SqT.of hp, atI_nat (j := 0) rfl, _, rfl, rfl, _, rfl, ?_⟩
        rw [noW n1 n2, if_neg Bool.false_ne_true]
        exact q
      · obtain ⟨z, rfl, hz⟩ : ∃ z : Str, x = .str z ∧ (kv_OTHER_WORD.lookup z).isSome = true := by
          rcases hx with rfl | rfl
          · exact ⟨_, rfl, by decide +kernel⟩
          · exact ⟨_, rfl, by decide +kernel⟩
        refine ⟨p, _, _, _, rfl, rfl, SqT.of hp, atI_nat (j := 0) rfl, _, _, _, _, true, rfl, .ty _, .base (.str _), kit_ty (by decide +kernel), _, rfl, ?_⟩
        rw [if_pos rfl]
        refine ⟨p, _, _, _, rfl, rfl, SqT.of hp, atI_nat (j := 0) rfl, _, rfl, rfl, _, rfl, ?_⟩
        rw [hz, if_pos rfl]
        refine ⟨p, _, _, _, rfl, rfl, SqT.of hp, atI_nat (j := 1) rfl, _, rfl, ?_⟩
        rcases na with ⟨a, rfl, ha, hi⟩ | ns
        · refine .inl ⟨a, rfl, ha, ?_⟩
          rw [hi]
          exact q
        · exact .inr ⟨ns, q⟩

theorem Stps.get {H : Hp} : ∀ {vs : List V} {xs : List (Str × List Nat)} {i : Nat} {v : V}, Stps H vs xs → vs[i]? = some v → ∃ p x, v = .ref p ∧ xs[i]? = some x ∧ H p = some (.tup [.str x.1, sV x.2])
  | _, _, _, _, .nil, h => by simp at h
  | _, _, 0, v, @Stps.cons _ p x _ _ g t, h => ⟨p, x, by simpa using h.symm, rfl, g⟩
  | _, _, i + 1, v, .cons g t, h => by
    obtain ⟨p, x, e, h2, h3⟩ := Stps.get t (by simpa using h)
    exact ⟨p, x, e, by simpa using h2, h3⟩
theorem Stps.snoc {H : Hp} {vs : List V} {xs : List (Str × List Nat)} {p : Addr} {x : Str × List Nat} (h : Stps H vs xs) (g : H p = some (.tup [.str x.1, sV x.2])) : Stps H (vs ++ [.ref p]) (xs ++ [x]) := h.append (.cons g .nil)
theorem GoodS.isStep {H : Hp} {vs : List V} {xs : List (Str × List Nat)} (h : Stps H vs xs) (ok : ∀ x ∈ xs, okSt 3000 x) {i : Nat} {v : V} (e : vs[i]? = some v) : IsStep H v := by
  obtain ⟨p, x, rfl, h2, h3⟩ := h.get e
  exact ⟨p, x, rfl, h3, ok x (List.mem_of_getElem? h2)⟩
/-- one step more -/
theorem Stps.push {H : Hp} {D p : Addr} {us : List V} {ys : List (Str × List Nat)} {x : Str × List Nat} (hd : H D = some (.lst us)) (st : Stps H us ys) (np : H p = none) :
    Stps (upd (upd H p (.tup [.str x.1, sV x.2])) D (.lst (us ++ [.ref p]))) (us ++ [.ref p]) (ys ++ [x]) := by
  have pd : p ≠ D := fun z => by rw [z, hd] at np; cases np
  refine Stps.snoc (st.mono fun b vs hb => ?_) ?_
  · have b1 : b ≠ D := fun z => by rw [z, hd] at hb; cases hb
    have b2 : b ≠ p := fun z => by rw [z, np] at hb; cases hb
    rw [upd_ne b1, upd_ne b2]
    exact hb
  · rw [upd_ne pd, upd_same]
/-- what a turn of a comprehension that makes steps must show -/
theorem stepTail {H0 H2 : Hp} {D p2 : Addr} {us : List V} {ys : List (Str × List Nat)} {y : Str × List Nat} {i : Nat} (hD0 : H0 D = none) (s2 : Same H0 H2) (hd : H2 D = some (.lst us)) (ul : us.length = i) (su : Stps H2 us (ys.take i)) (hy : ys[i]? = some y) (hi : i ≤ 10000) (np : H2 p2 = none) :
    ∃ acc, upd H2 p2 (.tup [.str y.1, sV y.2]) D = some (.lst acc) ∧ acc.length < sizeLine ∧ Same H0 (upd (upd H2 p2 (.tup [.str y.1, sV y.2])) D (.lst (acc ++ [.ref p2]))) ∧
      ∃ us, upd (upd H2 p2 (.tup [.str y.1, sV y.2])) D (.lst (acc ++ [.ref p2])) D = some (.lst us) ∧ us.length = i + 1 ∧ Stps (upd (upd H2 p2 (.tup [.str y.1, sV y.2])) D (.lst (acc ++ [.ref p2]))) us (ys.take (i + 1)) := by
  have pD : p2 ≠ D := fun z => by rw [z, hd] at np; cases np
  refine ⟨us, by rw [upd_ne pD.symm]; exact hd, small5' (by omega), (s2.new (s2.free np) _).new hD0 _, us ++ [.ref p2], upd_same, by simp [ul], ?_⟩
  rw [List.take_succ, hy]
  exact Stps.push hd su np
theorem wordLen {n : Nat} {x : Str × List Nat} (h : okSt n x) : x.1.length ≤ 5 := by
  rcases h.1 with e | e
  · rw [e]; decide +kernel
  · rw [e]; decide +kernel
theorem ok_checked_script (T : Txt w K mg) : FnOk P w K mg base (L2.CX P w) 4 T.a_checked_script T.fd_checked_script ["steps"] (sp_checked_script T) := by
  refine T.F_checked_script.okX sc_checked_script (fun vs H Q E h => ?_) (fun cdv A outer s H vs Q E hr h => ?_)
  · obtain ⟨v, rfl, _⟩ := h; rfl
  obtain ⟨v, rfl, h⟩ := h
  refine ⟨_, (pss_cons (ps_if (pw_or (pt_not (pt_val (pe_callB call_isi (by rfl) T.z_isinstance (by decide +kernel) (pa_cons (pv 0) (pa_cons (pe_bltn (v := .ty "list") (by rfl) T.z_list (by decide +kernel) rfl) pa_nil))))) (pw_or1 (pt_not (pt_val (pe_callB (cr_all rfl) (by rfl) T.z_all (by decide +kernel) (pa_cons (pe_lc (own := [("step", 1)]) rfl sc_checked_script.nd (pi_list (pv 0)) (blkOk_by (own := [("step", 1)]) (N := nm_checked_script) (sc := defScope s_checked_script) (by decide +kernel)) (fun _ _ _ _ _ => by exact (pg_name (i := 1) sc_checked_script.nd rfl (by first | exact Or.inl rfl | exact Or.inr rfl))) (fun _ _ _ _ _ => by exact pts_nil) (fun _ _ _ _ _ => by exact (pe_call (ok_is_step T) (hr.mono (by first | decide | omega)) (by rfl) T.m_is_step T.F_is_step.kp T.b_is_step .nil pass0 (pa_cons (pv 1) pa_nil)))) pa_nil)))))).pt (pss_one (ps_raise rfl (takes_of rfl rfl rfl rfl) (pmk_err T.o_InvalidScript (hr.mono (by first | decide | omega)) (by rfl) (pv 0)))) pss_nil)
    (pss_one (ps_ret (pe_lc (own := [("word", 2), ("address", 3)]) rfl sc_checked_script.nd (pi_list (pv 0)) (blkOk_by (own := [("word", 2), ("address", 3)]) (N := nm_checked_script) (sc := defScope s_checked_script) (by decide +kernel)) (fun _ _ _ _ _ => by exact (show L2.PG _ _ (gTup K 2 _) from (pg_tup rfl (pgs_cons (pg_name (i := 2) sc_checked_script.nd rfl (by first | exact Or.inl rfl | exact Or.inr rfl)) (pgs_cons (pg_name (i := 3) sc_checked_script.nd rfl (by first | exact Or.inl rfl | exact Or.inr rfl)) pgs_nil))))) (fun _ _ _ _ _ => by exact pts_nil) (fun _ _ _ _ _ => by exact (pe_tup (pa_cons (pe_slice sl_str (pv 2) po_none po_none) (pa_cons (pe_slice sl_str (pv 3) po_none po_none) pa_nil)))))))), ?_⟩
  simp only [cxOf_K, tAsg2, tYes, wipe, tSeq, tIfS, tNot, tB, tCB, tCons, tNil, tVar, tC, tTest, tOp, tAnd, tOr, tAsg, gName, tRet, tRetN, tDrop, tNext, tIf, tCall, tTup, tLst, tNotV, tAndV, tOrV, tUn, rI0, rI, rU, rEq, rNe, tM1, tM0, tBM, tBM0, tSl, tPart, tNoPart, iStr, iEnumS, iRng1, iRng2, iList, gSub, tBits, tAug, tPar, L2.start, List.map_cons, List.map_nil, List.length_cons, List.length_nil, List.getElem?_cons_zero, List.getElem?_cons_succ, List.cons_append, List.nil_append, List.append_nil, List.set_cons_zero, List.set_cons_succ, List.replicate_succ, List.replicate_zero, Option.some.injEq, exists_eq_left', V.int.injEq, V.str.injEq, V.ref.injEq, V.bl.injEq, exists_and_left, exists_eq_left, List.cons.injEq, and_true, true_and, tCallX, tRs]
  rcases h with ⟨xs, ⟨a, ws, rfl, ha, st, hl, ok⟩, q⟩ | ⟨⟨ty, h1, h2⟩ | ⟨a, ws, rfl, ha, hl, al, u0, hu0, nu0⟩, out⟩
  · refine ⟨_, _, _, _, true, rfl, .ty _, .base (.lst ha), kit_ty (by decide +kernel), true, rfl, ?_⟩
    rw [if_neg (by decide)]
    refine ⟨_, rfl, a, rfl, ⟨_, SqL.of ha⟩, fun D hD => ?_⟩
    refine lc_list (K := K) (a := a) (xs := ws) (fun i H' => Same H H' ∧ H' D = some (.lst ((List.replicate i true).map V.bl))) ⟨(L2.Same.refl H).new hD _, upd_same⟩ (fun i H' _ hp => SqL.of (hp.1 _ _ ha)) ?_ ?_
    · rintro i x H' hi ⟨s0, hd⟩
      have hil : i < ws.length := (List.getElem?_eq_some_iff.mp hi).1
      simp only [cxOf_K, tAsg2, tYes, wipe, tSeq, tIfS, tNot, tB, tCB, tCons, tNil, tVar, tC, tTest, tOp, tAnd, tOr, tAsg, gName, tRet, tRetN, tDrop, tNext, tIf, tCall, tTup, tLst, tNotV, tAndV, tOrV, tUn, rI0, rI, rU, rEq, rNe, tM1, tM0, tBM, tBM0, tSl, tPart, tNoPart, iStr, iEnumS, iRng1, iRng2, iList, gSub, tBits, tAug, tPar, L2.start, List.map_cons, List.map_nil, List.length_cons, List.length_nil, List.getElem?_cons_zero, List.getElem?_cons_succ, List.cons_append, List.nil_append, List.append_nil, List.set_cons_zero, List.set_cons_succ, List.replicate_succ, List.replicate_zero, Option.some.injEq, exists_eq_left', V.int.injEq, V.str.injEq, V.ref.injEq, V.bl.injEq, exists_and_left, exists_eq_left, List.cons.injEq, and_true, true_and, tCallX, tRs]
      rw [if_pos True.intro]
      refine ⟨_, rfl, .inl ⟨(GoodS.isStep st ok hi).same s0, ?_⟩⟩
      refine ⟨_, hd, by simp; exact small5' (by omega), s0.new hD _, ?_⟩
      rw [upd_same]
      show _ = some (HO.lst ((List.replicate (i + 1) true).map V.bl))
      rw [List.replicate_succ', List.map_append]; rfl
    · rintro H' ⟨s0, hd⟩
      refine ⟨D, List.replicate ws.length true, rfl, SqL.of hd, true, by simp, ?_⟩
      refine iteF ?_
      have ha' := s0 _ _ ha
      refine ⟨_, rfl, a, rfl, ⟨_, SqL.of ha'⟩, fun D2 hD2 => ?_⟩
      refine lc_list (K := K) (a := a) (xs := ws) (fun i H2 => Same H' H2 ∧ ∃ us, H2 D2 = some (.lst us) ∧ us.length = i ∧ Stps H2 us (xs.take i)) ⟨(L2.Same.refl H').new hD2 _, [], upd_same, rfl, .nil⟩ (fun i H2 _ hp => SqL.of (hp.1 _ _ ha')) ?_ ?_
      · rintro i x H2 hi ⟨s2, us, hd2, ul, su⟩
        have hil : i < ws.length := (List.getElem?_eq_some_iff.mp hi).1
        obtain ⟨p, x, rfl, hx, hp⟩ := st.get hi
        have hp2 := s2 _ _ (s0 _ _ hp)
        have okx := ok x (List.mem_of_getElem? hx)
        simp only [gTup, gCons, gNil, cxOf_K, tAsg2, tYes, wipe, tSeq, tIfS, tNot, tB, tCB, tCons, tNil, tVar, tC, tTest, tOp, tAnd, tOr, tAsg, gName, tRet, tRetN, tDrop, tNext, tIf, tCall, tTup, tLst, tNotV, tAndV, tOrV, tUn, rI0, rI, rU, rEq, rNe, tM1, tM0, tBM, tBM0, tSl, tPart, tNoPart, iStr, iEnumS, iRng1, iRng2, iList, gSub, tBits, tAug, tPar, L2.start, List.map_cons, List.map_nil, List.length_cons, List.length_nil, List.getElem?_cons_zero, List.getElem?_cons_succ, List.cons_append, List.nil_append, List.append_nil, List.set_cons_zero, List.set_cons_succ, List.replicate_succ, List.replicate_zero, Option.some.injEq, exists_eq_left', V.int.injEq, V.str.injEq, V.ref.injEq, V.bl.injEq, exists_and_left, exists_eq_left, List.cons.injEq, and_true, true_and, tCallX, tRs]
        refine ⟨_, SqT.of hp2, rfl, _, _, rfl, _, _, rfl, rfl, ?_⟩
        rw [if_pos True.intro]
        refine ⟨_, rfl, small5 (by have := wordLen okx; omega), ?_⟩
        rw [cutAll]
        refine ⟨_, rfl, small5 (by rw [S_len]; have := okx.2.2; omega), ?_⟩
        rw [cutAll]
        refine ⟨by decide, fun p2 np2 => ?_⟩
        exact stepTail hD2 s2 hd2 ul su hx (by omega) np2
      · rintro H2 ⟨s2, us, hd2, ul, su⟩
        rw [List.take_of_length_le (Nat.le_of_eq st.length.symm)] at su
        exact q D2 us H2 (s0.free hD2) (s0.trans s2) hd2 su
  · refine ⟨v, _, ty, _, false, rfl, .ty _, h1, h2, false, rfl, ?_⟩
    rw [if_pos (show (!false) = true from rfl), if_pos True.intro]
    exact out
  · refine ⟨_, _, _, _, true, rfl, .ty _, .base (.lst ha), kit_ty (by decide +kernel), true, rfl, ?_⟩
    rw [if_neg (by decide)]
    refine ⟨_, rfl, a, rfl, ⟨_, SqL.of ha⟩, fun D hD => ?_⟩
    refine lc_list (K := K) (a := a) (xs := ws) (fun i H' => Same H H' ∧ ∃ bs : List Bool, bs.length = i ∧ H' D = some (.lst (bs.map V.bl)) ∧ ∀ k u, k < i → ws[k]? = some u → NotStep K H u → bs[k]? = some false) ⟨(L2.Same.refl H).new hD _, [], rfl, upd_same, fun k u h => by omega⟩ (fun i H' _ hp => SqL.of (hp.1 _ _ ha)) ?_ ?_
    · rintro i x H' hi ⟨s0, bs, hb, hd, no⟩
      have hil : i < ws.length := (List.getElem?_eq_some_iff.mp hi).1
      have fin : ∀ b : Bool, (NotStep K H x → b = false) → ∃ acc, H' D = some (.lst acc) ∧ acc.length < sizeLine ∧ Same H (upd H' D (.lst (acc ++ [V.bl b]))) ∧
          ∃ bs : List Bool, bs.length = i + 1 ∧ upd H' D (.lst (acc ++ [V.bl b])) D = some (.lst (bs.map V.bl)) ∧ ∀ k u, k < i + 1 → ws[k]? = some u → NotStep K H u → bs[k]? = some false := fun b nb => by
        refine ⟨_, hd, by rw [List.length_map]; exact small5' (by omega), s0.new hD _, bs ++ [b], by simp [hb], by rw [upd_same]; simp, fun k u hk hu nu => ?_⟩
        by_cases l : k < i
        · rw [List.getElem?_append_left (by omega)]
          exact no k u l hu nu
        · have ek : k = i := by omega
          subst ek
          rw [hi] at hu
          cases hu
          rw [nb nu, List.getElem?_append_right (by omega), hb, Nat.sub_self]
          rfl
      simp only [cxOf_K, tAsg2, tYes, wipe, tSeq, tIfS, tNot, tB, tCB, tCons, tNil, tVar, tC, tTest, tOp, tAnd, tOr, tAsg, gName, tRet, tRetN, tDrop, tNext, tIf, tCall, tTup, tLst, tNotV, tAndV, tOrV, tUn, rI0, rI, rU, rEq, rNe, tM1, tM0, tBM, tBM0, tSl, tPart, tNoPart, iStr, iEnumS, iRng1, iRng2, iList, gSub, tBits, tAug, tPar, L2.start, List.map_cons, List.map_nil, List.length_cons, List.length_nil, List.getElem?_cons_zero, List.getElem?_cons_succ, List.cons_append, List.nil_append, List.append_nil, List.set_cons_zero, List.set_cons_succ, List.replicate_succ, List.replicate_zero, Option.some.injEq, exists_eq_left', V.int.injEq, V.str.injEq, V.ref.injEq, V.bl.injEq, exists_and_left, exists_eq_left, List.cons.injEq, and_true, true_and, tCallX, tRs]
      rw [if_pos True.intro]
      by_cases ns : NotStep K H x
      · exact ⟨_, rfl, .inr ⟨ns.same s0, fin false fun _ => rfl⟩⟩
      · exact ⟨_, rfl, .inl ⟨((al x (List.mem_of_getElem? hi)).resolve_right ns).same s0, fin true fun z => absurd z ns⟩⟩
    · rintro H' ⟨s0, bs, hb, hd, no⟩
      obtain ⟨k, hk, ek⟩ := List.mem_iff_getElem.mp hu0
      have nk := no k u0 hk (by rw [List.getElem?_eq_getElem hk, ek]) nu0
      have hf : bs.all id = false := by
        cases e : bs.all id with
        | false => rfl
        | true => exact absurd (List.all_eq_true.mp e false (List.mem_of_getElem? nk)) Bool.false_ne_true
      refine ⟨D, bs, rfl, SqL.of hd, false, by simpa using hf, ?_⟩
      refine iteT ?_
      exact Out.same out s0

theorem okSt.mono {n m : Nat} {x : Str × List Nat} (h : okSt n x) (l : n ≤ m) : okSt m x := ⟨h.1, h.2.1, by have := h.2.2; omega⟩
/-- steps as plain data -/
def stD (x : Str × List Nat) : PyData := .tuple [.str x.1, .str (S x.2)]
theorem okWord {n : Nat} {x : Str × List Nat} (h : okSt n x) : PyData.strOk x.1 = true ∧ PyData.strOk (S x.2) = true := by
  refine ⟨?_, okL x.2 fun c hc => ?_⟩
  · rcases h.1 with e | e
    · rw [e]; decide +kernel
    · rw [e]; decide +kernel
  · have := List.all_eq_true.mp h.2.1 c hc
    simp only [Bool.or_eq_true, beq_iff_eq] at this
    omega
theorem Stps.dp {H : Hp} : ∀ {ws : List V} {xs : List (Str × List Nat)}, Stps H ws xs → DpAll K H ws (xs.map stD)
  | _, _, .nil => .nil
  | _, _, .cons a b => .cons (.tup (SqT.of a) (.cons (.str _) (.cons (.str _) .nil))) (Stps.dp b)
theorem stLay : ∀ xs : List (Str × List Nat), (∀ x ∈ xs, ∃ n, okSt n x) → PyData.canLayAll0 (xs.map stD) = true
  | [], _ => by simp [PyData.canLayAll0]
  | x :: xs, h => by
    obtain ⟨n, hn⟩ := h x (List.mem_cons_self ..)
    obtain ⟨h1, h2⟩ := okWord hn
    simp only [List.map_cons, PyData.canLayAll0, stD, PyData.canLay0, h1, h2, stLay xs fun y hy => h y (List.mem_cons_of_mem _ hy)]
    rfl
theorem stDep : ∀ xs : List (Str × List Nat), PyData.depthAll (xs.map stD) ≤ 1
  | [] => by simp [PyData.depthAll]
  | x :: xs => by
    have := stDep xs
    simp only [List.map_cons, PyData.depthAll, stD, PyData.depth]
    omega
theorem stEq : ∀ xs : List (Str × List Nat), PyData.eqvAll (xs.map stD) (xs.map stD) = true
  | [] => by simp [PyData.eqvAll]
  | x :: xs => by
    simp only [List.map_cons, PyData.eqvAll, stD, PyData.eqv, stEq xs, beq_self_eq_true]
    rfl
theorem stShaped {xs : List (Str × List Nat)} (h : ∀ x ∈ xs, ∃ n, okSt n x) : SeqAt.shaped (.list (xs.map stD)) = true := by
  unfold SeqAt.shaped
  have := stDep xs
  simp only [PyData.canLay0, PyData.depth, stLay xs h]
  simp
  omega
theorem neSt {H : Hp} {a b : Addr} {us ws : List V} {xs : List (Str × List Nat)} {Q : VK} (h : ∀ x ∈ xs, ∃ n, okSt n x) (ha : H a = some (.lst us)) (sa : Stps H us xs) (hb : H b = some (.lst ws)) (sb : Stps H ws xs) (q : Q (.bl false) H) : rNeD K (.ref a) (.ref b) H Q := by
  refine ⟨_, _, .lst (SqL.of ha) sa.dp, .lst (SqL.of hb) sb.dp, stShaped h, stShaped h, ?_⟩
  rw [show PyData.eqv (.list (xs.map stD)) (.list (xs.map stD)) = true by simp only [PyData.eqv, stEq xs]]
  exact q

theorem armL_short (w : Str) : ∀ (t : Tr) (k n : Nat) (f : Tr → Tr), n < k → (armL k f t).filter (fun y => decide (y.1 = (w, List.replicate n 114))) = []
  | .leaf, _, _, _, _ => rfl
  | .node l r, k, n, f, h => by
    have ne : ∀ v : Str, ¬ ((v, List.replicate k 114) : Str × List Nat) = (w, List.replicate n 114) := fun v e => by
      have := congrArg (fun z : Str × List Nat => z.2.length) e
      simp only [List.length_replicate] at this
      omega
    have ih := armL_short w r (k + 1) n (fun x => f (.node l x)) (by omega)
    have z : (((mkL k l r) ++ (mkR k l r)).map (fun y => (y.1, f y.2))).filter (fun y => decide (y.1 = (w, List.replicate n 114))) = [] := by
      cases l <;> cases r <;> simp [mkL, mkR] <;> grind
    rw [armL_node, List.filter_append, ih, z]; rfl
theorem armL_find {w : Str} (hw : w = Str.ofString "left" ∨ w = Str.ofString "right") : ∀ (t : Tr) (k j : Nat) (f : Tr → Tr), (armL k f t).filter (fun y => decide (y.1 = (w, List.replicate (k + j) 114))) = match stepB (decide (w = Str.ofString "right")) (List.replicate j 114) t with | none => [] | some s => [((w, List.replicate (k + j) 114), f s)]
  | .leaf, k, j, f => by rw [stepB_leaf]; rfl
  | .node l r, k, 0, f => by
    have sh := armL_short w r (k + 1) k (fun x => f (.node l x)) (by omega)
    rw [Nat.add_zero, List.replicate_zero, stepB_nil, armL_node, List.filter_append, sh, List.append_nil]
    have lr : ¬ Str.ofString "left" = Str.ofString "right" := by decide +kernel
    have rl : ¬ Str.ofString "right" = Str.ofString "left" := by decide +kernel
    rcases hw with rfl | rfl
    · rw [decide_eq_false lr]
      cases l <;> cases r <;> simp [mkL, mkR, turnB, turnL, rl]
    · rw [decide_eq_true rfl]
      cases l <;> cases r <;> simp [mkL, mkR, turnB, turnR, lr]
  | .node l r, k, j + 1, f => by
    have ih := armL_find hw r (k + 1) j (fun x => f (.node l x))
    have ne : ∀ v : Str, ¬ ((v, List.replicate k 114) : Str × List Nat) = (w, List.replicate (k + (j + 1)) 114) := fun v e => by
      have := congrArg (fun z : Str × List Nat => z.2.length) e
      simp only [List.length_replicate] at this
      omega
    have z : (((mkL k l r) ++ (mkR k l r)).map (fun y => (y.1, f y.2))).filter (fun y => decide (y.1 = (w, List.replicate (k + (j + 1)) 114))) = [] := by
      cases l <;> cases r <;> simp [mkL, mkR] <;> grind
    rw [show k + 1 + j = k + (j + 1) by omega] at ih
    rw [armL_node, List.filter_append, ih, z, List.nil_append]
    rw [show List.replicate (j + 1) 114 = 114 :: List.replicate j 114 from rfl, stepB_cons, if_neg (by decide)]
    cases stepB (decide (w = Str.ofString "right")) (List.replicate j 114) r <;> rfl
theorem armL_ok : ∀ (t : Tr) (k : Nat) (f : Tr → Tr), (armL k f t).length ≤ 2 * t.size ∧ ∀ y ∈ armL k f t, (y.1.1 = Str.ofString "left" ∨ y.1.1 = Str.ofString "right") ∧ ∃ j, y.1.2 = List.replicate j 114
  | .leaf, k, f => ⟨Nat.zero_le _, fun y h => nomatch h⟩
  | .node l r, k, f => by
    obtain ⟨h1, h2⟩ := armL_ok r (k + 1) (fun x => f (.node l x))
    have ml := mkL_len k l r
    have mr := mkR_len k l r
    rw [armL_node]
    refine ⟨?_, fun y hy => ?_⟩
    · rw [List.length_append, List.length_map, List.length_append]
      simp only [Tr.size]
      omega
    · rcases List.mem_append.mp hy with h | h
      · obtain ⟨z, hz, rfl⟩ := List.mem_map.mp h
        rcases List.mem_append.mp hz with g | g
        · cases l with
          | leaf => cases g
          | node a b => rw [List.mem_singleton.mp g]; exact ⟨.inr rfl, k, rfl⟩
        · cases r with
          | leaf => cases g
          | node a b => rw [List.mem_singleton.mp g]; exact ⟨.inl rfl, k, rfl⟩
      · exact h2 y h
theorem okRep {w : Str} (hw : w = Str.ofString "left" ∨ w = Str.ofString "right") (j : Nat) : okSt j (w, List.replicate j 114) :=
  ⟨hw, by unfold isA; rw [List.all_eq_true]; intro c hc; rw [List.eq_of_mem_replicate hc]; rfl, by simp⟩
theorem eqSp {H : Hp} {p r : Addr} {x y : Str × List Nat} {Q : VK} (hx : ∃ n, okSt n x) (hy : ∃ n, okSt n y) (hp : H p = some (.tup [.str x.1, sV x.2])) (hr : H r = some (.tup [.str y.1, sV y.2])) (q : Q (.bl (decide (x = y))) H) : rEqD K (.ref p) (.ref r) H Q := by
  have sh : ∀ z : Str × List Nat, (∃ n, okSt n z) → SeqAt.shaped (stD z) = true := fun z ⟨n, hz⟩ => by
    obtain ⟨h1, h2⟩ := okWord hz
    unfold SeqAt.shaped
    simp [stD, PyData.canLay0, PyData.canLayAll0, PyData.depth, PyData.depthAll, h1, h2]
  refine ⟨stD x, stD y, .tup (SqT.of hp) (.cons (.str _) (.cons (.str _) .nil)), .tup (SqT.of hr) (.cons (.str _) (.cons (.str _) .nil)), sh x hx, sh y hy, ?_⟩
  have e : PyData.eqv (stD x) (stD y) = decide (x = y) := by
    obtain ⟨a, b⟩ := x
    obtain ⟨c, d⟩ := y
    have ss : (S b = S d) = (b = d) := propext ⟨S_inj, fun z => by rw [z]⟩
    simp only [stD, PyData.eqv, PyData.eqvAll, Prod.mk.injEq]
    by_cases h1 : a = c <;> by_cases h2 : b = d <;> simp [h1, h2, ss]
  rw [e]; exact q
theorem eqOne {H : Hp} {a b : Addr} {u : V} {t : Tr} {Q : VK} (hu : PT H u t) (ht : Tr.hgt t ≤ 61) (ha : H a = some (.lst [u])) (hb : H b = some (.lst [])) (q : Q (.bl false) H) : rEqD K (.ref a) (.ref b) H Q := by
  refine ⟨.list [tD t], .list [], .lst (SqL.of ha) (.cons hu.dp .nil), .lst (SqL.of hb) .nil, ?_, by decide, ?_⟩
  · unfold SeqAt.shaped
    simp only [PyData.canLay0, PyData.canLayAll0, PyData.depth, PyData.depthAll, tD_lay, tD_depth]
    simp
    omega
  · rw [show PyData.eqv (.list [tD t]) (.list []) = false by simp [PyData.eqv, PyData.eqvAll]]; exact q
theorem ok_law_led (T : Txt w K mg) : FnD P w K mg base CX0 150 3 T.a_law_led T.fd_law_led ["_law_nest_here", "_law_script"] (sp_law_led K) := by
  refine okD T.F_law_led sc_law_led (fun vs H Q E h => ?_) (fun cdv A outer s H vs Q E hr h => ?_)
  · obtain ⟨_, _, _, _, _, _, rfl, _⟩ := h; rfl
  obtain ⟨v, a, t, s', ws, xs, rfl, hv, hz, ha, hx, hj, hr0, q⟩ := h
  have hru := hr.room.units
  refine ⟨_, (pss_cons (ps_for PassesOwn.never rfl (pi_list (pv 1)) (pg_tup rfl (pgs_cons (pg_name (i := 2) sc_law_led.nd rfl (by first | exact Or.inl rfl | exact Or.inr rfl)) (pgs_cons (pg_name (i := 3) sc_law_led.nd rfl (by first | exact Or.inl rfl | exact Or.inr rfl)) pgs_nil))) (pss_cons (ps_if (pt_cmpR (op_neD hru) (pe_lc (own := [("_law_sign", 4)]) rfl sc_law_led.nd (pi_str (pv 3)) (blkOk_by (own := [("_law_sign", 4)]) (N := nm_law_led) (sc := defScope s_law_led) (by decide +kernel)) (fun _ _ _ _ _ => by exact (pg_name (i := 4) sc_law_led.nd rfl (by first | exact Or.inl rfl | exact Or.inr rfl))) (fun _ _ _ _ _ => by exact (pts_one (pt_cmpR op_ne (pv 4) pe_str (nomark _)))) (fun _ _ _ _ _ => by exact (pv 4))) (pe_lst pa_nil) (nomark _)) (pss_one (ps_ret pe_non)) pss_nil)
    (pss_cons (ps_setLc (i := 5) (own := [("_law_step", 6), ("_law_other", 7)]) rfl sc_law_led.nd rfl rfl (sw_true rfl rfl rfl (by decide +kernel)) (pi_list (pe_call (ok_law_arm T) (hr.room.mono (by first | decide | omega)) (by rfl) T.m_law_arm T.F_law_arm.kp T.b_law_arm .nil pass0 (pa_cons (pv 0) pa_nil))) (blkOk_by (own := [("_law_step", 6), ("_law_other", 7)]) (N := nm_law_led) (sc := defScope s_law_led) (by decide +kernel)) (fun _ _ _ _ _ => by exact (show L2.PG _ _ (gTup K 2 _) from (pg_tup rfl (pgs_cons (pg_name (i := 6) sc_law_led.nd rfl (by first | exact Or.inl rfl | exact Or.inr rfl)) (pgs_cons (pg_name (i := 7) sc_law_led.nd rfl (by first | exact Or.inl rfl | exact Or.inr rfl)) pgs_nil))))) (fun _ _ _ _ _ => by exact (pts_one (show L2.PT _ _ (tTest (tOp (rEqD K) _ _)) from (pt_cmpR (op_eqD hru) (pv 6) (pe_tup (pa_cons (pv 2) (pa_cons (pv 3) pa_nil))) (nomark _))))) (fun _ _ _ _ _ => by exact (pv 7)))
    (pss_cons (ps_if (pt_cmpR (op_eqD hru) (pv 5) (pe_lst pa_nil) (nomark _)) (pss_one (ps_ret pe_non)) pss_nil)
    (pss_one (ps_set (i := 0) sc_law_led.nd rfl (by first | exact Or.inl rfl | exact Or.inr rfl) (pe_ix ix_list (pv 5) pe_int (fun _ _ => rfl))))))))
    (pss_one (ps_ret (pv 0)))), ?_⟩
  simp only [cxOf_K, tAsg2, tYes, wipe, tSeq, tIfS, tNot, tB, tCB, tCons, tNil, tVar, tC, tTest, tOp, tAnd, tOr, tAsg, gName, tRet, tRetN, tDrop, tNext, tIf, tCall, tTup, tLst, tNotV, tAndV, tOrV, tUn, rI0, rI, rU, rEq, rNe, tM1, tM0, tBM, tBM0, tSl, tPart, tNoPart, iStr, iEnumS, iRng1, iRng2, iList, gSub, tBits, tAug, tPar, L2.start, List.map_cons, List.map_nil, List.length_cons, List.length_nil, List.getElem?_cons_zero, List.getElem?_cons_succ, List.cons_append, List.nil_append, List.append_nil, List.set_cons_zero, List.set_cons_succ, List.replicate_succ, List.replicate_zero, Option.some.injEq, exists_eq_left', V.int.injEq, V.str.injEq, V.ref.injEq, V.bl.injEq, exists_and_left, exists_eq_left, List.cons.injEq, and_true, true_and, tCallX, tRs]
  have wl := hx.length
  refine ⟨_, rfl, a, rfl, ⟨_, SqL.of ha⟩, for_list (K := K) (a := a) (xs := ws) (fun i σ H' => ∃ (u : V) (r : Tr) (b2 b3 b4 b5 b6 b7 : Option V), σ = [some u, some (.ref a), b2, b3, b4, b5, b6, b7] ∧ Same H H' ∧ PT H' u r ∧ r.size ≤ 60 ∧ runO ((xs.drop i).map bxs) r = some s')
    ⟨v, t, none, none, none, none, none, none, rfl, L2.Same.refl H, hv, hz, by rw [List.drop_zero]; exact hr0⟩ (fun i σ H' _ ⟨_, _, _, _, _, _, _, _, _, s1, _⟩ => SqL.of (s1 _ _ ha)) ?_ ?_⟩
  · rintro i y σ H1 hi ⟨u, r, b2, b3, b4, b5, b6, b7, rfl, s1, pu, rz, er⟩
    obtain ⟨p4, x4, rfl, hx4, hp4⟩ := hx.get hi
    obtain ⟨okx, j, hj4, j2⟩ := hj x4 (List.mem_of_getElem? hx4)
    have dr : xs.drop i = x4 :: xs.drop (i + 1) := by
      have il : i < xs.length := (List.getElem?_eq_some_iff.mp hx4).1
      rw [List.drop_eq_getElem_cons il, (List.getElem?_eq_some_iff.mp hx4).2]
    rw [dr, List.map_cons] at er
    obtain ⟨r2, hr2, er⟩ := Option.bind_eq_some_iff.mp (show (stepB (bxs x4).1 (bxs x4).2 r).bind (runO ((xs.drop (i + 1)).map bxs)) = some s' from er)
    have hr2 : stepB (decide (x4.1 = Str.ofString "right")) x4.2 r = some r2 := hr2
    obtain ⟨_, z2, _, _⟩ := step_lvs hr2
    have hh2 := hgt_le r2
    simp only [gTup, gCons, gNil, gName, cxOf_K, tAsg2, tYes, wipe, tSeq, tIfS, tNot, tB, tCB, tCons, tNil, tVar, tC, tTest, tOp, tAnd, tOr, tAsg, gName, tRet, tRetN, tDrop, tNext, tIf, tCall, tTup, tLst, tNotV, tAndV, tOrV, tUn, rI0, rI, rU, rEq, rNe, tM1, tM0, tBM, tBM0, tSl, tPart, tNoPart, iStr, iEnumS, iRng1, iRng2, iList, gSub, tBits, tAug, tPar, L2.start, List.map_cons, List.map_nil, List.length_cons, List.length_nil, List.getElem?_cons_zero, List.getElem?_cons_succ, List.cons_append, List.nil_append, List.append_nil, List.set_cons_zero, List.set_cons_succ, List.replicate_succ, List.replicate_zero, Option.some.injEq, exists_eq_left', V.int.injEq, V.str.injEq, V.ref.injEq, V.bl.injEq, exists_and_left, exists_eq_left, List.cons.injEq, and_true, true_and, tCallX, tRs]
    refine ⟨_, SqT.of (s1 _ _ hp4), rfl, _, _, rfl, _, _, rfl, rfl, ?_⟩
    refine ⟨_, rfl, _, rfl, fun D hD => ?_⟩
    refine TD.lc_str (x := S x4.2) (fun _ H' => Same H1 H' ∧ H' D = some (.lst [])) ⟨(L2.Same.refl H1).new hD _, upd_same⟩ ?_ ?_
    · rintro n c H' hc ⟨s2, hd⟩
      have c4 : c = 114 := by
        rw [j2] at hc
        have hc : (List.replicate j 114)[n]? = some c := by rw [← hc, ← Array.getElem?_toList]
        exact List.eq_of_mem_replicate (List.mem_of_getElem? hc)
      subst c4
      simp only [gName, cxOf_K, tAsg2, tYes, wipe, tSeq, tIfS, tNot, tB, tCB, tCons, tNil, tVar, tC, tTest, tOp, tAnd, tOr, tAsg, gName, tRet, tRetN, tDrop, tNext, tIf, tCall, tTup, tLst, tNotV, tAndV, tOrV, tUn, rI0, rI, rU, rEq, rNe, tM1, tM0, tBM, tBM0, tSl, tPart, tNoPart, iStr, iEnumS, iRng1, iRng2, iList, gSub, tBits, tAug, tPar, L2.start, List.map_cons, List.map_nil, List.length_cons, List.length_nil, List.getElem?_cons_zero, List.getElem?_cons_succ, List.cons_append, List.nil_append, List.append_nil, List.set_cons_zero, List.set_cons_succ, List.replicate_succ, List.replicate_zero, Option.some.injEq, exists_eq_left', V.int.injEq, V.str.injEq, V.ref.injEq, V.bl.injEq, exists_and_left, exists_eq_left, List.cons.injEq, and_true, true_and, tCallX, tRs]
      refine ⟨rfl, ?_⟩
      rw [if_neg (by decide +kernel)]
      exact ⟨s2, hd⟩
    · rintro H2 ⟨s2, hd⟩
      refine ⟨by decide, fun pe npe => ?_⟩
      have n3 := (L2.Same.refl H2).new npe (.lst [])
      refine neInts (F := []) (n3 _ _ hd) upd_same ⟨_, rfl, ?_⟩
      rw [if_neg (by decide)]
      have s2 := s2.trans n3
      generalize upd H2 pe (.lst []) = H3 at s2 ⊢
      have s3 := s2
      have s2 := s1.trans s2
      clear n3 hd
      refine ⟨_, rfl, u, r, rfl, pu.same s3, rz, fun pm vm H4 nm s4 hm am => ⟨pm, rfl, ⟨_, SqL.of hm⟩, fun D2 hD2 => ?_⟩⟩
      have lm := am.length
      obtain ⟨la, lo⟩ := armL_ok r 0 id
      have fd : (armL 0 id r).filter (fun y => decide (y.1 = x4)) = [(x4, r2)] := by
        have e := armL_find okx r 0 j id
        rw [Nat.zero_add, ← j2, hr2] at e
        exact e
      refine lc_list (K := K) (a := pm) (xs := vm) (fun n H' => Same H4 H' ∧ ∃ acc, H' D2 = some (.lst acc) ∧ PTs H' acc ((((armL 0 id r).take n).filter (fun y => decide (y.1 = x4))).map (·.2))) ⟨(L2.Same.refl H4).new hD2 _, [], upd_same, .nil⟩ (fun i H' _ z => SqL.of (z.1 _ _ hm)) ?_ ?_
      · rintro n z H' hn ⟨s5, acc, hd, pa⟩
        obtain ⟨p, q1, u', y, rfl, gy, hp, hq, pu'⟩ := (am.tup (.of s5)).get hn
        have ym := List.mem_of_getElem? gy
        obtain ⟨ow, jy, oj⟩ := lo y ym
        have tk : (armL 0 id r).take (n + 1) = (armL 0 id r).take n ++ [y] := by rw [List.take_succ, gy]; rfl
        simp only [gTup, gCons, gNil, gName, cxOf_K, tAsg2, tYes, wipe, tSeq, tIfS, tNot, tB, tCB, tCons, tNil, tVar, tC, tTest, tOp, tAnd, tOr, tAsg, gName, tRet, tRetN, tDrop, tNext, tIf, tCall, tTup, tLst, tNotV, tAndV, tOrV, tUn, rI0, rI, rU, rEq, rNe, tM1, tM0, tBM, tBM0, tSl, tPart, tNoPart, iStr, iEnumS, iRng1, iRng2, iList, gSub, tBits, tAug, tPar, L2.start, List.map_cons, List.map_nil, List.length_cons, List.length_nil, List.getElem?_cons_zero, List.getElem?_cons_succ, List.cons_append, List.nil_append, List.append_nil, List.set_cons_zero, List.set_cons_succ, List.replicate_succ, List.replicate_zero, Option.some.injEq, exists_eq_left', V.int.injEq, V.str.injEq, V.ref.injEq, V.bl.injEq, exists_and_left, exists_eq_left, List.cons.injEq, and_true, true_and, tCallX, tRs]
        refine ⟨_, SqT.of hp, rfl, _, _, rfl, _, _, rfl, rfl, ?_⟩
        refine ⟨by decide, fun q2 nq2 => ?_⟩
        have n6 := (L2.Same.refl H').new nq2 (.tup [V.str x4.1, sV x4.2])
        have g6 : upd H' q2 (.tup [V.str x4.1, sV x4.2]) q2 = some _ := upd_same
        generalize upd H' q2 (.tup [V.str x4.1, sV x4.2]) = H6 at n6 g6 ⊢
        refine eqSp (x := y.1) (y := x4) ⟨jy, by have := okRep ow jy; rw [← oj] at this; exact this⟩ ⟨j, by have := okRep okx j; rw [← j2] at this; exact this⟩ (n6 _ _ hq) g6 ⟨_, rfl, ?_⟩
        have al := pa.len
        rw [List.length_map] at al
        have fl := List.length_filter_le (fun y : (Str × List Nat) × Tr => decide (y.1 = x4)) ((armL 0 id r).take n)
        rw [List.length_take] at fl
        rw [tk, List.filter_append, List.map_append]
        by_cases c : y.1 = x4
        · rw [if_pos (by simp [c])]
          refine ⟨acc, n6 _ _ hd, small5' (by omega), (s5.trans n6).new hD2 _, _, upd_same, ?_⟩
          rw [List.filter_cons_of_pos (by simpa using c)]
          have k := TupK.upd (o := .lst (acc ++ [u'])) (n6 _ _ hd)
          exact PTs.snoc ((pu'.same n6).tup k) ((pa.tup (.of n6)).tup k)
        · rw [if_neg (by simp [c])]
          refine ⟨s5.trans n6, acc, n6 _ _ hd, ?_⟩
          rw [List.filter_cons_of_neg (by simpa using c)]
          simpa using pa.tup (.of n6)
      · rintro H5 ⟨s5, acc, hd, pa⟩
        rw [lm, List.take_length, fd] at pa
        obtain ⟨u2, rfl, pu2⟩ : ∃ u2, acc = [u2] ∧ PT H5 u2 r2 := by
          cases pa with
          | cons a b => cases b with | nil => exact ⟨_, rfl, a⟩
        refine ⟨by decide, fun pe npe => ?_⟩
        have n6 := (L2.Same.refl H5).new npe (.lst [])
        refine eqOne (pu2.same n6) (by omega) (n6 _ _ hd) upd_same ⟨_, rfl, ?_⟩
        rw [if_neg (by decide)]
        exact ⟨D2, _, 0, u2, rfl, rfl, SqL.of (n6 _ _ hd), rfl, u2, r2, _, _, _, _, _, _, ⟨rfl, rfl, rfl, rfl, rfl, rfl, rfl⟩, s2.trans (s4.trans (s5.trans n6)), pu2.same n6, by omega, er⟩
  · rintro σ H' ⟨u, r, b2, b3, b4, b5, b6, b7, rfl, s1, pu, rz, er⟩
    rw [wl, List.drop_length] at er
    have er : some r = some s' := er
    simp only [cxOf_K, tAsg2, tYes, wipe, tSeq, tIfS, tNot, tB, tCB, tCons, tNil, tVar, tC, tTest, tOp, tAnd, tOr, tAsg, gName, tRet, tRetN, tDrop, tNext, tIf, tCall, tTup, tLst, tNotV, tAndV, tOrV, tUn, rI0, rI, rU, rEq, rNe, tM1, tM0, tBM, tBM0, tSl, tPart, tNoPart, iStr, iEnumS, iRng1, iRng2, iList, gSub, tBits, tAug, tPar, L2.start, List.map_cons, List.map_nil, List.length_cons, List.length_nil, List.getElem?_cons_zero, List.getElem?_cons_succ, List.cons_append, List.nil_append, List.append_nil, List.set_cons_zero, List.set_cons_succ, List.replicate_succ, List.replicate_zero, Option.some.injEq, exists_eq_left', V.int.injEq, V.str.injEq, V.ref.injEq, V.bl.injEq, exists_and_left, exists_eq_left, List.cons.injEq, and_true, true_and, tCallX, tRs]
    cases er
    exact q u H' s1 pu

theorem mf_b (A B : Tr) : List.lookup (Str.ofString "_before") (mf A B) = some (trV A) := rfl
theorem mf_a (A B : Tr) : List.lookup (Str.ofString "_after") (mf A B) = some (trV B) := by
  unfold mf
  rw [List.lookup_cons, show (Str.ofString "_after" == Str.ofString "_before") = false by decide +kernel]
  rfl
theorem ok_Move_before (T : Txt w K mg) : FnOk P w K mg base CX0 1 T.a_Move_before T.fd_Move_before ["self"] (sp_Move_before T) := by
  refine T.F_Move_before.ok sc_Move_before (fun vs H Q E h => ?_) (fun cdv A outer s H vs Q E hr h => ?_)
  · obtain ⟨_, _, _, rfl, _⟩ := h; rfl
  obtain ⟨v, A', B', rfl, ⟨ab, p, dx, rfl, hp⟩, q⟩ := h
  refine ⟨_, (pss_one (ps_ret (pe_fld (pv 0) rfl))), ?_⟩
  simp only [cxOf_K, tAsg2, tYes, wipe, tSeq, tIfS, tNot, tB, tCB, tCons, tNil, tVar, tC, tTest, tOp, tAnd, tOr, tAsg, gName, tRet, tRetN, tDrop, tNext, tIf, tCall, tTup, tLst, tNotV, tAndV, tOrV, tUn, rI0, rI, rU, rEq, rNe, tM1, tM0, tBM, tBM0, tSl, tPart, tNoPart, iStr, iEnumS, iRng1, iRng2, iList, gSub, tBits, tAug, tPar, L2.start, List.map_cons, List.map_nil, List.length_cons, List.length_nil, List.getElem?_cons_zero, List.getElem?_cons_succ, List.cons_append, List.nil_append, List.append_nil, List.set_cons_zero, List.set_cons_succ, List.replicate_succ, List.replicate_zero, Option.some.injEq, exists_eq_left', V.int.injEq, V.str.injEq, V.ref.injEq, V.bl.injEq, exists_and_left, exists_eq_left, List.cons.injEq, and_true, true_and, tCallX, tRs, tProp, OW.tSMeth, OW.tCallI, Nat.sub_self, List.replicate_zero, tFld, sFld, sFldAug, tDGet, tDIn, tDNotIn, sDPut, tMeth, tMake, tDNewK]
  exact ⟨_, _, _, hp, T.l_Move, T.n_Move__before, _, mf_b _ _, q⟩

theorem ok_Move_after (T : Txt w K mg) : FnOk P w K mg base CX0 1 T.a_Move_after T.fd_Move_after ["self"] (sp_Move_after T) := by
  refine T.F_Move_after.ok sc_Move_after (fun vs H Q E h => ?_) (fun cdv A outer s H vs Q E hr h => ?_)
  · obtain ⟨_, _, _, rfl, _⟩ := h; rfl
  obtain ⟨v, A', B', rfl, ⟨ab, p, dx, rfl, hp⟩, q⟩ := h
  refine ⟨_, (pss_one (ps_ret (pe_fld (pv 0) rfl))), ?_⟩
  simp only [cxOf_K, tAsg2, tYes, wipe, tSeq, tIfS, tNot, tB, tCB, tCons, tNil, tVar, tC, tTest, tOp, tAnd, tOr, tAsg, gName, tRet, tRetN, tDrop, tNext, tIf, tCall, tTup, tLst, tNotV, tAndV, tOrV, tUn, rI0, rI, rU, rEq, rNe, tM1, tM0, tBM, tBM0, tSl, tPart, tNoPart, iStr, iEnumS, iRng1, iRng2, iList, gSub, tBits, tAug, tPar, L2.start, List.map_cons, List.map_nil, List.length_cons, List.length_nil, List.getElem?_cons_zero, List.getElem?_cons_succ, List.cons_append, List.nil_append, List.append_nil, List.set_cons_zero, List.set_cons_succ, List.replicate_succ, List.replicate_zero, Option.some.injEq, exists_eq_left', V.int.injEq, V.str.injEq, V.ref.injEq, V.bl.injEq, exists_and_left, exists_eq_left, List.cons.injEq, and_true, true_and, tCallX, tRs, tProp, OW.tSMeth, OW.tCallI, Nat.sub_self, List.replicate_zero, tFld, sFld, sFldAug, tDGet, tDIn, tDNotIn, sDPut, tMeth, tMake, tDNewK]
  exact ⟨_, _, _, hp, T.l_Move, T.n_Move__after, _, mf_a _ _, q⟩

theorem Mv.bef (T : Txt w K mg) {H : Hp} {v : V} {A B : Tr} {Q : VK} {E : XK} (m : Mv T.c_Move H v A B) (q : Q (trV A) H) : ∃ a, v = V.ref a ∧ ∃ x y, H a = some (.ins T.c_Move x y) ∧ sp_Move_before T [.ref a] H Q E := by
  have m' := m
  obtain ⟨ab, p, dx, rfl, h⟩ := m'
  exact ⟨p, rfl, _, _, h, _, A, B, rfl, m, q⟩
theorem Mv.aft (T : Txt w K mg) {H : Hp} {v : V} {A B : Tr} {Q : VK} {E : XK} (m : Mv T.c_Move H v A B) (q : Q (trV B) H) : ∃ a, v = V.ref a ∧ ∃ x y, H a = some (.ins T.c_Move x y) ∧ sp_Move_after T [.ref a] H Q E := by
  have m' := m
  obtain ⟨ab, p, dx, rfl, h⟩ := m'
  exact ⟨p, rfl, _, _, h, _, A, B, rfl, m, q⟩
theorem Mv.keep {C : Addr} {H H' : Hp} {v : V} {A B : Tr} {g : Addr} {ws : List V} (m : Mv C H v A B) (hg : H g = some (.lst ws)) (k : Keep g H H') : Mv C H' v A B := by
  obtain ⟨ab, p, dx, e, h⟩ := m
  exact ⟨ab, p, dx, e, k _ _ (ne_of h hg fun z => by cases z) h⟩
theorem keepU {p : Addr} {H : Hp} {o : HO} : Keep p H (upd H p o) := fun b u hb hu => by rw [upd_ne hb]; exact hu
theorem genL {H : Hp} {g : Addr} {n : Nat} (h : GenAt H g n) : ∃ ws : List V, H g = some (HO.lst ws) := by
  obtain ⟨a, b, c, h, _⟩ := h
  exact ⟨_, h⟩
theorem Mv.lvs {C : Addr} {H : Hp} {v : V} {A B : Tr} (m : Mv C H v A B) : A.lvs = B.lvs := by
  have := m.1
  have := Tr.lvs_size A
  have := Tr.lvs_size B
  omega

/-- the list at pf that grows -/
def SpSt (H1 : Hp) (pf : Addr) (H' : Hp) (m n : Nat) : Prop := Keep pf H1 H' ∧ ∃ ws, H' pf = some (.lst ws) ∧ ws.length ≤ n ∧ SpinsL H' ws m
theorem SpinsL.keep {H H' : Hp} {pf : Addr} {ws us : List V} {m : Nat} (h : SpinsL H ws m) (k : Keep pf H H') (hf : H pf = some (.lst us)) : SpinsL H' ws m := fun v hv => by
  obtain ⟨p, x, u, t, e, h1, h2, h3⟩ := h v hv
  exact ⟨p, x, u, t, e, k _ _ (ne_of h1 hf fun z => by cases z) h1, h2.keep k hf, h3⟩
theorem SpSt.same {H1 H2 H3 : Hp} {pf : Addr} {m n : Nat} (h : SpSt H1 pf H2 m n) (s : Same H2 H3) : SpSt H1 pf H3 m n := by
  obtain ⟨k, ws, h1, h2, h3⟩ := h
  exact ⟨k.trans (Keep.of s), ws, s _ _ h1, h2, h3.keep (Keep.of s) h1⟩
/-- one more -/
theorem SpSt.push {H1 H2 : Hp} {pf p : Addr} {x u : V} {t : Tr} {m n : Nat} {ws : List V} (k : Keep pf H1 H2) (hf : H2 pf = some (.lst ws)) (hl : ws.length ≤ n) (sp : SpinsL H2 ws m) (hp : H2 p = some (.tup [x, u])) (pu : PT H2 u t) (ht : t.size = m) : SpSt H1 pf (upd H2 pf (.lst (ws ++ [.ref p]))) m (n + 1) := by
  have kk : Keep pf H2 (upd H2 pf (.lst (ws ++ [.ref p]))) := keepU
  refine ⟨k.trans kk, _, upd_same, by rw [List.length_append]; show ws.length + 1 ≤ n + 1; omega, fun v hv => ?_⟩
  rcases List.mem_append.mp hv with h | h
  · exact (sp.keep kk hf) v h
  · rw [List.mem_singleton.mp h]
    exact ⟨p, x, u, t, rfl, kk _ _ (ne_of hp hf fun z => by cases z) hp, pu.keep kk hf, ht⟩
theorem ok_law_spins (T : Txt w K mg) : ∀ k : Nat, FnD P w K mg base CX0 (k + 1) 3 T.a_law_spins T.fd_law_spins ["_law_nest_here", "_law_address"] (sp_law_spins K k)
  | 0 => by
    have no : ∀ vs H Q E, ¬ sp_law_spins K 0 vs H Q E := fun vs H Q E h => by
      obtain ⟨_, _, _, _, _, h, _⟩ := h
      omega
    exact ⟨fun vs H Q E h => absurd h (no vs H Q E), fun A outer s H args us vs Q E _ _ _ _ h => absurd h (no vs H Q E)⟩
  | k + 1 => by
    have rec_law_spins := ok_law_spins T k
    refine okD T.F_law_spins sc_law_spins (fun vs H Q E h => ?_) (fun cdv A outer s H vs Q E hr h => ?_)
    · obtain ⟨_, _, _, h, _⟩ := h; subst h; rfl
    obtain ⟨v, a, t, rfl, hv, hk, h62, hz, hla, q⟩ := h
    have hru := hr.room.units
    refine ⟨_, (pss_cons (ps_if (pt_cmpR (op_eqD hru) (pv 0) (pe_tup pa_nil) (nomark _)) (pss_one (ps_ret (pe_lst pa_nil))) pss_nil)
    (pss_cons (ps_asg (pv 0) (pg_tup rfl (pgs_cons (pg_name (i := 2) sc_law_spins.nd rfl (by first | exact Or.inl rfl | exact Or.inr rfl)) (pgs_cons (pg_name (i := 3) sc_law_spins.nd rfl (by first | exact Or.inl rfl | exact Or.inr rfl)) pgs_nil))))
    (pss_cons (ps_set (i := 4) sc_law_spins.nd rfl (by first | exact Or.inl rfl | exact Or.inr rfl) (pe_lst pa_nil))
    (pss_cons (ps_if (pt_cmpR (op_neD hru) (pv 2) (pe_tup pa_nil) (nomark _)) (pss_one (ps_expr (pe_bm PySem.F.plainAttrs_list PySem.F.slot_list_append PySem.F.type_list_append mt_append (pv 4) (pa_cons (pe_tup (pa_cons (pe_tup (pa_cons pe_str (pa_cons (pv 1) pa_nil))) (pa_cons (pe_tup (pa_cons (pe_ix ix_tup (pv 2) pe_int (fun _ _ => rfl)) (pa_cons (pe_tup (pa_cons (pe_ix ix_tup (pv 2) pe_int (fun _ _ => rfl)) (pa_cons (pv 3) pa_nil))) pa_nil))) pa_nil))) pa_nil)))) pss_nil)
    (pss_cons (ps_if (pt_cmpR (op_neD hru) (pv 3) (pe_tup pa_nil) (nomark _)) (pss_one (ps_expr (pe_bm PySem.F.plainAttrs_list PySem.F.slot_list_append PySem.F.type_list_append mt_append (pv 4) (pa_cons (pe_tup (pa_cons (pe_tup (pa_cons pe_str (pa_cons (pv 1) pa_nil))) (pa_cons (pe_tup (pa_cons (pe_tup (pa_cons (pv 2) (pa_cons (pe_ix ix_tup (pv 3) pe_int (fun _ _ => rfl)) pa_nil))) (pa_cons (pe_ix ix_tup (pv 3) pe_int (fun _ _ => rfl)) pa_nil))) pa_nil))) pa_nil)))) pss_nil)
    (pss_cons (ps_for PassesOwn.never rfl (pi_list (pe_callD rec_law_spins (hr.mono (by first | decide | omega) (by first | decide | omega)) (by rfl) T.m_law_spins T.F_law_spins.kp T.b_law_spins .nil pass0 (pa_cons (pv 2) (pa_cons (pe_op op_add_str (pv 1) pe_str) pa_nil)))) (pg_tup rfl (pgs_cons (pg_name (i := 5) sc_law_spins.nd rfl (by first | exact Or.inl rfl | exact Or.inr rfl)) (pgs_cons (pg_name (i := 6) sc_law_spins.nd rfl (by first | exact Or.inl rfl | exact Or.inr rfl)) pgs_nil))) (pss_one (ps_expr (pe_bm PySem.F.plainAttrs_list PySem.F.slot_list_append PySem.F.type_list_append mt_append (pv 4) (pa_cons (pe_tup (pa_cons (pv 5) (pa_cons (pe_tup (pa_cons (pv 6) (pa_cons (pv 3) pa_nil))) pa_nil))) pa_nil)))))
    (pss_cons (ps_for PassesOwn.never rfl (pi_list (pe_callD rec_law_spins (hr.mono (by first | decide | omega) (by first | decide | omega)) (by rfl) T.m_law_spins T.F_law_spins.kp T.b_law_spins .nil pass0 (pa_cons (pv 3) (pa_cons (pe_op op_add_str (pv 1) pe_str) pa_nil)))) (pg_tup rfl (pgs_cons (pg_name (i := 5) sc_law_spins.nd rfl (by first | exact Or.inl rfl | exact Or.inr rfl)) (pgs_cons (pg_name (i := 6) sc_law_spins.nd rfl (by first | exact Or.inl rfl | exact Or.inr rfl)) pgs_nil))) (pss_one (ps_expr (pe_bm PySem.F.plainAttrs_list PySem.F.slot_list_append PySem.F.type_list_append mt_append (pv 4) (pa_cons (pe_tup (pa_cons (pv 5) (pa_cons (pe_tup (pa_cons (pv 2) (pa_cons (pv 6) pa_nil))) pa_nil))) pa_nil)))))
    (pss_one (ps_ret (pv 4)))))))))), ?_⟩
    simp only [cxOf_K, tAsg2, tYes, wipe, tSeq, tIfS, tNot, tB, tCB, tCons, tNil, tVar, tC, tTest, tOp, tAnd, tOr, tAsg, gName, tRet, tRetN, tDrop, tNext, tIf, tCall, tTup, tLst, tNotV, tAndV, tOrV, tUn, rI0, rI, rU, rEq, rNe, tM1, tM0, tBM, tBM0, tSl, tPart, tNoPart, iStr, iEnumS, iRng1, iRng2, iList, gSub, tBits, tAug, tPar, L2.start, List.map_cons, List.map_nil, List.length_cons, List.length_nil, List.getElem?_cons_zero, List.getElem?_cons_succ, List.cons_append, List.nil_append, List.append_nil, List.set_cons_zero, List.set_cons_succ, List.replicate_succ, List.replicate_zero, Option.some.injEq, exists_eq_left', V.int.injEq, V.str.injEq, V.ref.injEq, V.bl.injEq, exists_and_left, exists_eq_left, List.cons.injEq, and_true, true_and, tCallX, tRs]
    refine ⟨by decide, fun p0 np0 => ?_⟩
    have s0 := (L2.Same.refl H).new np0 (.tup [])
    refine eqLeaf (hv.same s0) h62 upd_same ⟨_, rfl, ?_⟩
    generalize upd H p0 (.tup []) = H0 at s0 ⊢
    have hv0 := hv.same s0
    cases hv0 with
    | leaf hp =>
      rw [if_pos (decide_eq_true rfl)]
      exact ⟨by decide, fun p np => q p _ _ (s0.free np) (s0.new (s0.free np) _) upd_same (Nat.zero_le _) (fun _ h => nomatch h)⟩
    | node hp hx hy =>
      rename_i pp x y l r
      have e1 : Tr.hgt (Tr.node l r) = max (Tr.hgt l) (Tr.hgt r) + 1 := rfl
      have e2 : (Tr.node l r).size = l.size + r.size + 1 := rfl
      rw [if_neg (by simp)]
      simp only [gTup, gCons, gNil, gName, cxOf_K, tAsg2, tYes, wipe, tSeq, tIfS, tNot, tB, tCB, tCons, tNil, tVar, tC, tTest, tOp, tAnd, tOr, tAsg, gName, tRet, tRetN, tDrop, tNext, tIf, tCall, tTup, tLst, tNotV, tAndV, tOrV, tUn, rI0, rI, rU, rEq, rNe, tM1, tM0, tBM, tBM0, tSl, tPart, tNoPart, iStr, iEnumS, iRng1, iRng2, iList, gSub, tBits, tAug, tPar, L2.start, List.map_cons, List.map_nil, List.length_cons, List.length_nil, List.getElem?_cons_zero, List.getElem?_cons_succ, List.cons_append, List.nil_append, List.append_nil, List.set_cons_zero, List.set_cons_succ, List.replicate_succ, List.replicate_zero, Option.some.injEq, exists_eq_left', V.int.injEq, V.str.injEq, V.ref.injEq, V.bl.injEq, exists_and_left, exists_eq_left, List.cons.injEq, and_true, true_and, tCallX, tRs]
      refine ⟨_, SqT.of hp, rfl, _, _, rfl, _, _, rfl, rfl, ?_⟩
      refine ⟨by decide, fun pf npf => ?_⟩
      have k1 : Same H0 (upd H0 pf (.lst [])) := (L2.Same.refl H0).new npf _
      have hf1 : upd H0 pf (.lst []) pf = some (.lst []) := upd_same
      have hpf : H pf = none := s0.free npf
      have hx := hx.same k1
      have hy := hy.same k1
      have sH1 := s0.trans k1
      have sH' := sH1
      generalize upd H0 pf (.lst []) = H1 at k1 hf1 hx hy sH1 sH' ⊢
      have hx0 := hx
      have hy0 := hy
      have St0 : SpSt H1 pf H1 (l.size + r.size + 1) 0 := ⟨fun b o _ h => h, [], hf1, Nat.le_refl _, fun _ h => nomatch h⟩
      refine' cutHt (C := fun H' n => n ≤ 1 ∧ SpSt H1 pf H' (l.size + r.size + 1) n) _ _
      rotate_left
      · intro go
        refine ⟨by decide, fun pe npe => ?_⟩
        have w1 := (L2.Same.refl H1).new npe (.tup [])
        refine neLeaf (hx.same w1) (by omega) upd_same ⟨_, rfl, ?_⟩
        have St1 := St0.same w1
        have hx1 := hx.same w1
        have hy1 := hy.same w1
        clear w1
        generalize upd H1 pe (.tup []) = H2 at St1 hx1 hy1 ⊢
        by_cases hl : l = .leaf
        · rw [if_neg (by simp [hl])]
          exact go _ 0 ⟨by decide, St1⟩
        · rw [if_pos (by simp [hl])]
          obtain ⟨la, lb, el⟩ : ∃ la lb, l = .node la lb := by cases l with | leaf => exact absurd rfl hl | node u v => exact ⟨u, v, rfl⟩
          have hx2 : PT H2 x (.node la lb) := el ▸ hx1
          obtain ⟨px, xa, xb, ex, hpx, ha, hb⟩ := hx2.inv
          have zl : l.size = la.size + lb.size + 1 := by rw [el]; rfl
          obtain ⟨kk, ws, hws, wl, sp⟩ := St1
          refine ⟨.inl ⟨rfl, _, SqL.of hws⟩, by decide, fun q1 nq1 => ?_⟩
          have t1 := (L2.Same.refl H2).new nq1 (.tup [V.str (Str.ofString "right"), sV a])
          generalize upd H2 q1 (.tup [V.str (Str.ofString "right"), sV a]) = J1 at t1 ⊢
          refine ⟨px, _, 0, xa, ex, rfl, SqT.of (t1 _ _ hpx), rfl, px, _, 1, xb, ex, rfl, SqT.of (t1 _ _ hpx), rfl, by decide, fun q2 nq2 => ?_⟩
          have t2 := (L2.Same.refl J1).new nq2 (.tup [xb, y])
          have f2 : upd J1 q2 (.tup [xb, y]) q2 = some _ := upd_same
          generalize upd J1 q2 (.tup [xb, y]) = J2 at t2 f2 ⊢
          refine ⟨by decide, fun q3 nq3 => ?_⟩
          have t3 := (L2.Same.refl J2).new nq3 (.tup [xa, V.ref q2])
          have f3 : upd J2 q3 (.tup [xa, V.ref q2]) q3 = some _ := upd_same
          generalize upd J2 q3 (.tup [xa, V.ref q2]) = J3 at t3 f3 ⊢
          refine ⟨by decide, fun q4 nq4 => ?_⟩
          have t4 := (L2.Same.refl J3).new nq4 (.tup [V.ref q1, .ref q3])
          have f4 : upd J3 q4 (.tup [V.ref q1, .ref q3]) q4 = some _ := upd_same
          generalize upd J3 q4 (.tup [V.ref q1, .ref q3]) = J4 at t4 f4 ⊢
          have tt := t1.trans (t2.trans (t3.trans t4))
          have pt : PT J4 (.ref q3) (.node la (.node lb r)) := .node (t4 _ _ f3) (ha.same tt) (.node (t4 _ _ (t3 _ _ f2)) (hb.same tt) (hy1.same tt))
          refine ⟨pf, ws, _, rfl, rfl, tt _ _ hws, small5' (by omega), ?_⟩
          exact go _ 1 ⟨by decide, SpSt.push (kk.trans (Keep.of tt)) (tt _ _ hws) wl (sp.keep (Keep.of tt) hws) f4 pt (by simp only [Tr.size]; omega)⟩
      · rintro H2 n2 ⟨hn2, St2⟩
        have hx := hx.keep St2.1 hf1
        have hy := hy.keep St2.1 hf1
        refine' cutHt (C := fun H' n => n ≤ 2 ∧ SpSt H1 pf H' (l.size + r.size + 1) n) _ _
        rotate_left
        · intro go
          refine ⟨by decide, fun pe npe => ?_⟩
          have w1 := (L2.Same.refl H2).new npe (.tup [])
          refine neLeaf (hy.same w1) (by omega) upd_same ⟨_, rfl, ?_⟩
          have St1 := St2.same w1
          have hx1 := hx.same w1
          have hy1 := hy.same w1
          clear w1
          generalize upd H2 pe (.tup []) = H3 at St1 hx1 hy1 ⊢
          by_cases hl : r = .leaf
          · rw [if_neg (by simp [hl])]
            exact go _ n2 ⟨by omega, St1⟩
          · rw [if_pos (by simp [hl])]
            obtain ⟨la, lb, el⟩ : ∃ la lb, r = .node la lb := by cases r with | leaf => exact absurd rfl hl | node u v => exact ⟨u, v, rfl⟩
            have hy2 : PT H3 y (.node la lb) := el ▸ hy1
            obtain ⟨px, xa, xb, ex, hpx, ha, hb⟩ := hy2.inv
            have zl : r.size = la.size + lb.size + 1 := by rw [el]; rfl
            obtain ⟨kk, ws, hws, wl, sp⟩ := St1
            refine ⟨.inl ⟨rfl, _, SqL.of hws⟩, by decide, fun q1 nq1 => ?_⟩
            have t1 := (L2.Same.refl H3).new nq1 (.tup [V.str (Str.ofString "left"), sV a])
            generalize upd H3 q1 (.tup [V.str (Str.ofString "left"), sV a]) = J1 at t1 ⊢
            refine ⟨px, _, 0, xa, ex, rfl, SqT.of (t1 _ _ hpx), rfl, by decide, fun q2 nq2 => ?_⟩
            have t2 := (L2.Same.refl J1).new nq2 (.tup [x, xa])
            have f2 : upd J1 q2 (.tup [x, xa]) q2 = some _ := upd_same
            generalize upd J1 q2 (.tup [x, xa]) = J2 at t2 f2 ⊢
            refine ⟨px, _, 1, xb, ex, rfl, SqT.of (t2 _ _ (t1 _ _ hpx)), rfl, by decide, fun q3 nq3 => ?_⟩
            have t3 := (L2.Same.refl J2).new nq3 (.tup [V.ref q2, xb])
            have f3 : upd J2 q3 (.tup [V.ref q2, xb]) q3 = some _ := upd_same
            generalize upd J2 q3 (.tup [V.ref q2, xb]) = J3 at t3 f3 ⊢
            refine ⟨by decide, fun q4 nq4 => ?_⟩
            have t4 := (L2.Same.refl J3).new nq4 (.tup [V.ref q1, .ref q3])
            have f4 : upd J3 q4 (.tup [V.ref q1, .ref q3]) q4 = some _ := upd_same
            generalize upd J3 q4 (.tup [V.ref q1, .ref q3]) = J4 at t4 f4 ⊢
            have tt := t1.trans (t2.trans (t3.trans t4))
            have pt : PT J4 (.ref q3) (.node (.node l la) lb) := .node (t4 _ _ f3) (.node (t4 _ _ (t3 _ _ f2)) (hx1.same tt) (ha.same tt)) (hb.same tt)
            refine ⟨pf, ws, _, rfl, rfl, tt _ _ hws, small5' (by omega), ?_⟩
            exact go _ (n2 + 1) ⟨by omega, SpSt.push (kk.trans (Keep.of tt)) (tt _ _ hws) wl (sp.keep (Keep.of tt) hws) f4 pt (by simp only [Tr.size]; omega)⟩
        · rintro H3 n3 ⟨hn3, St3⟩
          have k3' := St3.1
          have hx : PT H3 x l := hx0.keep k3' hf1
          have hy : PT H3 y r := hy0.keep k3' hf1
          refine ⟨_, rfl, _, rfl, _, rfl, _, rfl, by rw [show Str.ofString "l" = S [108] by decide +kernel, S_len, S_len]; exact small5 (by simp only [List.length_singleton]; omega), ?_⟩
          refine ⟨x, a ++ [108], l, by rw [show Str.ofString "l" = S [108] by decide +kernel, S_app]; rfl, hx, by omega, by omega, by omega, by rw [List.length_append, List.length_singleton]; omega, fun p1 ws1 K1 n1 s1 h1 l1 sp1 => ?_⟩
          have St3 := St3.same s1
          have hx := hx.same s1
          have hy := hy.same s1
          obtain ⟨k4, ws4, hw4, wl4, sp4⟩ := St3
          have p1f : p1 ≠ pf := fun z => by
            obtain ⟨_, us, hus, _, _⟩ := St3
            rw [z, hus] at n1; cases n1
          refine ⟨p1, rfl, ⟨_, SqL.of h1⟩, for_list (K := K) (a := p1) (xs := ws1) (fun j σ H' => ∃ b5 b6, σ = [some (.ref pp), some (sV a), some x, some y, some (.ref pf), b5, b6] ∧ Keep pf K1 H' ∧ SpSt H1 pf H' (l.size + r.size + 1) (n3 + j)) ⟨_, _, rfl, fun b o _ h => h, k4, ws4, hw4, wl4, sp4⟩ (fun j σ H' _ ⟨_, _, _, z, _⟩ => SqL.of (z _ _ p1f h1)) ?_ ?_⟩
          · rintro j w' σ K2 hj ⟨b5, b6, rfl, kA, k5, ws5, hw5, wl5, sp5⟩
            have jl : j < ws1.length := (List.getElem?_eq_some_iff.mp hj).1
            obtain ⟨p, xs, u, t', rfl, hp, pu, zt⟩ := sp1 w' (List.mem_of_getElem? hj)
            have hp2 := kA _ _ (ne_of hp hw4 fun z => by cases z) hp
            have pu2 := pu.keep kA hw4
            have hx2 := hx.keep kA hw4
            have hy2 := hy.keep kA hw4
            simp only [gTup, gCons, gNil, gName, cxOf_K, tAsg2, tYes, wipe, tSeq, tIfS, tNot, tB, tCB, tCons, tNil, tVar, tC, tTest, tOp, tAnd, tOr, tAsg, gName, tRet, tRetN, tDrop, tNext, tIf, tCall, tTup, tLst, tNotV, tAndV, tOrV, tUn, rI0, rI, rU, rEq, rNe, tM1, tM0, tBM, tBM0, tSl, tPart, tNoPart, iStr, iEnumS, iRng1, iRng2, iList, gSub, tBits, tAug, tPar, L2.start, List.map_cons, List.map_nil, List.length_cons, List.length_nil, List.getElem?_cons_zero, List.getElem?_cons_succ, List.cons_append, List.nil_append, List.append_nil, List.set_cons_zero, List.set_cons_succ, List.replicate_succ, List.replicate_zero, Option.some.injEq, exists_eq_left', V.int.injEq, V.str.injEq, V.ref.injEq, V.bl.injEq, exists_and_left, exists_eq_left, List.cons.injEq, and_true, true_and, tCallX, tRs]
            refine ⟨_, SqT.of hp2, rfl, _, _, rfl, _, _, rfl, rfl, ?_⟩
            refine ⟨.inl ⟨rfl, _, SqL.of hw5⟩, by decide, fun q2 nq2 => ?_⟩
            have t2 := (L2.Same.refl K2).new nq2 (.tup [u, y])
            have f2 : upd K2 q2 (.tup [u, y]) q2 = some _ := upd_same
            generalize upd K2 q2 (.tup [u, y]) = J2 at t2 f2 ⊢
            refine ⟨by decide, fun q3 nq3 => ?_⟩
            have t3 := (L2.Same.refl J2).new nq3 (.tup [xs, V.ref q2])
            have f3 : upd J2 q3 (.tup [xs, V.ref q2]) q3 = some _ := upd_same
            generalize upd J2 q3 (.tup [xs, V.ref q2]) = J3 at t3 f3 ⊢
            have tt := t2.trans t3
            have pt : PT J3 (.ref q2) (.node t' r) := .node (t3 _ _ f2) (pu2.same tt) (hy2.same tt)
            refine ⟨pf, ws5, _, rfl, rfl, tt _ _ hw5, small5' (by omega), ?_⟩
            have kk := kA.trans (Keep.of tt)
            exact ⟨_, _, ⟨rfl, rfl⟩, kk.trans keepU, SpSt.push (k5.trans (Keep.of tt)) (tt _ _ hw5) wl5 (sp5.keep (Keep.of tt) hw5) f3 pt (by simp only [Tr.size]; omega)⟩
          · rintro σ K3 ⟨b5, b6, rfl, kA, St6⟩
            have hx : PT K3 x l := hx0.keep St6.1 hf1
            have hy : PT K3 y r := hy0.keep St6.1 hf1
            have l1' := l1
            have ws1' := ws1
            refine ⟨_, rfl, _, rfl, _, rfl, _, rfl, by rw [show Str.ofString "r" = S [114] by decide +kernel, S_len, S_len]; exact small5 (by simp only [List.length_singleton]; omega), ?_⟩
            refine ⟨y, a ++ [114], r, by rw [show Str.ofString "r" = S [114] by decide +kernel, S_app]; rfl, hy, by omega, by omega, by omega, by rw [List.length_append, List.length_singleton]; omega, fun p1 ws2 K1 n1 s1 h1 l2 sp1 => ?_⟩
            have St3 := St6.same s1
            have hx := hx.same s1
            have hy := hy.same s1
            obtain ⟨k4, ws4, hw4, wl4, sp4⟩ := St3
            have p1f : p1 ≠ pf := fun z => by
              obtain ⟨_, us, hus, _, _⟩ := St6
              rw [z, hus] at n1; cases n1
            refine ⟨p1, rfl, ⟨_, SqL.of h1⟩, for_list (K := K) (a := p1) (xs := ws2) (fun j σ H' => ∃ b5 b6, σ = [some (.ref pp), some (sV a), some x, some y, some (.ref pf), b5, b6] ∧ Keep pf K1 H' ∧ SpSt H1 pf H' (l.size + r.size + 1) ((n3 + ws1.length) + j)) ⟨_, _, rfl, fun b o _ h => h, k4, ws4, hw4, wl4, sp4⟩ (fun j σ H' _ ⟨_, _, _, z, _⟩ => SqL.of (z _ _ p1f h1)) ?_ ?_⟩
            · rintro j w' σ K2 hj ⟨b5, b6, rfl, kA, k5, ws5, hw5, wl5, sp5⟩
              have jl : j < ws2.length := (List.getElem?_eq_some_iff.mp hj).1
              obtain ⟨p, xs, u, t', rfl, hp, pu, zt⟩ := sp1 w' (List.mem_of_getElem? hj)
              have hp2 := kA _ _ (ne_of hp hw4 fun z => by cases z) hp
              have pu2 := pu.keep kA hw4
              have hx2 := hx.keep kA hw4
              have hy2 := hy.keep kA hw4
              simp only [gTup, gCons, gNil, gName, cxOf_K, tAsg2, tYes, wipe, tSeq, tIfS, tNot, tB, tCB, tCons, tNil, tVar, tC, tTest, tOp, tAnd, tOr, tAsg, gName, tRet, tRetN, tDrop, tNext, tIf, tCall, tTup, tLst, tNotV, tAndV, tOrV, tUn, rI0, rI, rU, rEq, rNe, tM1, tM0, tBM, tBM0, tSl, tPart, tNoPart, iStr, iEnumS, iRng1, iRng2, iList, gSub, tBits, tAug, tPar, L2.start, List.map_cons, List.map_nil, List.length_cons, List.length_nil, List.getElem?_cons_zero, List.getElem?_cons_succ, List.cons_append, List.nil_append, List.append_nil, List.set_cons_zero, List.set_cons_succ, List.replicate_succ, List.replicate_zero, Option.some.injEq, exists_eq_left', V.int.injEq, V.str.injEq, V.ref.injEq, V.bl.injEq, exists_and_left, exists_eq_left, List.cons.injEq, and_true, true_and, tCallX, tRs]
              refine ⟨_, SqT.of hp2, rfl, _, _, rfl, _, _, rfl, rfl, ?_⟩
              refine ⟨.inl ⟨rfl, _, SqL.of hw5⟩, by decide, fun q2 nq2 => ?_⟩
              have t2 := (L2.Same.refl K2).new nq2 (.tup [x, u])
              have f2 : upd K2 q2 (.tup [x, u]) q2 = some _ := upd_same
              generalize upd K2 q2 (.tup [x, u]) = J2 at t2 f2 ⊢
              refine ⟨by decide, fun q3 nq3 => ?_⟩
              have t3 := (L2.Same.refl J2).new nq3 (.tup [xs, V.ref q2])
              have f3 : upd J2 q3 (.tup [xs, V.ref q2]) q3 = some _ := upd_same
              generalize upd J2 q3 (.tup [xs, V.ref q2]) = J3 at t3 f3 ⊢
              have tt := t2.trans t3
              have pt : PT J3 (.ref q2) (.node l t') := .node (t3 _ _ f2) (hx2.same tt) (pu2.same tt)
              refine ⟨pf, ws5, _, rfl, rfl, tt _ _ hw5, small5' (by omega), ?_⟩
              have kk := kA.trans (Keep.of tt)
              exact ⟨_, _, ⟨rfl, rfl⟩, kk.trans keepU, SpSt.push (k5.trans (Keep.of tt)) (tt _ _ hw5) wl5 (sp5.keep (Keep.of tt) hw5) f3 pt (by simp only [Tr.size]; omega)⟩
            · rintro σ K4 ⟨b5, b6, rfl, kB, k7, ws7, hw7, wl7, sp7⟩
              simp only [cxOf_K, tAsg2, tYes, wipe, tSeq, tIfS, tNot, tB, tCB, tCons, tNil, tVar, tC, tTest, tOp, tAnd, tOr, tAsg, gName, tRet, tRetN, tDrop, tNext, tIf, tCall, tTup, tLst, tNotV, tAndV, tOrV, tUn, rI0, rI, rU, rEq, rNe, tM1, tM0, tBM, tBM0, tSl, tPart, tNoPart, iStr, iEnumS, iRng1, iRng2, iList, gSub, tBits, tAug, tPar, L2.start, List.map_cons, List.map_nil, List.length_cons, List.length_nil, List.getElem?_cons_zero, List.getElem?_cons_succ, List.cons_append, List.nil_append, List.append_nil, List.set_cons_zero, List.set_cons_succ, List.replicate_succ, List.replicate_zero, Option.some.injEq, exists_eq_left', V.int.injEq, V.str.injEq, V.ref.injEq, V.bl.injEq, exists_and_left, exists_eq_left, List.cons.injEq, and_true, true_and, tCallX, tRs]
              refine q pf ws7 _ hpf ?_ hw7 (by omega) (by rw [e2]; exact sp7)
              exact (off_in sH' hpf).trans (off_to k7)

theorem ok_law_mixed (T : Txt w K mg) : FnOk P w K mg base CX0 1 T.a_law_mixed T.fd_law_mixed ["_law_cell", "_law_k"] (sp_law_mixed K) := by
  refine T.F_law_mixed.ok sc_law_mixed (fun vs H Q E h => ?_) (fun cdv A outer s H vs Q E hr h => ?_)
  · obtain ⟨a, i, rfl, _⟩ := h; rfl
  obtain ⟨a, i, rfl, a0, a1, h0, h1, q⟩ := h
  refine ⟨_, (pss_cons (ps_set (i := 2) sc_law_mixed.nd rfl (by first | exact Or.inl rfl | exact Or.inr rfl) (pe_op op_mod (pe_op op_add (pe_op op_add (pe_op op_add (pe_op op_mul (pv 0) pe_int) (pe_op op_mul (pe_op op_mul pe_int (pv 1)) (pv 1))) (pv 1)) pe_int) pe_int))
    (pss_cons (ps_set (i := 2) sc_law_mixed.nd rfl (by first | exact Or.inl rfl | exact Or.inr rfl) (pe_op op_mod (pe_op op_add (pe_op op_mul (pv 2) (pv 2)) pe_int) pe_int))
    (pss_one (ps_ret (pe_op op_mod (pe_op op_mul (pv 2) pe_int) pe_int))))), ?_⟩
  simp only [cxOf_K, tAsg2, tYes, wipe, tSeq, tIfS, tNot, tB, tCB, tCons, tNil, tVar, tC, tTest, tOp, tAnd, tOr, tAsg, gName, tRet, tRetN, tDrop, tNext, tIf, tCall, tTup, tLst, tNotV, tAndV, tOrV, tUn, rI0, rI, rU, rEq, rNe, tM1, tM0, tBM, tBM0, tSl, tPart, tNoPart, iStr, iEnumS, iRng1, iRng2, iList, gSub, tBits, tAug, tPar, L2.start, List.map_cons, List.map_nil, List.length_cons, List.length_nil, List.getElem?_cons_zero, List.getElem?_cons_succ, List.cons_append, List.nil_append, List.append_nil, List.set_cons_zero, List.set_cons_succ, List.replicate_succ, List.replicate_zero, Option.some.injEq, exists_eq_left', V.int.injEq, V.str.injEq, V.ref.injEq, V.bl.injEq, exists_and_left, exists_eq_left, List.cons.injEq, and_true, true_and, tCallX, tRs]
  refine ⟨cmulR (by decide), cmulL (by decide), cmulR (by omega), by decide, cmulR (cmod _ (by decide) (by decide)), by decide, cmulR (by decide), by decide, q _ ?_ ?_⟩
  · exact Int.emod_nonneg _ (by decide)
  · exact Int.emod_lt_of_pos _ (by decide)

theorem ok_law_draw (T : Txt w K mg) : FnOk P w K mg base CX0 2 T.a_law_draw T.fd_law_draw ["_law_purse_here", "_law_out_of"] (sp_law_draw K) := by
  refine T.F_law_draw.ok sc_law_draw (fun vs H Q E h => ?_) (fun cdv A outer s H vs Q E hr h => ?_)
  · obtain ⟨g, b, n, rfl, _⟩ := h; rfl
  obtain ⟨g, b, n, rfl, ⟨x, y, z, hg, y0, y1, z0, z1⟩, hn, b0, b1, q⟩ := h
  refine ⟨_, (pss_cons (ps_if (pt_cmpR op_gt (pe_ix ix_list (pv 0) pe_int (fun _ _ => rfl)) pe_int (nomark _)) (pss_cons (ps_set (i := 2) sc_law_draw.nd rfl (by first | exact Or.inl rfl | exact Or.inr rfl) (pe_op op_mod (pe_ix ix_list (pv 0) pe_int (fun _ _ => rfl)) (pv 1)))
    (pss_cons (ps_asg (pe_op op_fdivW (pe_ix ix_list (pv 0) pe_int (fun _ _ => rfl)) (pv 1)) (pg_sub (pv 0) pe_int set_list))
    (pss_one (ps_ret (pv 2))))) pss_nil)
    (pss_cons (ps_set (i := 3) sc_law_draw.nd rfl (by first | exact Or.inl rfl | exact Or.inr rfl) pe_int)
    (pss_cons (ps_for PassesOwn.never rfl (pi_range1 rfl T.z_range (pa_cons (pe_op op_add pe_int (pe_op op_fdivW (pe_bits (pv 1)) pe_int)) pa_nil)) (pg_name (i := 4) sc_law_draw.nd rfl (by first | exact Or.inl rfl | exact Or.inr rfl)) (pss_cons (ps_asg (pe_op op_add (pe_ix ix_list (pv 0) pe_int (fun _ _ => rfl)) pe_int) (pg_sub (pv 0) pe_int set_list))
    (pss_one (ps_set (i := 3) sc_law_draw.nd rfl (by first | exact Or.inl rfl | exact Or.inr rfl) (pe_op op_add (pe_op op_mul (pv 3) pe_int) (pe_call (ok_law_mixed T) (hr.mono (by first | decide | omega)) (by rfl) T.m_law_mixed T.F_law_mixed.kp T.b_law_mixed .nil pass0 (pa_cons (pe_ix ix_list (pv 0) pe_int (fun _ _ => rfl)) (pa_cons (pe_ix ix_list (pv 0) pe_int (fun _ _ => rfl)) pa_nil))))))))
    (pss_one (ps_ret (pe_op op_mod (pv 3) (pv 1))))))), ?_⟩
  simp only [cxOf_K, tAsg2, tYes, wipe, tSeq, tIfS, tNot, tB, tCB, tCons, tNil, tVar, tC, tTest, tOp, tAnd, tOr, tAsg, gName, tRet, tRetN, tDrop, tNext, tIf, tCall, tTup, tLst, tNotV, tAndV, tOrV, tUn, rI0, rI, rU, rEq, rNe, tM1, tM0, tBM, tBM0, tSl, tPart, tNoPart, iStr, iEnumS, iRng1, iRng2, iList, gSub, tBits, tAug, tPar, L2.start, List.map_cons, List.map_nil, List.length_cons, List.length_nil, List.getElem?_cons_zero, List.getElem?_cons_succ, List.cons_append, List.nil_append, List.append_nil, List.set_cons_zero, List.set_cons_succ, List.replicate_succ, List.replicate_zero, Option.some.injEq, exists_eq_left', V.int.injEq, V.str.injEq, V.ref.injEq, V.bl.injEq, exists_and_left, exists_eq_left, List.cons.injEq, and_true, true_and, tCallX, tRs]
  refine ⟨g, _, 0, .int x, rfl, rfl, SqL.of hg, rfl, ?_⟩
  simp only [cxOf_K, tAsg2, tYes, wipe, tSeq, tIfS, tNot, tB, tCB, tCons, tNil, tVar, tC, tTest, tOp, tAnd, tOr, tAsg, gName, tRet, tRetN, tDrop, tNext, tIf, tCall, tTup, tLst, tNotV, tAndV, tOrV, tUn, rI0, rI, rU, rEq, rNe, tM1, tM0, tBM, tBM0, tSl, tPart, tNoPart, iStr, iEnumS, iRng1, iRng2, iList, gSub, tBits, tAug, tPar, L2.start, List.map_cons, List.map_nil, List.length_cons, List.length_nil, List.getElem?_cons_zero, List.getElem?_cons_succ, List.cons_append, List.nil_append, List.append_nil, List.set_cons_zero, List.set_cons_succ, List.replicate_succ, List.replicate_zero, Option.some.injEq, exists_eq_left', V.int.injEq, V.str.injEq, V.ref.injEq, V.bl.injEq, exists_and_left, exists_eq_left, List.cons.injEq, and_true, true_and, tCallX, tRs]
  by_cases hx : 0 < x
  · refine ifdT hx ⟨g, _, 0, .int x, rfl, rfl, SqL.of hg, rfl, ?_⟩
    simp only [cxOf_K, tAsg2, tYes, wipe, tSeq, tIfS, tNot, tB, tCB, tCons, tNil, tVar, tC, tTest, tOp, tAnd, tOr, tAsg, gName, tRet, tRetN, tDrop, tNext, tIf, tCall, tTup, tLst, tNotV, tAndV, tOrV, tUn, rI0, rI, rU, rEq, rNe, tM1, tM0, tBM, tBM0, tSl, tPart, tNoPart, iStr, iEnumS, iRng1, iRng2, iList, gSub, tBits, tAug, tPar, L2.start, List.map_cons, List.map_nil, List.length_cons, List.length_nil, List.getElem?_cons_zero, List.getElem?_cons_succ, List.cons_append, List.nil_append, List.append_nil, List.set_cons_zero, List.set_cons_succ, List.replicate_succ, List.replicate_zero, Option.some.injEq, exists_eq_left', V.int.injEq, V.str.injEq, V.ref.injEq, V.bl.injEq, exists_and_left, exists_eq_left, List.cons.injEq, and_true, true_and, tCallX, tRs]
    refine ⟨by omega, g, _, 0, .int x, rfl, rfl, SqL.of hg, rfl, ?_⟩
    simp only [cxOf_K, tAsg2, tYes, wipe, tSeq, tIfS, tNot, tB, tCB, tCons, tNil, tVar, tC, tTest, tOp, tAnd, tOr, tAsg, gName, tRet, tRetN, tDrop, tNext, tIf, tCall, tTup, tLst, tNotV, tAndV, tOrV, tUn, rI0, rI, rU, rEq, rNe, tM1, tM0, tBM, tBM0, tSl, tPart, tNoPart, iStr, iEnumS, iRng1, iRng2, iList, gSub, tBits, tAug, tPar, L2.start, List.map_cons, List.map_nil, List.length_cons, List.length_nil, List.getElem?_cons_zero, List.getElem?_cons_succ, List.cons_append, List.nil_append, List.append_nil, List.set_cons_zero, List.set_cons_succ, List.replicate_succ, List.replicate_zero, Option.some.injEq, exists_eq_left', V.int.injEq, V.str.injEq, V.ref.injEq, V.bl.injEq, exists_and_left, exists_eq_left, List.cons.injEq, and_true, true_and, tCallX, tRs]
    refine ⟨cdivW b0 b1, g, _, 0, 0, rfl, rfl, hg, rfl, ?_⟩
    exact q _ _ (Int.emod_nonneg _ (by omega)) (Int.emod_lt_of_pos _ (by omega)) (fun p o hp ho => by rw [upd_ne hp]; exact ho) ⟨_, _, _, upd_same, y0, y1, z0, by omega⟩
  · refine ifdF hx ?_
    have hb : (Builtin.Int.intBits b : Int) ≤ 50 := by
      have : Builtin.Int.intBits b ≤ 50 := PyProof.Rows.intBits_le (by omega)
      omega
    have hj0 : (0 : Int) ≤ 1 + (Builtin.Int.intBits b : Int) / 30 := by omega
    have hj1 : (1 : Int) + (Builtin.Int.intBits b : Int) / 30 ≤ 2 := by omega
    refine ⟨_, rfl, _, rfl, _, _, rfl, rfl, cdivW (by decide) (by decide), _, _, rfl, rfl, _, rfl, by omega, by omega, for_range (fun i σ H' => ∃ (d : Int) (a3 : Option V) (z' : Int), σ = [some (.ref g), some (.int b), none, some (.int d), a3] ∧ Keep g H H' ∧ H' g = some (.lst [.int x, .int y, .int z']) ∧ z' = z + i)
      ⟨0, none, z, rfl, fun p o _ ho => ho, hg, by simp⟩ ?_ ?_⟩
    · rintro i σ H' hi ⟨d, a3, z', rfl, k0, hg', rfl⟩
      simp only [cxOf_K, tAsg2, tYes, wipe, tSeq, tIfS, tNot, tB, tCB, tCons, tNil, tVar, tC, tTest, tOp, tAnd, tOr, tAsg, gName, tRet, tRetN, tDrop, tNext, tIf, tCall, tTup, tLst, tNotV, tAndV, tOrV, tUn, rI0, rI, rU, rEq, rNe, tM1, tM0, tBM, tBM0, tSl, tPart, tNoPart, iStr, iEnumS, iRng1, iRng2, iList, gSub, tBits, tAug, tPar, L2.start, List.map_cons, List.map_nil, List.length_cons, List.length_nil, List.getElem?_cons_zero, List.getElem?_cons_succ, List.cons_append, List.nil_append, List.append_nil, List.set_cons_zero, List.set_cons_succ, List.replicate_succ, List.replicate_zero, Option.some.injEq, exists_eq_left', V.int.injEq, V.str.injEq, V.ref.injEq, V.bl.injEq, exists_and_left, exists_eq_left, List.cons.injEq, and_true, true_and, tCallX, tRs]
      refine ⟨g, _, 2, .int (z + i), rfl, rfl, SqL.of hg', rfl, ?_⟩
      simp only [cxOf_K, tAsg2, tYes, wipe, tSeq, tIfS, tNot, tB, tCB, tCons, tNil, tVar, tC, tTest, tOp, tAnd, tOr, tAsg, gName, tRet, tRetN, tDrop, tNext, tIf, tCall, tTup, tLst, tNotV, tAndV, tOrV, tUn, rI0, rI, rU, rEq, rNe, tM1, tM0, tBM, tBM0, tSl, tPart, tNoPart, iStr, iEnumS, iRng1, iRng2, iList, gSub, tBits, tAug, tPar, L2.start, List.map_cons, List.map_nil, List.length_cons, List.length_nil, List.getElem?_cons_zero, List.getElem?_cons_succ, List.cons_append, List.nil_append, List.append_nil, List.set_cons_zero, List.set_cons_succ, List.replicate_succ, List.replicate_zero, Option.some.injEq, exists_eq_left', V.int.injEq, V.str.injEq, V.ref.injEq, V.bl.injEq, exists_and_left, exists_eq_left, List.cons.injEq, and_true, true_and, tCallX, tRs]
      refine ⟨g, _, 2, 2, rfl, rfl, hg', rfl, ?_⟩
      refine ⟨cmulR (by decide), g, _, 1, .int y, rfl, rfl, SqL.of upd_same, rfl, ?_⟩
      refine ⟨g, _, 2, .int (z + i + 1), rfl, rfl, SqL.of upd_same, rfl, ?_⟩
      refine ⟨y, z + i + 1, rfl, y0, y1, by omega, by omega, fun r r0 r1 => ?_⟩
      simp only [cxOf_K, tAsg2, tYes, wipe, tSeq, tIfS, tNot, tB, tCB, tCons, tNil, tVar, tC, tTest, tOp, tAnd, tOr, tAsg, gName, tRet, tRetN, tDrop, tNext, tIf, tCall, tTup, tLst, tNotV, tAndV, tOrV, tUn, rI0, rI, rU, rEq, rNe, tM1, tM0, tBM, tBM0, tSl, tPart, tNoPart, iStr, iEnumS, iRng1, iRng2, iList, gSub, tBits, tAug, tPar, L2.start, List.map_cons, List.map_nil, List.length_cons, List.length_nil, List.getElem?_cons_zero, List.getElem?_cons_succ, List.cons_append, List.nil_append, List.append_nil, List.set_cons_zero, List.set_cons_succ, List.replicate_succ, List.replicate_zero, Option.some.injEq, exists_eq_left', V.int.injEq, V.str.injEq, V.ref.injEq, V.bl.injEq, exists_and_left, exists_eq_left, List.cons.injEq, and_true, true_and, tCallX, tRs]
      exact ⟨_, _, ⟨rfl, rfl⟩, fun p o hp ho => by rw [upd_ne hp]; exact k0 p o hp ho, z + i + 1, by rw [upd_same], by omega⟩
    · rintro σ H' ⟨d, a3, z', rfl, k0, hg', rfl⟩
      simp only [cxOf_K, tAsg2, tYes, wipe, tSeq, tIfS, tNot, tB, tCB, tCons, tNil, tVar, tC, tTest, tOp, tAnd, tOr, tAsg, gName, tRet, tRetN, tDrop, tNext, tIf, tCall, tTup, tLst, tNotV, tAndV, tOrV, tUn, rI0, rI, rU, rEq, rNe, tM1, tM0, tBM, tBM0, tSl, tPart, tNoPart, iStr, iEnumS, iRng1, iRng2, iList, gSub, tBits, tAug, tPar, L2.start, List.map_cons, List.map_nil, List.length_cons, List.length_nil, List.getElem?_cons_zero, List.getElem?_cons_succ, List.cons_append, List.nil_append, List.append_nil, List.set_cons_zero, List.set_cons_succ, List.replicate_succ, List.replicate_zero, Option.some.injEq, exists_eq_left', V.int.injEq, V.str.injEq, V.ref.injEq, V.bl.injEq, exists_and_left, exists_eq_left, List.cons.injEq, and_true, true_and, tCallX, tRs]
      exact ⟨by omega, q _ _ (Int.emod_nonneg _ (by omega)) (Int.emod_lt_of_pos _ (by omega)) k0 ⟨_, _, _, hg', y0, y1, by omega, by omega⟩⟩

theorem PurseAt.some {H : Hp} {g : Addr} {n : Nat} (h : PurseAt H g n) : ∃ o, H g = some o := by obtain ⟨a, b, c, h, _⟩ := h; exact ⟨_, h⟩
theorem PurseAt.lst {H : Hp} {g : Addr} {n : Nat} (h : PurseAt H g n) : ∃ ws, H g = Option.some (HO.lst ws) := by obtain ⟨a, b, c, h, _⟩ := h; exact ⟨_, h⟩
theorem PurseAt.same {g : Addr} {H H' : Hp} {n : Nat} (h : PurseAt H g n) (s : Same H H') : PurseAt H' g n := by
  obtain ⟨a, b, c, h, r⟩ := h
  exact ⟨a, b, c, s _ _ h, r⟩
theorem PurseAt.mono {g : Addr} {H : Hp} {n m : Nat} (h : PurseAt H g n) (l : n ≤ m) : PurseAt H g m := by
  obtain ⟨a, b, c, h, x, y, z, u⟩ := h
  exact ⟨a, b, c, h, x, y, z, by omega⟩
theorem PurseAt.new {g p : Addr} {H : Hp} {n : Nat} {o : HO} (h : PurseAt H g n) (hp : H p = none) : PurseAt (upd H p o) g n := h.same ((L2.Same.refl H).new hp o)
theorem ok_law_nest (T : Txt w K mg) : ∀ k : Nat, FnD P w K mg base CX0 (k + 1) 3 T.a_law_nest T.fd_law_nest ["_law_purse_here", "_law_count"] (sp_law_nest K k)
  | 0 => by
    have no : ∀ vs H Q E, ¬ sp_law_nest K 0 vs H Q E := fun vs H Q E h => by
      obtain ⟨_, _, _, _, h, _⟩ := h
      omega
    exact ⟨fun vs H Q E h => absurd h (no vs H Q E), fun A outer s H args us vs Q E _ _ _ _ h => absurd h (no vs H Q E)⟩
  | k + 1 => by
    have rec_law_nest := ok_law_nest T k
    refine okD T.F_law_nest sc_law_nest (fun vs H Q E h => ?_) (fun cdv A outer s H vs Q E hr h => ?_)
    · obtain ⟨g, m, n, rfl, _⟩ := h; rfl
    obtain ⟨g, m, n, rfl, hm, hm2, hg, hn, q⟩ := h
    refine ⟨_, (pss_cons (ps_if (pt_cmpR op_eq (pv 1) pe_int (nomark _)) (pss_one (ps_ret (pe_tup pa_nil))) pss_nil)
    (pss_cons (ps_set (i := 2) sc_law_nest.nd rfl (by first | exact Or.inl rfl | exact Or.inr rfl) (pe_call (ok_law_draw T) (hr.room.mono (by first | decide | omega)) (by rfl) T.m_law_draw T.F_law_draw.kp T.b_law_draw .nil pass0 (pa_cons (pv 0) (pa_cons (pv 1) pa_nil))))
    (pss_cons (ps_set (i := 2) sc_law_nest.nd rfl (by first | exact Or.inl rfl | exact Or.inr rfl) (pe_ix ix_list (pe_lst (pa_cons (pv 2) (pa_cons (pv 2) (pa_cons (pv 2) (pa_cons (pv 2) (pa_cons pe_int (pa_cons (pe_op op_sub (pv 1) pe_int) pa_nil))))))) (pe_call (ok_law_draw T) (hr.room.mono (by first | decide | omega)) (by rfl) T.m_law_draw T.F_law_draw.kp T.b_law_draw .nil pass0 (pa_cons (pv 0) (pa_cons pe_int pa_nil))) (fun _ _ => rfl)))
    (pss_one (ps_ret (pe_tup (pa_cons (pe_callD rec_law_nest (hr.mono (by first | decide | omega) (by first | decide | omega)) (by rfl) T.m_law_nest T.F_law_nest.kp T.b_law_nest .nil pass0 (pa_cons (pv 0) (pa_cons (pv 2) pa_nil))) (pa_cons (pe_callD rec_law_nest (hr.mono (by first | decide | omega) (by first | decide | omega)) (by rfl) T.m_law_nest T.F_law_nest.kp T.b_law_nest .nil pass0 (pa_cons (pv 0) (pa_cons (pe_op op_sub (pe_op op_sub (pv 1) pe_int) (pv 2)) pa_nil))) pa_nil)))))))), ?_⟩
    simp only [cxOf_K, tAsg2, tYes, wipe, tSeq, tIfS, tNot, tB, tCB, tCons, tNil, tVar, tC, tTest, tOp, tAnd, tOr, tAsg, gName, tRet, tRetN, tDrop, tNext, tIf, tCall, tTup, tLst, tNotV, tAndV, tOrV, tUn, rI0, rI, rU, rEq, rNe, tM1, tM0, tBM, tBM0, tSl, tPart, tNoPart, iStr, iEnumS, iRng1, iRng2, iList, gSub, tBits, tAug, tPar, L2.start, List.map_cons, List.map_nil, List.length_cons, List.length_nil, List.getElem?_cons_zero, List.getElem?_cons_succ, List.cons_append, List.nil_append, List.append_nil, List.set_cons_zero, List.set_cons_succ, List.replicate_succ, List.replicate_zero, Option.some.injEq, exists_eq_left', V.int.injEq, V.str.injEq, V.ref.injEq, V.bl.injEq, exists_and_left, exists_eq_left, List.cons.injEq, and_true, true_and, tCallX, tRs]
    refine ⟨rfl, ?_⟩
    by_cases h0 : (m : Int) = 0
    · refine ifdT h0 ⟨by decide, fun p np => ?_⟩
      have : m = 0 := by omega
      subst this
      exact q .leaf _ _ rfl (Keep.of ((L2.Same.refl H).new np _)) ((hg.new np).mono (by omega)) (.leaf upd_same)
    · refine ifdF h0 ?_
      refine ⟨g, m, n, rfl, hg, by omega, by omega, by omega, fun r H1 r0 r1 k1 g1 => ?_⟩
      simp only [cxOf_K, tAsg2, tYes, wipe, tSeq, tIfS, tNot, tB, tCB, tCons, tNil, tVar, tC, tTest, tOp, tAnd, tOr, tAsg, gName, tRet, tRetN, tDrop, tNext, tIf, tCall, tTup, tLst, tNotV, tAndV, tOrV, tUn, rI0, rI, rU, rEq, rNe, tM1, tM0, tBM, tBM0, tSl, tPart, tNoPart, iStr, iEnumS, iRng1, iRng2, iList, gSub, tBits, tAug, tPar, L2.start, List.map_cons, List.map_nil, List.length_cons, List.length_nil, List.getElem?_cons_zero, List.getElem?_cons_succ, List.cons_append, List.nil_append, List.append_nil, List.set_cons_zero, List.set_cons_succ, List.replicate_succ, List.replicate_zero, Option.some.injEq, exists_eq_left', V.int.injEq, V.str.injEq, V.ref.injEq, V.bl.injEq, exists_and_left, exists_eq_left, List.cons.injEq, and_true, true_and, tCallX, tRs]
      refine ⟨by decide, fun p hp => ?_⟩
      obtain ⟨r, rfl⟩ := Int.eq_ofNat_of_zero_le r0
      refine ⟨g, 6, n + 3, rfl, g1.new hp, by omega, by decide, by decide, fun z H2 z0 z1 k2 g2 => ?_⟩
      have hgp : g ≠ p := by obtain ⟨o, ho⟩ := g1.some; exact ne_of_none ho hp
      have hp2 := k2 p _ hgp.symm upd_same
      obtain ⟨L, hL, hL2⟩ : ∃ L : Nat, atI [V.int (r : Nat), V.int (r : Nat), V.int (r : Nat), V.int (r : Nat), .int 0, .int ((m : Int) - 1)] z = some (.int (L : Nat)) ∧ L < m := by
        have : z = 0 ∨ z = 1 ∨ z = 2 ∨ z = 3 ∨ z = 4 ∨ z = 5 := by omega
        rcases this with rfl | rfl | rfl | rfl | rfl | rfl
        · exact ⟨r, rfl, by omega⟩
        · exact ⟨r, rfl, by omega⟩
        · exact ⟨r, rfl, by omega⟩
        · exact ⟨r, rfl, by omega⟩
        · exact ⟨0, rfl, by omega⟩
        · exact ⟨m - 1, by rw [show ((m - 1 : Nat) : Int) = (m : Int) - 1 by omega]; rfl, by omega⟩
      have kA : Keep g H H2 := (k1.trans (Keep.of ((L2.Same.refl H1).new hp _))).trans k2
      refine ⟨p, _, z, .int (L : Nat), rfl, rfl, SqL.of hp2, hL, ?_⟩
      simp only [cxOf_K, tAsg2, tYes, wipe, tSeq, tIfS, tNot, tB, tCB, tCons, tNil, tVar, tC, tTest, tOp, tAnd, tOr, tAsg, gName, tRet, tRetN, tDrop, tNext, tIf, tCall, tTup, tLst, tNotV, tAndV, tOrV, tUn, rI0, rI, rU, rEq, rNe, tM1, tM0, tBM, tBM0, tSl, tPart, tNoPart, iStr, iEnumS, iRng1, iRng2, iList, gSub, tBits, tAug, tPar, L2.start, List.map_cons, List.map_nil, List.length_cons, List.length_nil, List.getElem?_cons_zero, List.getElem?_cons_succ, List.cons_append, List.nil_append, List.append_nil, List.set_cons_zero, List.set_cons_succ, List.replicate_succ, List.replicate_zero, Option.some.injEq, exists_eq_left', V.int.injEq, V.str.injEq, V.ref.injEq, V.bl.injEq, exists_and_left, exists_eq_left, List.cons.injEq, and_true, true_and, tCallX, tRs]
      refine ⟨g, L, n + 3 + 3, rfl, by omega, by omega, g2, by omega, fun t1 v1 H3 ht1 k3 g3 pt1 => ?_⟩
      simp only [cxOf_K, tAsg2, tYes, wipe, tSeq, tIfS, tNot, tB, tCB, tCons, tNil, tVar, tC, tTest, tOp, tAnd, tOr, tAsg, gName, tRet, tRetN, tDrop, tNext, tIf, tCall, tTup, tLst, tNotV, tAndV, tOrV, tUn, rI0, rI, rU, rEq, rNe, tM1, tM0, tBM, tBM0, tSl, tPart, tNoPart, iStr, iEnumS, iRng1, iRng2, iList, gSub, tBits, tAug, tPar, L2.start, List.map_cons, List.map_nil, List.length_cons, List.length_nil, List.getElem?_cons_zero, List.getElem?_cons_succ, List.cons_append, List.nil_append, List.append_nil, List.set_cons_zero, List.set_cons_succ, List.replicate_succ, List.replicate_zero, Option.some.injEq, exists_eq_left', V.int.injEq, V.str.injEq, V.ref.injEq, V.bl.injEq, exists_and_left, exists_eq_left, List.cons.injEq, and_true, true_and, tCallX, tRs]
      refine ⟨g, m - 1 - L, n + 3 + 3 + 6 * L, by rw [show ((m - 1 - L : Nat) : Int) = (m : Int) - 1 - (L : Int) by omega], by omega, by omega, g3, by omega, fun t2 v2 H4 ht2 k4 g4 pt2 => ⟨by decide, fun p5 np5 => ?_⟩⟩
      obtain ⟨wg, eg⟩ := g3.lst
      have pt1' := pt1.keep k4 eg
      have s5 := (L2.Same.refl H4).new np5 (.tup [v1, v2])
      exact q (.node t1 t2) _ _ (by show t1.size + t2.size + 1 = m; omega) (((kA.trans k3).trans k4).trans (Keep.of s5)) ((g4.new np5).mono (by omega)) (.node upd_same (pt1'.same s5) (pt2.same s5))

theorem ok_law_purse (T : Txt w K mg) : FnOk P w K mg base CX0 2 T.a_law_purse T.fd_law_purse ["_law_script", "_law_at"] (sp_law_purse K) := by
  refine T.F_law_purse.ok sc_law_purse (fun vs H Q E h => ?_) (fun cdv A outer s H vs Q E hr h => ?_)
  · obtain ⟨a, ns, i, rfl, _⟩ := h; rfl
  obtain ⟨a, ns, i, rfl, ha, hn, hi, q⟩ := h
  refine ⟨_, (pss_cons (ps_set (i := 2) sc_law_purse.nd rfl (by first | exact Or.inl rfl | exact Or.inr rfl) (pe_callB (cr_sum rfl) (by rfl) T.z_sum (by decide +kernel) (pa_cons (pe_slice sl_list (pv 0) (po_some (pv 1)) (po_some (pe_op op_add (pv 1) pe_int))) pa_nil)))
    (pss_one (ps_ret (pe_lst (pa_cons (pe_op op_mod (pe_callB (call_max2 rfl) (by rfl) T.z_max (by decide +kernel) (pa_cons (pe_op op_sub (pv 2) (pe_op op_powB pe_int pe_int)) (pa_cons pe_int pa_nil))) (pe_op op_powB (pe_op op_powB pe_int pe_int) pe_int)) (pa_cons (pe_op op_mod (pv 2) pe_int) (pa_cons (pe_op op_mul pe_int (pv 1)) pa_nil))))))), ?_⟩
  simp only [cxOf_K, tAsg2, tYes, wipe, tSeq, tIfS, tNot, tB, tCB, tCons, tNil, tVar, tC, tTest, tOp, tAnd, tOr, tAsg, gName, tRet, tRetN, tDrop, tNext, tIf, tCall, tTup, tLst, tNotV, tAndV, tOrV, tUn, rI0, rI, rU, rEq, rNe, tM1, tM0, tBM, tBM0, tSl, tPart, tNoPart, iStr, iEnumS, iRng1, iRng2, iList, gSub, tBits, tAug, tPar, L2.start, List.map_cons, List.map_nil, List.length_cons, List.length_nil, List.getElem?_cons_zero, List.getElem?_cons_succ, List.cons_append, List.nil_append, List.append_nil, List.set_cons_zero, List.set_cons_succ, List.replicate_succ, List.replicate_zero, Option.some.injEq, exists_eq_left', V.int.injEq, V.str.injEq, V.ref.injEq, V.bl.injEq, exists_and_left, exists_eq_left, List.cons.injEq, and_true, true_and, tCallX, tRs]
  refine ⟨a, _, rfl, ha, fun p np => ?_⟩
  obtain ⟨ms, hm⟩ : ∃ ms : List Int, cutV (ns.map V.int) (some (i : Int)) (some ((i : Int) + 1)) = ms.map V.int := by
    unfold cutV
    exact ⟨_, by rw [← List.map_drop, ← List.map_take]⟩
  rw [hm]
  have s1 := (L2.Same.refl H).new np (.lst (ms.map V.int))
  have h1 : upd H p (.lst (ms.map V.int)) p = some (.lst (ms.map V.int)) := upd_same
  generalize upd H p (.lst (ms.map V.int)) = H1 at s1 h1 ⊢
  refine ⟨p, ms, rfl, SqL.of h1, ?_⟩
  refine ⟨⟨by decide, by decide +kernel⟩, _, rfl, _, _, ⟨rfl, rfl⟩, ⟨by decide, by decide +kernel⟩, ⟨by decide, by decide +kernel⟩, by decide +kernel, _, rfl, by decide, cmulL (by decide), by decide, fun g hg => ?_⟩
  exact q g _ (s1.free hg) (s1.new (s1.free hg) _) ⟨_, _, _, upd_same, Int.emod_nonneg _ (by decide), Int.emod_lt_of_pos _ (by decide), by omega, by omega⟩

theorem ok_law_text (T : Txt w K mg) : ∀ k : Nat, FnD P w K mg base CX0 (k + 1) 3 T.a_law_text T.fd_law_text ["_law_nest_here"] (sp_law_text K k)
  | 0 => by
    have no : ∀ vs H Q E, ¬ sp_law_text K 0 vs H Q E := fun vs H Q E h => by
      obtain ⟨_, _, _, _, h, _⟩ := h
      omega
    exact ⟨fun vs H Q E h => absurd h (no vs H Q E), fun A outer s H args us vs Q E _ _ _ _ h => absurd h (no vs H Q E)⟩
  | k + 1 => by
    have rec_law_text := ok_law_text T k
    refine okD T.F_law_text sc_law_text (fun vs H Q E h => ?_) (fun cdv A outer s H vs Q E hr h => ?_)
    · obtain ⟨v, t, rfl, _⟩ := h; rfl
    obtain ⟨v, t, rfl, hv, hk, hs, q⟩ := h
    have hru := hr.room.units
    refine ⟨_, (pss_cons (ps_if (pt_cmpR (TV.op_eqE hru) (pv 0) (pe_tup pa_nil) (nomark _)) (pss_one (ps_ret pe_str)) pss_nil)
    (pss_one (ps_ret (pe_op op_add_str (pe_op op_add_str (pe_op op_add_str pe_str (pe_callD rec_law_text (hr.mono (by first | decide | omega) (by first | decide | omega)) (by rfl) T.m_law_text T.F_law_text.kp T.b_law_text .nil pass0 (pa_cons (pe_ix ix_tup (pv 0) pe_int (fun _ _ => rfl)) pa_nil))) (pe_callD rec_law_text (hr.mono (by first | decide | omega) (by first | decide | omega)) (by rfl) T.m_law_text T.F_law_text.kp T.b_law_text .nil pass0 (pa_cons (pe_ix ix_tup (pv 0) pe_int (fun _ _ => rfl)) pa_nil))) pe_str)))), ?_⟩
    simp only [cxOf_K, tAsg2, tYes, wipe, tSeq, tIfS, tNot, tB, tCB, tCons, tNil, tVar, tC, tTest, tOp, tAnd, tOr, tAsg, gName, tRet, tRetN, tDrop, tNext, tIf, tCall, tTup, tLst, tNotV, tAndV, tOrV, tUn, rI0, rI, rU, rEq, rNe, tM1, tM0, tBM, tBM0, tSl, tPart, tNoPart, iStr, iEnumS, iRng1, iRng2, iList, gSub, tBits, tAug, tPar, L2.start, List.map_cons, List.map_nil, List.length_cons, List.length_nil, List.getElem?_cons_zero, List.getElem?_cons_succ, List.cons_append, List.nil_append, List.append_nil, List.set_cons_zero, List.set_cons_succ, List.replicate_succ, List.replicate_zero, Option.some.injEq, exists_eq_left', V.int.injEq, V.str.injEq, V.ref.injEq, V.bl.injEq, exists_and_left, exists_eq_left, List.cons.injEq, and_true, true_and, tCallX, tRs]
    refine ⟨by decide, fun p hp => ?_⟩
    have s0 := (L2.Same.refl H).new hp (.tup [])
    refine eqLeafE (hv.same s0) upd_same ⟨_, rfl, ?_⟩
    cases hv with
    | leaf h =>
      rw [if_pos (by decide)]
      have := q _ s0
      rw [show trV .leaf = V.str "." from congrArg V.str lit_dot.symm] at this
      exact this
    | @node pn x y l r h hx hy =>
      rw [if_neg (by simp)]
      have e1 : Tr.hgt (Tr.node l r) = max (Tr.hgt l) (Tr.hgt r) + 1 := rfl
      have e2 : (Tr.node l r).size = l.size + r.size + 1 := rfl
      refine ⟨pn, _, 0, x, rfl, rfl, SqT.of (s0 _ _ h), rfl, ?_⟩
      refine ⟨x, l, rfl, hx.same s0, by omega, by omega, fun H1 s1 => ?_⟩
      have s1 := s0.trans s1
      have c1 := tr_len (t := l) (by omega)
      have c2 := tr_len (t := r) (by omega)
      refine ⟨_, rfl, by rw [lit_open, S_len, S_len]; exact small5 (by simp; omega), ?_⟩
      refine ⟨pn, _, 1, y, rfl, rfl, SqT.of (s1 _ _ h), rfl, ?_⟩
      refine ⟨y, r, rfl, hy.same s1, by omega, by omega, fun H2 s2 => ?_⟩
      refine ⟨_, rfl, ?_⟩
      have lc : (")" : Str) = S [41] := lit_close
      rw [lit_open, lc, S_app, S_app, S_app, S_len, S_len, S_len, S_len]
      have e3 : trV (Tr.node l r) = V.str (S ([40] ++ l.cs ++ r.cs ++ [41])) := by
        show V.str (S (40 :: (l.cs ++ (r.cs ++ [41])))) = _
        simp
      refine ⟨small5 (by simp; omega), small5 (by simp; omega), ?_⟩
      rw [← e3]
      exact q _ (s1.trans s2)

theorem armV_take (k : Nat) : ∀ (ns : List Nat) (i : Nat) (n : Nat), ns[i]? = some n → armV k (ns.take (i + 1)) = armV k (ns.take i) ++ List.replicate n (Str.ofString "right", List.replicate (k + i) 114)
  | [], i, n, h => by simp at h
  | m :: ns, 0, n, h => by
    have e : m = n := by simpa using h
    subst e
    show List.replicate m (Str.ofString "right", List.replicate k 114) ++ armV (k + 1) (List.take 0 ns) = armV k [] ++ _
    rw [List.take_zero]
    show List.replicate m _ ++ [] = [] ++ _
    rw [List.append_nil, List.nil_append]; rfl
  | m :: ns, i + 1, n, h => by
    have ih := armV_take (k + 1) ns i n (by simpa using h)
    show List.replicate m (Str.ofString "right", List.replicate k 114) ++ armV (k + 1) (ns.take (i + 1)) = (List.replicate m (Str.ofString "right", List.replicate k 114) ++ armV (k + 1) (ns.take i)) ++ _
    rw [ih, List.append_assoc, Nat.add_right_comm k 1 i]; rfl
theorem armV_len : ∀ (k : Nat) (ns : List Nat), (armV k ns).length = ns.sum
  | _, [] => rfl
  | k, n :: ns => by
    show (List.replicate n (Str.ofString "right", List.replicate k 114) ++ armV (k + 1) ns).length = _
    rw [List.length_append, List.length_replicate, armV_len (k + 1) ns, List.sum_cons]
theorem Stps_snoc {H : Hp} {ws : List V} {xs : List (Str × List Nat)} {p : Addr} {x : Str × List Nat} (h : Stps H ws xs) (hp : H p = some (.tup [.str x.1, sV x.2])) : Stps H (ws ++ [.ref p]) (xs ++ [x]) := h.append (.cons hp .nil)
theorem ok_arm_steps (T : Txt w K mg) : FnOk P w K mg base CX0 1 T.a_arm_steps T.fd_arm_steps ["numbers"] (sp_arm_steps K) := by
  refine T.F_arm_steps.ok sc_arm_steps (fun vs H Q E h => ?_) (fun cdv A outer s H vs Q E hr h => ?_)
  · obtain ⟨_, _, rfl, _⟩ := h; rfl
  obtain ⟨a, ns, rfl, ha, hl, hs, q⟩ := h
  refine ⟨_, (pss_one (ps_ret (pe_lc2 (own := [("index", 1), ("many", 2), ("_", 3)]) (vs1 := [3]) rfl sc_arm_steps.nd (pi_enum (by rfl) T.z_enumerate (pa_cons (pv 0) pa_nil)) (blkOk_by (own := [("index", 1), ("many", 2), ("_", 3)]) (N := nm_arm_steps) (sc := defScope s_arm_steps) (by decide +kernel)) (by simp) (fun _ _ _ _ _ => by exact (show L2.PG _ _ (gTup K 2 _) from (pg_tup rfl (pgs_cons (pg_name (i := 1) sc_arm_steps.nd rfl (by first | exact Or.inl rfl | exact Or.inr rfl)) (pgs_cons (pg_name (i := 2) sc_arm_steps.nd rfl (by first | exact Or.inl rfl | exact Or.inr rfl)) pgs_nil))))) (fun _ _ _ _ _ => by exact pts_nil) (fun _ _ _ _ _ => by exact (pi_range1 rfl T.z_range (pa_cons (pv 2) pa_nil))) (fun _ _ _ _ _ => by exact (pg_name (i := 3) sc_arm_steps.nd rfl (by first | exact Or.inl rfl | exact Or.inr rfl))) (fun _ _ _ _ _ => by exact pts_nil) (fun _ _ _ _ _ => by exact (pe_tup (pa_cons pe_str (pa_cons (pe_op TRp.op_repS pe_str (pv 1)) pa_nil))))))), ?_⟩
  simp only [tLc2, cxOf_K, tAsg2, tYes, wipe, tSeq, tIfS, tNot, tB, tCB, tCons, tNil, tVar, tC, tTest, tOp, tAnd, tOr, tAsg, gName, tRet, tRetN, tDrop, tNext, tIf, tCall, tTup, tLst, tNotV, tAndV, tOrV, tUn, rI0, rI, rU, rEq, rNe, tM1, tM0, tBM, tBM0, tSl, tPart, tNoPart, iStr, iEnumS, iRng1, iRng2, iList, gSub, tBits, tAug, tPar, L2.start, List.map_cons, List.map_nil, List.length_cons, List.length_nil, List.getElem?_cons_zero, List.getElem?_cons_succ, List.cons_append, List.nil_append, List.append_nil, List.set_cons_zero, List.set_cons_succ, List.replicate_succ, List.replicate_zero, Option.some.injEq, exists_eq_left', V.int.injEq, V.str.injEq, V.ref.injEq, V.bl.injEq, exists_and_left, exists_eq_left, List.cons.injEq, and_true, true_and, tCallX, tRs]
  refine ⟨_, rfl, a, _, rfl, SqL.of ha, fun D hD => ?_⟩
  have aD : a ≠ D := ne_of_none ha hD
  refine TAm.lco_enum (K := K) (a := a) (xs := ns.map fun n => V.int (n : Nat)) (fun i H' => Same H H' ∧ ∃ ws, H' D = some (.lst ws) ∧ Stps H' ws (armV 0 (ns.take i))) ⟨(L2.Same.refl H).new hD _, [], upd_same, .nil⟩ (fun i H' _ z => SqL.of (z.1 _ _ ha)) ?_ ?_
  · rintro i x H1 t hi ⟨s1, ws, hd, st⟩ nt
    have il : i < ns.length := by have := (List.getElem?_eq_some_iff.mp hi).1; rwa [List.length_map] at this
    rw [List.getElem?_map] at hi
    obtain ⟨n, hn, rfl⟩ := Option.map_eq_some_iff.mp hi
    have tk := armV_take 0 ns i n hn
    rw [Nat.zero_add] at tk
    have nle : ∀ (ns : List Nat) (i n : Nat), ns[i]? = some n → (ns.take i).sum + n ≤ ns.sum := fun ns => by
      induction ns with
      | nil => intro i n h; simp at h
      | cons m ns ih =>
        intro i n h
        cases i with
        | zero =>
          have e : m = n := by simpa using h
          rw [e, List.sum_cons]; simp
        | succ i =>
          have := ih i n (by simpa using h)
          rw [List.take_succ_cons, List.sum_cons, List.sum_cons]; omega
    have nl := nle ns i n hn
    rw [tk]
    have wl := st.length
    rw [armV_len] at wl
    have s2 := s1.new (s1.free nt) (.tup [.int (i : Nat), .int (n : Nat)])
    have ht : upd H1 t (.tup [.int (i : Nat), .int (n : Nat)]) t = some _ := upd_same
    have st := st.same ((L2.Same.refl H1).new nt (.tup [.int (i : Nat), .int (n : Nat)]))
    have hd : upd H1 t (.tup [.int (i : Nat), .int (n : Nat)]) D = some (.lst ws) := by rw [upd_ne (ne_of_none hd nt)]; exact hd
    generalize upd H1 t (.tup [.int (i : Nat), .int (n : Nat)]) = H2 at s2 ht st hd ⊢
    simp only [gTup, gCons, gNil, cxOf_K, tAsg2, tYes, wipe, tSeq, tIfS, tNot, tB, tCB, tCons, tNil, tVar, tC, tTest, tOp, tAnd, tOr, tAsg, gName, tRet, tRetN, tDrop, tNext, tIf, tCall, tTup, tLst, tNotV, tAndV, tOrV, tUn, rI0, rI, rU, rEq, rNe, tM1, tM0, tBM, tBM0, tSl, tPart, tNoPart, iStr, iEnumS, iRng1, iRng2, iList, gSub, tBits, tAug, tPar, L2.start, List.map_cons, List.map_nil, List.length_cons, List.length_nil, List.getElem?_cons_zero, List.getElem?_cons_succ, List.cons_append, List.nil_append, List.append_nil, List.set_cons_zero, List.set_cons_succ, List.replicate_succ, List.replicate_zero, Option.some.injEq, exists_eq_left', V.int.injEq, V.str.injEq, V.ref.injEq, V.bl.injEq, exists_and_left, exists_eq_left, List.cons.injEq, and_true, true_and, tCallX, tRs]
    refine ⟨_, SqT.of ht, rfl, _, _, rfl, _, _, rfl, rfl, ?_⟩
    rw [if_pos True.intro]
    refine ⟨_, rfl, by omega, by omega, TAm.lco_range (lo := 0) (n := (n : Int).toNat) (fun j H' => Same H H' ∧ ∃ ws, H' D = some (.lst ws) ∧ Stps H' ws (armV 0 (ns.take i) ++ List.replicate j (Str.ofString "right", List.replicate i 114))) ⟨s2, ws, hd, by rw [List.replicate_zero, List.append_nil]; exact st⟩ ?_ ?_⟩
    · rintro j H3 hj ⟨s3, ws3, hd3, st3⟩
      rw [Int.toNat_natCast] at hj
      have wl3 := st3.length
      rw [List.length_append, armV_len, List.length_replicate] at wl3
      rw [if_pos True.intro]
      refine ⟨_, 114, i, rfl, by decide +kernel, rfl, by omega, by decide, fun p np => ?_⟩
      have s4 := (L2.Same.refl H3).new np (.tup [V.str (Str.ofString "right"), sV (List.replicate i 114)])
      have hd4 : upd H3 p (.tup [V.str (Str.ofString "right"), sV (List.replicate i 114)]) D = some (.lst ws3) := by rw [upd_ne (ne_of_none hd3 np)]; exact hd3
      have hp4 : upd H3 p (.tup [V.str (Str.ofString "right"), sV (List.replicate i 114)]) p = some (.tup [V.str (Str.ofString "right"), sV (List.replicate i 114)]) := upd_same
      have st4 := st3.same s4
      have s4 := s3.trans s4
      generalize upd H3 p (.tup [V.str (Str.ofString "right"), sV (List.replicate i 114)]) = H4 at s4 hd4 hp4 st4 ⊢
      refine ⟨ws3, hd4, small5' (by omega), s4.new hD _, ws3 ++ [.ref p], upd_same, ?_⟩
      have k : ∀ b vs, H4 b = some (.tup vs) → upd H4 D (.lst (ws3 ++ [V.ref p])) b = some (.tup vs) := fun b vs e => by rw [upd_ne (fun z => by rw [z, hd4] at e; cases e)]; exact e
      rw [List.replicate_succ', ← List.append_assoc]
      exact Stps_snoc (st4.mono k) (k _ _ hp4)
    · rintro H3 ⟨s3, ws3, hd3, st3⟩
      rw [Int.toNat_natCast] at st3
      exact ⟨s3, ws3, hd3, st3⟩
  · rintro H1 ⟨s1, ws, hd, st⟩
    rw [List.length_map, List.take_length] at st
    exact q D ws _ hD s1 hd st

theorem rstrip_S (c : Nat) (a : List Nat) : Txt.rstripChars (S a) (S [c]) = S (topOf c a) := by
  unfold Txt.rstripChars
  rw [PySem.W.stripBy_eq]
  rw [S_of (PySem.W.stripped _ false true (S a))]
  refine congrArg S ?_
  show ((S a).cps.extract 0 ((S a).length - (((S a).cps.toList.drop 0).reverse.takeWhile (S [c]).cps.contains).length)).toList = _
  rw [List.drop_zero, S_len]
  have e : (S a).cps.toList = a := by simp
  have e2 : (fun x => (S [c]).cps.contains x) = (fun x => x == c) := by
    funext x
    show (#[c] : Array Nat).contains x = _
    simp [Array.contains, eq_comm]
  rw [Array.toList_extract, e]
  show (a.take _).drop 0 = _
  rw [List.drop_zero]
  unfold topOf trail
  rw [show (S [c]).cps.contains = (fun x => x == c) from e2]
  rfl
theorem cutS_less (cs : List Nat) : cutS (S cs) none (some (-1)) = S cs.dropLast := by
  have e : (S cs).length = cs.length := S_len cs
  have e2 : (S cs).cps.toList = cs := by simp
  unfold cutS
  rw [HT.sIx_none, e, e2, List.drop_zero]
  have e3 : HT.sIx cs.length cs.length (some (-1)) - 0 = cs.length - 1 := by
    show (if (-1 : Int) < 0 then ((-1 : Int) + (cs.length : Int)).toNat else min (-1 : Int).toNat cs.length) - 0 = _
    rw [if_pos (by decide)]
    omega
  rw [e3, List.dropLast_eq_take]
theorem join_S0 (ls : List (List Nat)) : Txt.join (S []) (ls.map S) = S (TL.joinL [] ls) := by
  rw [TL.join_eq, ← S_tl (Str.join _ _), TL.tl_join, tl_mapS, tl_S]
theorem ends_S (c : Nat) (a : List Nat) : Txt.endswith (S a) (S [c]) = decide (a.getLast? = some c) := by
  unfold Txt.endswith
  rw [StrLaws.subAt_eq, S_len, S_len]
  have e : (S a).cps.toList = a := by simp
  have e2 : (S [c]).cps.toList = [c] := by simp
  rw [e, e2]
  show (decide (0 + 1 ≤ a.length) && ((a.drop (a.length - 1)).take 1 == [c])) = _
  rcases List.eq_nil_or_concat a with rfl | ⟨p, d, rfl⟩
  · simp
  · rw [List.concat_eq_append]
    simp only [List.length_append, List.length_singleton, List.getLast?_append, List.getLast?_singleton, Option.some_or, Option.some.injEq, Nat.add_sub_cancel, List.drop_left, List.take_succ_cons, List.take_zero]
    rw [decide_eq_true (by omega), Bool.true_and]
    exact Bool.eq_iff_iff.mpr (by simp)
theorem starts_S (a b : List Nat) : Txt.startswith (S a) (S b) = b.isPrefixOf a := by
  unfold Txt.startswith
  rw [StrLaws.subAt_eq, S_len, S_len]
  have e : (S a).cps.toList = a := by simp
  have e2 : (S b).cps.toList = b := by simp
  rw [e, e2, List.drop_zero]
  show (decide (0 + b.length ≤ a.length) && (a.take b.length == b)) = _
  rw [Bool.eq_iff_iff, List.isPrefixOf_iff_prefix, List.prefix_iff_eq_take]
  simp only [Bool.and_eq_true, decide_eq_true_eq, beq_iff_eq]
  constructor
  · rintro ⟨_, h⟩; exact h.symm
  · intro h
    refine ⟨?_, h.symm⟩
    have := congrArg List.length h
    rw [List.length_take] at this
    omega
theorem isA_app {a b : List Nat} (h : isA a = true) (k : isA b = true) : isA (a ++ b) = true := by
  unfold isA at h k ⊢
  rw [List.all_append, h, k]; rfl

theorem ok_begun_off_arm (T : Txt w K mg) : FnOk P w K mg base CX0 2 T.a_begun_off_arm T.fd_begun_off_arm ["address"] (sp_begun_off_arm K) := by
  refine T.F_begun_off_arm.ok sc_begun_off_arm (fun vs H Q E h => ?_) (fun cdv A outer s H vs Q E hr h => ?_)
  · obtain ⟨a, rfl, _⟩ := h; rfl
  obtain ⟨a, rfl, ha, q⟩ := h
  refine ⟨_, (pss_cons (ps_set (i := 1) sc_begun_off_arm.nd rfl (by first | exact Or.inl rfl | exact Or.inr rfl) (pe_m1 PySem.F.slot_str_rstrip PySem.F.type_str_rstrip mt_rstripChars (pv 0) pe_str))
    (pss_cons (ps_set (i := 2) sc_begun_off_arm.nd rfl (by first | exact Or.inl rfl | exact Or.inr rfl) (pe_op op_sub (pe_callB call_len_str (by rfl) T.z_len PySem.boot_len (pa_cons (pv 0) pa_nil)) (pe_callB call_len_str (by rfl) T.z_len PySem.boot_len (pa_cons (pv 1) pa_nil))))
    (pss_cons (ps_set (i := 3) sc_begun_off_arm.nd rfl (by first | exact Or.inl rfl | exact Or.inr rfl) (pe_and (pe_cmpR op_gt (pv 2) pe_int (nomark _)) (pe_one (pe_cmpR op_notIn_sign pe_str (pv 1) (by with_unfolding_all rfl)))))
    (pss_one (ps_ret (pe_ifExp (pt_val (pv 3)) (pe_op op_sub (pv 2) pe_int) (pv 2))))))), ?_⟩
  simp only [cxOf_K, tAsg2, tYes, wipe, tSeq, tIfS, tNot, tB, tCB, tCons, tNil, tVar, tC, tTest, tOp, tAnd, tOr, tAsg, gName, tRet, tRetN, tDrop, tNext, tIf, tCall, tTup, tLst, tNotV, tAndV, tOrV, tUn, rI0, rI, rU, rEq, rNe, tM1, tM0, tBM, tBM0, tSl, tPart, tNoPart, iStr, iEnumS, iRng1, iRng2, iList, gSub, tBits, tAug, tPar, L2.start, List.map_cons, List.map_nil, List.length_cons, List.length_nil, List.getElem?_cons_zero, List.getElem?_cons_succ, List.cons_append, List.nil_append, List.append_nil, List.set_cons_zero, List.set_cons_succ, List.replicate_succ, List.replicate_zero, Option.some.injEq, exists_eq_left', V.int.injEq, V.str.injEq, V.ref.injEq, V.bl.injEq, exists_and_left, exists_eq_left, List.cons.injEq, and_true, true_and, tCallX, tRs]
  have al : (S a).length = a.length := S_len a
  have tl := trail_le 108 a
  have tp : (S (topOf 108 a)).length = a.length - trail 108 a := by
    rw [S_len]
    unfold topOf
    rw [List.length_take]
    omega
  rw [show Str.ofString "l" = S [108] by decide +kernel, rstrip_S, al, tp]
  have hb : (a.length : Int) - ((a.length - trail 108 a : Nat) : Int) = (trail 108 a : Nat) := by omega
  have em : (S (topOf 108 a)).cps.toList = topOf 108 a := by simp
  rw [hb]
  refine ⟨⟨_, rfl⟩, small5 (by omega), small5 (by omega), small5 (by omega), ?_⟩
  have fin : ∀ z : Int, z = ((bg a : Nat) : Int) → Q (.int z) H := fun z hz => by rw [hz]; exact q
  by_cases h0 : 0 < trail 108 a
  · rw [if_pos (decide_eq_true (by omega))]
    refine ⟨108, rfl, ?_⟩
    rw [em]
    by_cases hm : 108 ∈ topOf 108 a
    · rw [if_neg (by simp [hm])]
      refine fin _ ?_
      unfold bg
      rw [if_neg (fun z => z.2 hm)]
    · rw [if_pos (by simp [hm])]
      refine fin _ ?_
      unfold bg
      rw [if_pos ⟨h0, hm⟩]
      omega
  · rw [if_neg (by simp only [decide_eq_true_eq]; omega), if_neg Bool.false_ne_true]
    refine fin _ ?_
    unfold bg
    rw [if_neg (fun z => h0 z.1)]

theorem isT_nil (st : List Str) : isT [] st = st.isEmpty := rfl
theorem isT_open {c : Nat} {cs : List Nat} {st : List Str} {wd : Str} {st' : List Str} (hw : st.headD "end" = wd) (ht : st.tail = st') (h : wd = "tree" ∧ S [c] = "(") : isT (c :: cs) st = isT cs ("tree" :: "tree" :: ")" :: st') := by
  subst hw; subst ht
  show (if _ then _ else _) = _
  rw [if_pos h]
theorem isT_bad {c : Nat} {cs : List Nat} {st : List Str} {wd : Str} (hw : st.headD "end" = wd) (h : ¬ (wd = "tree" ∧ S [c] = "(")) (h2 : wd ≠ S [c] ∧ ¬ (wd = "tree" ∧ S [c] = ".")) : isT (c :: cs) st = false := by
  subst hw
  show (if _ then _ else _) = _
  rw [if_neg h, if_pos h2]
theorem isT_on {c : Nat} {cs : List Nat} {st : List Str} {wd : Str} {st' : List Str} (hw : st.headD "end" = wd) (ht : st.tail = st') (h : ¬ (wd = "tree" ∧ S [c] = "(")) (h2 : ¬ (wd ≠ S [c] ∧ ¬ (wd = "tree" ∧ S [c] = "."))) : isT (c :: cs) st = isT cs st' := by
  subst hw; subst ht
  show (if _ then _ else _) = _
  rw [if_neg h, if_neg h2]
theorem ok_is_tree (T : Txt w K mg) : FnOk P w K mg base CX0 1 T.a_is_tree T.fd_is_tree ["value"] (sp_is_tree K) := by
  refine T.F_is_tree.ok sc_is_tree (fun vs H Q E h => ?_) (fun cdv A outer s H vs Q E hr h => ?_)
  · obtain ⟨v, rfl, _⟩ := h; rfl
  obtain ⟨v, rfl, h⟩ := h
  refine ⟨_, (pss_cons (ps_if (pt_not (pt_val (pe_callB call_isi (by rfl) T.z_isinstance (by decide +kernel) (pa_cons (pv 0) (pa_cons (pe_bltn (v := .ty "str") (by rfl) T.z_str (by decide +kernel) rfl) pa_nil))))) (pss_one (ps_ret pe_bl)) pss_nil)
    (pss_cons (ps_set (i := 1) sc_is_tree.nd rfl (by first | exact Or.inl rfl | exact Or.inr rfl) (pe_lst (pa_cons pe_str pa_nil)))
    (pss_cons (ps_for PassesOwn.never rfl (pi_str (pv 0)) (pg_name (i := 2) sc_is_tree.nd rfl (by first | exact Or.inl rfl | exact Or.inr rfl)) (pss_cons (ps_set (i := 3) sc_is_tree.nd rfl (by first | exact Or.inl rfl | exact Or.inr rfl) (pe_ifExp (pt_truth (pv 1) (fun _ => rfl)) (pe_bm0 PySem.F.plainAttrs_list PySem.F.slot_list_pop PySem.F.type_list_pop mt_pop (pv 1)) pe_str))
    (pss_one (ps_if (pw_and (pt_cmpR op_eq (pv 3) pe_str (nomark _)) (pw_and1 (pt_cmpR op_eq (pv 2) pe_str (nomark _)))).pt (pss_one (ps_expr (pe_bm PySem.F.plainAttrs_list PySem.F.slot_list_extend PySem.F.type_list_extend mt_extend (pv 1) (pa_cons (pe_lst (pa_cons pe_str (pa_cons pe_str (pa_cons pe_str pa_nil)))) pa_nil)))) (pss_one (ps_if (pw_and (pt_cmpR op_ne (pv 3) (pv 2) (nomark _)) (pw_and1 (pt_not (pw_and (pt_cmpR op_eq (pv 3) pe_str (nomark _)) (pw_and1 (pt_cmpR op_eq (pv 2) pe_str (nomark _)))).pt))).pt (pss_one (ps_ret pe_bl)) pss_nil))))))
    (pss_one (ps_ret (pe_notT (pv 1))))))), ?_⟩
  rcases h with ⟨x, rfl, hx, q⟩ | ⟨⟨t, ht, hk⟩, q⟩
  · simp only [cxOf_K, tAsg2, tYes, wipe, tSeq, tIfS, tNot, tB, tCB, tCons, tNil, tVar, tC, tTest, tOp, tAnd, tOr, tAsg, gName, tRet, tRetN, tDrop, tNext, tIf, tCall, tTup, tLst, tNotV, tAndV, tOrV, tUn, rI0, rI, rU, rEq, rNe, tM1, tM0, tBM, tBM0, tSl, tPart, tNoPart, iStr, iEnumS, iRng1, iRng2, iList, gSub, tBits, tAug, tPar, L2.start, List.map_cons, List.map_nil, List.length_cons, List.length_nil, List.getElem?_cons_zero, List.getElem?_cons_succ, List.cons_append, List.nil_append, List.append_nil, List.set_cons_zero, List.set_cons_succ, List.replicate_succ, List.replicate_zero, Option.some.injEq, exists_eq_left', V.int.injEq, V.str.injEq, V.ref.injEq, V.bl.injEq, exists_and_left, exists_eq_left, List.cons.injEq, and_true, true_and, tCallX, tRs]
    refine ⟨_, _, _, _, true, rfl, .ty _, .base (.str x), kit_ty (by decide +kernel), _, rfl, ?_⟩
    refine ⟨by decide, fun p hp => ⟨_, rfl, x, rfl, for_str (fun i σ H' => ∃ (st : List Str) (a2 a3 : Option V), σ = [some (.str x), some (.ref p), a2, a3] ∧ Same H H' ∧ H' p = some (.lst (st.reverse.map V.str)) ∧
      isT (x.cps.toList.drop i) st = isT x.cps.toList ["tree"] ∧ st.length ≤ 1 + 2 * i) ⟨_, none, none, rfl, (L2.Same.refl H).new hp _, upd_same, rfl, by decide⟩ ?_ ?_⟩⟩
    · rintro i c σ H' hc ⟨st, a2, a3, rfl, s0, hl, he, hn⟩
      have hi : i < x.cps.size := (Array.getElem?_eq_some_iff.mp hc).1
      have hxl : x.cps.size = x.length := rfl
      have hd : x.cps.toList.drop i = c :: x.cps.toList.drop (i + 1) := by
        rw [List.drop_eq_getElem_cons (by simpa using hi)]
        congr 1
        have := (Array.getElem?_eq_some_iff.mp hc).2
        simpa using this
      rw [hd] at he
      simp only [cxOf_K, tAsg2, tYes, wipe, tSeq, tIfS, tNot, tB, tCB, tCons, tNil, tVar, tC, tTest, tOp, tAnd, tOr, tAsg, gName, tRet, tRetN, tDrop, tNext, tIf, tCall, tTup, tLst, tNotV, tAndV, tOrV, tUn, rI0, rI, rU, rEq, rNe, tM1, tM0, tBM, tBM0, tSl, tPart, tNoPart, iStr, iEnumS, iRng1, iRng2, iList, gSub, tBits, tAug, tPar, L2.start, List.map_cons, List.map_nil, List.length_cons, List.length_nil, List.getElem?_cons_zero, List.getElem?_cons_succ, List.cons_append, List.nil_append, List.append_nil, List.set_cons_zero, List.set_cons_succ, List.replicate_succ, List.replicate_zero, Option.some.injEq, exists_eq_left', V.int.injEq, V.str.injEq, V.ref.injEq, V.bl.injEq, exists_and_left, exists_eq_left, List.cons.injEq, and_true, true_and, tCallX, tRs]
      have hS : ({ cps := #[c] } : Str) = S [c] := rfl
      rcases st with _ | ⟨w0, st⟩
      · refine ⟨false, .inl ⟨_, SqL.of hl, rfl⟩, ?_⟩
        rw [if_neg Bool.false_ne_true]
        obtain ⟨st0, hst0⟩ : ∃ st0 : List Str, st0 = [] := ⟨_, rfl⟩
        replace he : isT (c :: x.cps.toList.drop (i + 1)) st0 = isT x.cps.toList ["tree"] := by rw [hst0]; exact he
        obtain ⟨wd, hwd⟩ : ∃ wd, wd = Str.ofString "end" := ⟨_, rfl⟩
        rw [← hwd]
        obtain ⟨st', hst'⟩ : ∃ st' : List Str, st' = [] := ⟨_, rfl⟩
        have hw : st0.headD "end" = wd := by rw [hst0, hwd]; rfl
        have ht : st0.tail = st' := by rw [hst0, hst']; rfl
        have hn' : st'.length ≤ 2 * i := by rw [hst']; exact Nat.zero_le _
        rw [← hst'] at hl
        try simp only [V.str.injEq]
        refine ⟨rfl, ?_⟩
        have yes : wd = "tree" → S [c] = "(" → ∀ l, H' l = none → ∃ st2 a2 a3, (some (V.str ⟨#[c]⟩) = a2 ∧ some (V.str wd) = a3) ∧ Same H (upd (upd H' l (.lst [.str ")", .str "tree", .str "tree"])) p (.lst (st'.reverse.map V.str ++ [.str ")", .str "tree", .str "tree"]))) ∧
            upd (upd H' l (.lst [.str ")", .str "tree", .str "tree"])) p (.lst (st'.reverse.map V.str ++ [.str ")", .str "tree", .str "tree"])) p = some (.lst (List.map V.str st2.reverse)) ∧ isT (x.cps.toList.drop (i + 1)) st2 = isT x.cps.toList ["tree"] ∧ st2.length ≤ 1 + 2 * (i + 1) := fun h1 h2 l hl' => by
          refine ⟨"tree" :: "tree" :: ")" :: st', _, _, ⟨rfl, rfl⟩, ((s0.new (s0.free hl') _).new hp _), ?_, ?_, ?_⟩
          · rw [upd_same]; simp
          · rw [← he, isT_open hw ht ⟨h1, h2⟩]
          · simp only [List.length_cons]; omega
        have no : ¬ (wd = "tree" ∧ S [c] = "(") → (if (!decide (wd = S [c])) = true then scal (V.str wd) (V.str "tree") = true ∧ (if decide (wd = "tree") = true then scal (V.str (S [c])) (V.str ".") = true ∧ (if (!decide (S [c] = ".")) = true then Q (V.bl false) H' else
              ∃ st2 a2 a3, (some (V.str ⟨#[c]⟩) = a2 ∧ some (V.str wd) = a3) ∧ Same H H' ∧ H' p = some (.lst (List.map V.str st2.reverse)) ∧ isT (x.cps.toList.drop (i + 1)) st2 = isT x.cps.toList ["tree"] ∧ st2.length ≤ 1 + 2 * (i + 1))
              else if (!false) = true then Q (V.bl false) H' else ∃ st2 a2 a3, (some (V.str ⟨#[c]⟩) = a2 ∧ some (V.str wd) = a3) ∧ Same H H' ∧ H' p = some (.lst (List.map V.str st2.reverse)) ∧ isT (x.cps.toList.drop (i + 1)) st2 = isT x.cps.toList ["tree"] ∧ st2.length ≤ 1 + 2 * (i + 1))
            else if false = true then Q (V.bl false) H' else ∃ st2 a2 a3, (some (V.str ⟨#[c]⟩) = a2 ∧ some (V.str wd) = a3) ∧ Same H H' ∧ H' p = some (.lst (List.map V.str st2.reverse)) ∧ isT (x.cps.toList.drop (i + 1)) st2 = isT x.cps.toList ["tree"] ∧ st2.length ≤ 1 + 2 * (i + 1)) := fun hno => by
          have bad : wd ≠ S [c] → ¬ (wd = "tree" ∧ S [c] = ".") → Q (V.bl false) H' := fun h1 h2 => by
            rw [isT_bad hw hno ⟨h1, h2⟩] at he
            rw [he]; exact q _ s0
          have good : ¬ (wd ≠ S [c] ∧ ¬ (wd = "tree" ∧ S [c] = ".")) → ∃ st2 a2 a3, (some (V.str ⟨#[c]⟩) = a2 ∧ some (V.str wd) = a3) ∧ Same H H' ∧ H' p = some (.lst (List.map V.str st2.reverse)) ∧ isT (x.cps.toList.drop (i + 1)) st2 = isT x.cps.toList ["tree"] ∧ st2.length ≤ 1 + 2 * (i + 1) := fun h => by
            rw [isT_on hw ht hno h] at he
            exact ⟨st', _, _, ⟨rfl, rfl⟩, s0, hl, he, by omega⟩
          by_cases e1 : wd = S [c]
          · rw [if_neg (by simp [e1]), if_neg Bool.false_ne_true]
            exact good (fun h => h.1 e1)
          · rw [if_pos (by simp [e1])]
            refine ⟨rfl, ?_⟩
            by_cases e2 : wd = "tree"
            · rw [if_pos (decide_eq_true e2)]
              refine ⟨rfl, ?_⟩
              by_cases e3 : S [c] = "."
              · rw [if_neg (by simp [e3])]
                exact good (fun h => h.2 ⟨e2, e3⟩)
              · rw [if_pos (by simp [e3])]
                exact bad e1 (fun h => e3 h.2)
            · rw [if_neg (by simp [e2]), if_pos (show (!false) = true from rfl)]
              exact bad e1 (fun h => e2 h.1)
        by_cases h1 : wd = "tree"
        · rw [if_pos (decide_eq_true h1)]
          refine ⟨rfl, ?_⟩
          by_cases h2 : S [c] = "("
          · rw [if_pos (decide_eq_true h2)]
            refine ⟨tyV_lst hl, by decide, fun l hl' => ⟨p, l, st'.reverse.map V.str, _, rfl, rfl, ?_, upd_same, ?_, ?_⟩⟩
            · rw [upd_ne (ne_of_none hl hl')]; exact hl
            · simp only [List.length_map, List.length_reverse, List.length_cons, List.length_nil]
              exact small5 (by omega)
            · exact yes h1 h2 l hl'
          · rw [if_neg (by simp only [decide_eq_true_eq]; exact h2)]
            exact ⟨rfl, no (fun h => h2 h.2)⟩
        · rw [if_neg (by simp only [decide_eq_true_eq]; exact h1), if_neg Bool.false_ne_true]
          exact ⟨rfl, no (fun h => h1 h.1)⟩
      · refine ⟨true, .inl ⟨_, SqL.of hl, by simp⟩, ?_⟩
        rw [if_pos rfl]
        refine ⟨tyV_lst hl, p, _, .str w0, rfl, rfl, hl, by simp, ?_⟩
        have hl' : (upd H' p (.lst ((List.map V.str (w0 :: st).reverse).dropLast))) p = some (.lst (st.reverse.map V.str)) := by
          rw [upd_same]; simp
        have s0' := s0.new hp (.lst ((List.map V.str (w0 :: st).reverse).dropLast))
        generalize upd H' p (.lst ((List.map V.str (w0 :: st).reverse).dropLast)) = H' at hl' s0' ⊢
        replace hl := hl'
        replace s0 := s0'
        have hn' : st.length ≤ 2 * i := by simp only [List.length_cons] at hn; omega
        obtain ⟨st0, hst0⟩ : ∃ st0 : List Str, st0 = w0 :: st := ⟨_, rfl⟩
        rw [← hst0] at he
        have hw : st0.headD "end" = w0 := by rw [hst0]; rfl
        have ht : st0.tail = st := by rw [hst0]; rfl
        obtain ⟨wd, hwd⟩ : ∃ wd, wd = w0 := ⟨_, rfl⟩
        rw [← hwd] at hw ⊢
        obtain ⟨st', hst'⟩ : ∃ st' : List Str, st' = st := ⟨_, rfl⟩
        rw [← hst'] at ht hl hn'
        try simp only [V.str.injEq]
        refine ⟨rfl, ?_⟩
        have yes : wd = "tree" → S [c] = "(" → ∀ l, H' l = none → ∃ st2 a2 a3, (some (V.str ⟨#[c]⟩) = a2 ∧ some (V.str wd) = a3) ∧ Same H (upd (upd H' l (.lst [.str ")", .str "tree", .str "tree"])) p (.lst (st'.reverse.map V.str ++ [.str ")", .str "tree", .str "tree"]))) ∧
            upd (upd H' l (.lst [.str ")", .str "tree", .str "tree"])) p (.lst (st'.reverse.map V.str ++ [.str ")", .str "tree", .str "tree"])) p = some (.lst (List.map V.str st2.reverse)) ∧ isT (x.cps.toList.drop (i + 1)) st2 = isT x.cps.toList ["tree"] ∧ st2.length ≤ 1 + 2 * (i + 1) := fun h1 h2 l hl' => by
          refine ⟨"tree" :: "tree" :: ")" :: st', _, _, ⟨rfl, rfl⟩, ((s0.new (s0.free hl') _).new hp _), ?_, ?_, ?_⟩
          · rw [upd_same]; simp
          · rw [← he, isT_open hw ht ⟨h1, h2⟩]
          · simp only [List.length_cons]; omega
        have no : ¬ (wd = "tree" ∧ S [c] = "(") → (if (!decide (wd = S [c])) = true then scal (V.str wd) (V.str "tree") = true ∧ (if decide (wd = "tree") = true then scal (V.str (S [c])) (V.str ".") = true ∧ (if (!decide (S [c] = ".")) = true then Q (V.bl false) H' else
              ∃ st2 a2 a3, (some (V.str ⟨#[c]⟩) = a2 ∧ some (V.str wd) = a3) ∧ Same H H' ∧ H' p = some (.lst (List.map V.str st2.reverse)) ∧ isT (x.cps.toList.drop (i + 1)) st2 = isT x.cps.toList ["tree"] ∧ st2.length ≤ 1 + 2 * (i + 1))
              else if (!false) = true then Q (V.bl false) H' else ∃ st2 a2 a3, (some (V.str ⟨#[c]⟩) = a2 ∧ some (V.str wd) = a3) ∧ Same H H' ∧ H' p = some (.lst (List.map V.str st2.reverse)) ∧ isT (x.cps.toList.drop (i + 1)) st2 = isT x.cps.toList ["tree"] ∧ st2.length ≤ 1 + 2 * (i + 1))
            else if false = true then Q (V.bl false) H' else ∃ st2 a2 a3, (some (V.str ⟨#[c]⟩) = a2 ∧ some (V.str wd) = a3) ∧ Same H H' ∧ H' p = some (.lst (List.map V.str st2.reverse)) ∧ isT (x.cps.toList.drop (i + 1)) st2 = isT x.cps.toList ["tree"] ∧ st2.length ≤ 1 + 2 * (i + 1)) := fun hno => by
          have bad : wd ≠ S [c] → ¬ (wd = "tree" ∧ S [c] = ".") → Q (V.bl false) H' := fun h1 h2 => by
            rw [isT_bad hw hno ⟨h1, h2⟩] at he
            rw [he]; exact q _ s0
          have good : ¬ (wd ≠ S [c] ∧ ¬ (wd = "tree" ∧ S [c] = ".")) → ∃ st2 a2 a3, (some (V.str ⟨#[c]⟩) = a2 ∧ some (V.str wd) = a3) ∧ Same H H' ∧ H' p = some (.lst (List.map V.str st2.reverse)) ∧ isT (x.cps.toList.drop (i + 1)) st2 = isT x.cps.toList ["tree"] ∧ st2.length ≤ 1 + 2 * (i + 1) := fun h => by
            rw [isT_on hw ht hno h] at he
            exact ⟨st', _, _, ⟨rfl, rfl⟩, s0, hl, he, by omega⟩
          by_cases e1 : wd = S [c]
          · rw [if_neg (by simp [e1]), if_neg Bool.false_ne_true]
            exact good (fun h => h.1 e1)
          · rw [if_pos (by simp [e1])]
            refine ⟨rfl, ?_⟩
            by_cases e2 : wd = "tree"
            · rw [if_pos (decide_eq_true e2)]
              refine ⟨rfl, ?_⟩
              by_cases e3 : S [c] = "."
              · rw [if_neg (by simp [e3])]
                exact good (fun h => h.2 ⟨e2, e3⟩)
              · rw [if_pos (by simp [e3])]
                exact bad e1 (fun h => e3 h.2)
            · rw [if_neg (by simp [e2]), if_pos (show (!false) = true from rfl)]
              exact bad e1 (fun h => e2 h.1)
        by_cases h1 : wd = "tree"
        · rw [if_pos (decide_eq_true h1)]
          refine ⟨rfl, ?_⟩
          by_cases h2 : S [c] = "("
          · rw [if_pos (decide_eq_true h2)]
            refine ⟨tyV_lst hl, by decide, fun l hl' => ⟨p, l, st'.reverse.map V.str, _, rfl, rfl, ?_, upd_same, ?_, ?_⟩⟩
            · rw [upd_ne (ne_of_none hl hl')]; exact hl
            · simp only [List.length_map, List.length_reverse, List.length_cons, List.length_nil]
              exact small5 (by omega)
            · exact yes h1 h2 l hl'
          · rw [if_neg (by simp only [decide_eq_true_eq]; exact h2)]
            exact ⟨rfl, no (fun h => h2 h.2)⟩
        · rw [if_neg (by simp only [decide_eq_true_eq]; exact h1), if_neg Bool.false_ne_true]
          exact ⟨rfl, no (fun h => h1 h.1)⟩
    · rintro σ H' ⟨st, a2, a3, rfl, s0, hl, he, hn⟩
      have : x.cps.toList.drop x.cps.size = [] := List.drop_eq_nil_of_le (by simp)
      rw [this, isT_nil] at he
      simp only [cxOf_K, tAsg2, tYes, wipe, tSeq, tIfS, tNot, tB, tCB, tCons, tNil, tVar, tC, tTest, tOp, tAnd, tOr, tAsg, gName, tRet, tRetN, tDrop, tNext, tIf, tCall, tTup, tLst, tNotV, tAndV, tOrV, tUn, rI0, rI, rU, rEq, rNe, tM1, tM0, tBM, tBM0, tSl, tPart, tNoPart, iStr, iEnumS, iRng1, iRng2, iList, gSub, tBits, tAug, tPar, L2.start, List.map_cons, List.map_nil, List.length_cons, List.length_nil, List.getElem?_cons_zero, List.getElem?_cons_succ, List.cons_append, List.nil_append, List.append_nil, List.set_cons_zero, List.set_cons_succ, List.replicate_succ, List.replicate_zero, Option.some.injEq, exists_eq_left', V.int.injEq, V.str.injEq, V.ref.injEq, V.bl.injEq, exists_and_left, exists_eq_left, List.cons.injEq, and_true, true_and, tCallX, tRs, tNotT]
      refine ⟨!st.isEmpty, .inl ⟨_, SqL.of hl, by simp⟩, ?_⟩
      rw [Bool.not_not, he]
      exact q _ s0
  · simp only [cxOf_K, tAsg2, tYes, wipe, tSeq, tIfS, tNot, tB, tCB, tCons, tNil, tVar, tC, tTest, tOp, tAnd, tOr, tAsg, gName, tRet, tRetN, tDrop, tNext, tIf, tCall, tTup, tLst, tNotV, tAndV, tOrV, tUn, rI0, rI, rU, rEq, rNe, tM1, tM0, tBM, tBM0, tSl, tPart, tNoPart, iStr, iEnumS, iRng1, iRng2, iList, gSub, tBits, tAug, tPar, L2.start, List.map_cons, List.map_nil, List.length_cons, List.length_nil, List.getElem?_cons_zero, List.getElem?_cons_succ, List.cons_append, List.nil_append, List.append_nil, List.set_cons_zero, List.set_cons_succ, List.replicate_succ, List.replicate_zero, Option.some.injEq, exists_eq_left', V.int.injEq, V.str.injEq, V.ref.injEq, V.bl.injEq, exists_and_left, exists_eq_left, List.cons.injEq, and_true, true_and, tCallX, tRs]
    exact ⟨_, _, _, _, false, rfl, .ty _, ht, hk, _, rfl, q⟩

theorem lit_ne (c : Nat) : ("tree" : Str) ≠ S [c] := by
  intro h
  rw [lit_tree] at h
  have := S_inj h
  simp at this
theorem isT_tree : ∀ (t : Tr) (rest : List Nat) (st : List Str), isT (t.cs ++ rest) ("tree" :: st) = isT rest st
  | .leaf, rest, st => by
    show isT (46 :: rest) ("tree" :: st) = _
    refine isT_on (st := "tree" :: st) (wd := "tree") rfl rfl (fun h => ?_) (fun h => h.2 ⟨rfl, lit_dot.symm⟩)
    have := h.2
    rw [lit_open] at this
    have := S_inj this
    simp at this
  | .node l r, rest, st => by
    show isT (40 :: ((l.cs ++ (r.cs ++ [41])) ++ rest)) ("tree" :: st) = _
    rw [isT_open (st := "tree" :: st) (wd := "tree") (st' := st) rfl rfl ⟨rfl, lit_open.symm⟩, List.append_assoc, isT_tree l, List.append_assoc, isT_tree r]
    show isT (41 :: ([] ++ rest)) (")" :: st) = _
    rw [isT_on (st := ")" :: st) (wd := ")") (st' := st) rfl rfl]
    · rfl
    · intro h; exact absurd h.1 (by decide +kernel)
    · intro h; exact h.1 lit_close
theorem isT_text (t : Tr) : isT t.cs ["tree"] = true := by
  have := isT_tree t [] []
  rw [List.append_nil] at this
  rw [this]; rfl
theorem ok_check_tree (T : Txt w K mg) : FnOk P w K mg base (L2.CX P w) 3 T.a_check_tree T.fd_check_tree ["value"] (sp_check_tree T) := by
  refine T.F_check_tree.okX sc_check_tree (fun vs H Q E h => ?_) (fun cdv A outer s H vs Q E hr h => ?_)
  · obtain ⟨v, rfl, _⟩ := h; rfl
  obtain ⟨v, rfl, h⟩ := h
  refine ⟨_, (pss_one (ps_if (pt_not (pt_val (pe_call (ok_is_tree T) (hr.mono (by first | decide | omega)) (by rfl) T.m_is_tree T.F_is_tree.kp T.b_is_tree .nil pass0 (pa_cons (pv 0) pa_nil)))) (pss_one (ps_raise rfl (takes_of rfl rfl rfl rfl) (pmk_err T.o_InvalidTree (hr.mono (by first | decide | omega)) (by rfl) (pv 0)))) pss_nil)), ?_⟩
  simp only [cxOf_K, tAsg2, tYes, wipe, tSeq, tIfS, tNot, tB, tCB, tCons, tNil, tVar, tC, tTest, tOp, tAnd, tOr, tAsg, gName, tRet, tRetN, tDrop, tNext, tIf, tCall, tTup, tLst, tNotV, tAndV, tOrV, tUn, rI0, rI, rU, rEq, rNe, tM1, tM0, tBM, tBM0, tSl, tPart, tNoPart, iStr, iEnumS, iRng1, iRng2, iList, gSub, tBits, tAug, tPar, L2.start, List.map_cons, List.map_nil, List.length_cons, List.length_nil, List.getElem?_cons_zero, List.getElem?_cons_succ, List.cons_append, List.nil_append, List.append_nil, List.set_cons_zero, List.set_cons_succ, List.replicate_succ, List.replicate_zero, Option.some.injEq, exists_eq_left', V.int.injEq, V.str.injEq, V.ref.injEq, V.bl.injEq, exists_and_left, exists_eq_left, List.cons.injEq, and_true, true_and, tCallX, tRs]
  rcases h with ⟨t, rfl, ht, q⟩ | ⟨nt, out⟩
  · refine ⟨_, rfl, .inl ⟨_, rfl, by rw [S_len]; have := tr_len ht; omega, fun H' s0 => ?_⟩⟩
    refine ⟨true, by rw [← isT_text t], ?_⟩
    exact iteF (q _ s0)
  · rcases nt with ⟨x, rfl, hx, e⟩ | ns
    · refine ⟨_, rfl, .inl ⟨x, rfl, hx, fun H' s0 => ⟨false, by rw [e], ?_⟩⟩⟩
      rw [if_pos (show (!false) = true from rfl)]
      exact fun d H2 s2 n e2 => out d H2 (s0.trans s2) (s0.free n) e2
    · refine ⟨v, rfl, .inr ⟨ns, false, rfl, ?_⟩⟩
      rw [if_pos (show (!false) = true from rfl)]
      exact out

theorem Tups.same {H H' : Hp} (s : Same H H') : ∀ {vs : List V} {xs : List (List Nat × Nat)}, Tups H vs xs → Tups H' vs xs
  | _, _, .nil => .nil
  | _, _, .cons a b => .cons (s _ _ a) (Tups.same s b)
theorem Tups.keep {H H' : Hp} {g : Addr} {ws : List V} (s : Keep g H H') (hg : H g = some (.lst ws)) : ∀ {vs : List V} {xs : List (List Nat × Nat)}, Tups H vs xs → Tups H' vs xs
  | _, _, .nil => .nil
  | _, _, .cons a b => .cons (s _ _ (ne_of a hg fun z => by cases z) a) (Tups.keep s hg b)
theorem Tups.append {H : Hp} : ∀ {vs : List V} {xs : List (List Nat × Nat)} {us : List V} {ys : List (List Nat × Nat)}, Tups H vs xs → Tups H us ys → Tups H (vs ++ us) (xs ++ ys)
  | _, _, _, _, .nil, b => b
  | _, _, _, _, .cons a c, b => .cons a (Tups.append c b)
theorem Tups.length {H : Hp} : ∀ {vs : List V} {xs : List (List Nat × Nat)}, Tups H vs xs → vs.length = xs.length
  | _, _, .nil => rfl
  | _, _, .cons _ b => congrArg Nat.succ (Tups.length b)
theorem Tups.get {H : Hp} : ∀ {vs : List V} {xs : List (List Nat × Nat)} {i : Nat} {v : V}, Tups H vs xs → vs[i]? = some v → ∃ p x, v = .ref p ∧ xs[i]? = some x ∧ H p = some (.tup [sV x.1, sV [x.2]])
  | _, _, 0, _, .cons a _, h => by
    cases h
    exact ⟨_, _, rfl, rfl, a⟩
  | _, _, i + 1, _, .cons _ b, h => Tups.get (i := i) b h
/-- the walk through the text, the stack's top first -/
def walkA : List Nat → List (List Nat) → List (List Nat × Nat)
  | [], _ => []
  | _ :: _, [] => []
  | c :: cs, a :: st => (a, c) :: walkA cs (if c = 40 then (a ++ [108]) :: (a ++ [114]) :: st else st)
theorem walkA_tree : ∀ (t : Tr) (rest : List Nat) (a : List Nat) (st : List (List Nat)), walkA (t.ps ++ rest) (a :: st) = t.adrs a ++ walkA rest st
  | .leaf, rest, a, st => rfl
  | .node l r, rest, a, st => by
    show (a, 40) :: walkA ((l.ps ++ r.ps) ++ rest) ((a ++ [108]) :: (a ++ [114]) :: st) = _
    rw [List.append_assoc, walkA_tree l, walkA_tree r, ← List.append_assoc]
    rfl
theorem replace_ps (t : Tr) : Txt.replace (S t.cs) (Str.ofString ")") (Str.ofString "") = S t.ps := by
  have h := PyProof.Rows.replace_strikes (S t.cs) 41
  rw [S_of (Txt.replace (S t.cs) (Str.ofString ")") (Str.ofString ""))]
  refine congrArg S ?_
  refine (show _ = ((Txt.replace (S t.cs) ⟨#[41]⟩ ⟨#[]⟩)).cps.toList from rfl).trans (h.trans ?_)
  rw [← Tr.ps_filter t]
theorem ok_addressed (T : Txt w K mg) : FnOk P w K mg base CX0 4 T.a_addressed T.fd_addressed ["tree"] (sp_addressed K) := by
  refine T.F_addressed.ok sc_addressed (fun vs H Q E h => ?_) (fun cdv A outer s H vs Q E hr h => ?_)
  · obtain ⟨t, rfl, _⟩ := h; rfl
  obtain ⟨t, rfl, ht, q⟩ := h
  refine ⟨_, (pss_cons (ps_set (i := 1) sc_addressed.nd rfl (by first | exact Or.inl rfl | exact Or.inr rfl) (pe_lst pa_nil)) (TV.pss_lstT (i := 2) sc_addressed.nd rfl (by first | exact Or.inl rfl | exact Or.inr rfl) (psst_cons (pst_for PassesOwn.never rfl (TV.pit_str (pet_replC (pv 0))) (pg_name (i := 3) sc_addressed.nd rfl (by first | exact Or.inl rfl | exact Or.inr rfl)) (pss_cons (ps_set (i := 4) sc_addressed.nd rfl (by first | exact Or.inl rfl | exact Or.inr rfl) (pe_bm0 PySem.F.plainAttrs_list PySem.F.slot_list_pop PySem.F.type_list_pop mt_pop (pv 2)))
    (pss_cons (ps_expr (pe_bm PySem.F.plainAttrs_list PySem.F.slot_list_append PySem.F.type_list_append mt_append (pv 1) (pa_cons (pe_tup (pa_cons (pv 4) (pa_cons (pv 3) pa_nil))) pa_nil)))
    (pss_one (ps_if (pt_cmpR op_eq (pv 3) pe_str (nomark _)) (pss_one (ps_expr (pe_bm PySem.F.plainAttrs_list PySem.F.slot_list_extend PySem.F.type_list_extend mt_extend (pv 2) (pa_cons (pe_lst (pa_cons (pe_op op_add_str (pv 4) pe_str) (pa_cons (pe_op op_add_str (pv 4) pe_str) pa_nil))) pa_nil)))) pss_nil))))) (PSsT.of (pss_one (ps_ret (pv 1))))))), ?_⟩
  simp only [cxOf_K, tAsg2, tYes, wipe, tSeq, tIfS, tNot, tB, tCB, tCons, tNil, tVar, tC, tTest, tOp, tAnd, tOr, tAsg, gName, tRet, tRetN, tDrop, tNext, tIf, tCall, tTup, tLst, tNotV, tAndV, tOrV, tUn, rI0, rI, rU, rEq, rNe, tM1, tM0, tBM, tBM0, tSl, tPart, tNoPart, iStr, iEnumS, iRng1, iRng2, iList, gSub, tBits, tAug, tPar, L2.start, List.map_cons, List.map_nil, List.length_cons, List.length_nil, List.getElem?_cons_zero, List.getElem?_cons_succ, List.cons_append, List.nil_append, List.append_nil, List.set_cons_zero, List.set_cons_succ, List.replicate_succ, List.replicate_zero, Option.some.injEq, exists_eq_left', V.int.injEq, V.str.injEq, V.ref.injEq, V.bl.injEq, exists_and_left, exists_eq_left, List.cons.injEq, and_true, true_and, tCallX, tRs]
  have tl := Tr.ps_length t
  have cl := tr_len ht
  refine ⟨Nat.zero_le _, fun p np => ?_⟩
  have s1 := (L2.Same.refl H).new np (.lst [])
  have hp : upd H p (.lst []) p = some _ := upd_same
  generalize upd H p (.lst []) = H1 at s1 hp ⊢
  refine ⟨by decide, fun p1 np1 => ?_⟩
  have hpp1 : p ≠ p1 := ne_of_none hp np1
  have np1' := s1.free np1
  have s2 := s1.new np1' (.lst [V.str (Str.ofString "")])
  have hp2 : upd H1 p1 (.lst [V.str (Str.ofString "")]) p = some (.lst []) := by rw [upd_ne hpp1]; exact hp
  have hp1 : upd H1 p1 (.lst [V.str (Str.ofString "")]) p1 = some (.lst (([[]] : List (List Nat)).reverse.map sV)) := upd_same
  generalize upd H1 p1 (.lst [V.str (Str.ofString "")]) = H2 at s2 hp2 hp1 ⊢
  refine ⟨_, rfl, S t.cs, rfl, ?_, S t.ps, by rw [replace_ps], for_str (fun i σ H' => ∃ st ws fs a3 a4, σ = [some (trV t), some (.ref p), some (.ref p1), a3, a4] ∧ Same H H' ∧ H' p = some (.lst ws) ∧ Tups H' ws fs ∧ H' p1 = some (.lst ((st : List (List Nat)).reverse.map sV)) ∧
    fs ++ walkA (t.ps.drop i) st = t.adrs [] ∧ fs.length = i ∧ st.length ≤ 1 + i ∧ ∀ a ∈ st, a.length ≤ i) ?_ ?_ ?_⟩
  · have e0 : (Str.ofString "").length = 0 := rfl
    rw [e0, S_len]
    omega
  · refine ⟨[[]], [], [], none, none, rfl, s2, hp2, .nil, hp1, ?_, rfl, by decide, fun a ha => by rw [List.mem_singleton.mp ha]; exact Nat.le_refl _⟩
    have := walkA_tree t [] [] []
    rw [List.append_nil] at this
    rw [List.nil_append, List.drop_zero, this]
    simp [walkA]
  · rintro i d σ H' hi ⟨st, ws, fs, a3, a4, rfl, s0, h1, tu, h2, ew, el, es, ea⟩
    have hil : i < (S t.ps).length := (Array.getElem?_eq_some_iff.mp hi).1
    rw [S_len] at hil
    have hd : t.ps[i]? = some d := by
      have := (Array.getElem?_eq_some_iff.mp hi).2
      rw [List.getElem?_eq_some_iff]
      exact ⟨hil, by simpa using this⟩
    have ed : t.ps.drop i = d :: t.ps.drop (i + 1) := by
      rw [List.drop_eq_getElem_cons hil]
      rw [(List.getElem?_eq_some_iff.mp hd).2]
    rw [ed] at ew
    have wl := tu.length
    obtain ⟨a, st, rfl⟩ : ∃ a st', st = a :: st' := by
      cases st with
      | nil =>
        have := congrArg List.length ew
        rw [Tr.adrs_length] at this
        simp [walkA] at this
        omega
      | cons a st => exact ⟨a, st, rfl⟩
    have ha := ea a (List.mem_cons_self ..)
    simp only [cxOf_K, tAsg2, tYes, wipe, tSeq, tIfS, tNot, tB, tCB, tCons, tNil, tVar, tC, tTest, tOp, tAnd, tOr, tAsg, gName, tRet, tRetN, tDrop, tNext, tIf, tCall, tTup, tLst, tNotV, tAndV, tOrV, tUn, rI0, rI, rU, rEq, rNe, tM1, tM0, tBM, tBM0, tSl, tPart, tNoPart, iStr, iEnumS, iRng1, iRng2, iList, gSub, tBits, tAug, tPar, L2.start, List.map_cons, List.map_nil, List.length_cons, List.length_nil, List.getElem?_cons_zero, List.getElem?_cons_succ, List.cons_append, List.nil_append, List.append_nil, List.set_cons_zero, List.set_cons_succ, List.replicate_succ, List.replicate_zero, Option.some.injEq, exists_eq_left', V.int.injEq, V.str.injEq, V.ref.injEq, V.bl.injEq, exists_and_left, exists_eq_left, List.cons.injEq, and_true, true_and, tCallX, tRs]
    have sg : (({ cps := #[d] } : Str) = S [d]) := rfl
    rw [sg]
    refine ⟨tyV_lst h2, p1, _, sV a, rfl, rfl, h2, by simp, ?_⟩
    have s3 := s0.new np1' (.lst ((List.map sV (a :: st).reverse).dropLast))
    have k3 : Keep p1 H' (upd H' p1 (.lst ((List.map sV (a :: st).reverse).dropLast))) := fun b o nb hb => by rw [upd_ne nb]; exact hb
    have h23 : upd H' p1 (.lst ((List.map sV (a :: st).reverse).dropLast)) p1 = some (.lst (st.reverse.map sV)) := by
      rw [upd_same]; simp
    have h13 := k3 _ _ hpp1 h1
    have tu := tu.keep k3 h2
    generalize upd H' p1 (.lst ((List.map sV (a :: st).reverse).dropLast)) = H3 at s3 h23 h13 tu ⊢
    clear k3 h1 h2
    refine ⟨tyV_lst h13, by decide, fun q1 nq1 => ?_⟩
    have s4 := s3.new (s3.free nq1) (.tup [sV a, sV [d]])
    have h14 : upd H3 q1 (.tup [sV a, sV [d]]) p = _ := (upd_ne (ne_of_none h13 nq1)).trans h13
    have h24 : upd H3 q1 (.tup [sV a, sV [d]]) p1 = _ := (upd_ne (ne_of_none h23 nq1)).trans h23
    have tq : upd H3 q1 (.tup [sV a, sV [d]]) q1 = some _ := upd_same
    have tu := (tu.same ((L2.Same.refl H3).new nq1 (.tup [sV a, sV [d]]))).append (.cons (x := (a, d)) tq .nil)
    generalize upd H3 q1 (.tup [sV a, sV [d]]) = H4 at s4 h14 h24 tu ⊢
    refine ⟨p, _, _, rfl, rfl, h14, small5' (by omega), ?_⟩
    have s5 := s4.new np (.lst (ws ++ [V.ref q1]))
    have k5 : Keep p H4 (upd H4 p (.lst (ws ++ [V.ref q1]))) := fun b o nb hb => by rw [upd_ne nb]; exact hb
    have h25 := k5 _ _ hpp1.symm h24
    have h15 : upd H4 p (.lst (ws ++ [V.ref q1])) p = some _ := upd_same
    have tu := tu.keep k5 h14
    generalize upd H4 p (.lst (ws ++ [V.ref q1])) = H5 at s5 h25 h15 tu ⊢
    clear k5 s4 h14 h24 tq h13 h23 s3
    have ew' : fs ++ [(a, d)] ++ walkA (t.ps.drop (i + 1)) (if d = 40 then (a ++ [108]) :: (a ++ [114]) :: st else st) = t.adrs [] := by
      rw [← ew, List.append_assoc]
      rfl
    refine ⟨rfl, ?_⟩
    rw [lit_open]
    by_cases h40 : d = 40
    · rw [if_pos (decide_eq_true (by rw [h40]))]
      have ll : (Str.ofString "l").length = 1 := rfl
      have lr : (Str.ofString "r").length = 1 := rfl
      have al : (S a).length = a.length := S_len a
      refine ⟨tyV_lst h25, S a, rfl, small5 (by rw [al, lr]; omega), S a, rfl, small5 (by rw [al, ll]; omega), by decide, fun q2 nq2 => ?_⟩
      rw [show Str.ofString "l" = S [108] by decide +kernel, show Str.ofString "r" = S [114] by decide +kernel, S_app, S_app]
      have s6 := s5.new (s5.free nq2) (.lst [sV (a ++ [114]), sV (a ++ [108])])
      have h16 : upd H5 q2 (.lst [sV (a ++ [114]), sV (a ++ [108])]) p = _ := (upd_ne (ne_of_none h15 nq2)).trans h15
      have h26 : upd H5 q2 (.lst [sV (a ++ [114]), sV (a ++ [108])]) p1 = _ := (upd_ne (ne_of_none h25 nq2)).trans h25
      have tq : upd H5 q2 (.lst [sV (a ++ [114]), sV (a ++ [108])]) q2 = some _ := upd_same
      have tu := tu.same ((L2.Same.refl H5).new nq2 (.lst [sV (a ++ [114]), sV (a ++ [108])]))
      generalize upd H5 q2 (.lst [sV (a ++ [114]), sV (a ++ [108])]) = H6 at s6 h16 h26 tq tu ⊢
      refine ⟨p1, q2, _, _, rfl, rfl, h26, tq, ?_, ?_⟩
      · simp only [List.length_map, List.length_reverse, List.length_cons, List.length_nil] at es ⊢
        exact small5 (by omega)
      have k7 : Keep p1 H6 (upd H6 p1 (.lst (st.reverse.map sV ++ [sV (a ++ [114]), sV (a ++ [108])]))) := fun b o nb hb => by rw [upd_ne nb]; exact hb
      refine ⟨(a ++ [108]) :: (a ++ [114]) :: st, _, fs ++ [(a, d)], _, _, ⟨rfl, rfl⟩, s6.new np1' _, k7 _ _ hpp1 h16, tu.keep k7 h26, ?_, ?_, by simp [el], ?_, ?_⟩
      · rw [upd_same]; simp
      · rw [if_pos h40] at ew'
        exact ew'
      · simp only [List.length_cons] at es ⊢
        omega
      · intro b hb
        simp only [List.mem_cons] at hb
        rcases hb with rfl | rfl | hb
        · simp; omega
        · simp; omega
        · have := ea b (List.mem_cons_of_mem _ hb)
          omega
    · rw [if_neg (by simp only [decide_eq_true_eq]; intro z; exact h40 (by have := S_inj z; simpa using this))]
      refine ⟨st, _, fs ++ [(a, d)], _, _, ⟨rfl, rfl⟩, s5, h15, tu, h25, ?_, by simp [el], ?_, ?_⟩
      · rw [if_neg h40] at ew'
        exact ew'
      · simp only [List.length_cons] at es
        omega
      · intro b hb
        have := ea b (List.mem_cons_of_mem _ hb)
        omega
  · rintro σ H' ⟨st, ws, fs, a3, a4, rfl, s0, h1, tu, h2, ew, el, es, ea⟩
    have e : t.ps.drop (S t.ps).cps.size = [] := List.drop_eq_nil_of_le (by simp)
    rw [e] at ew
    have : fs = t.adrs [] := by
      rw [← ew]
      simp [walkA]
    subst this
    simp only [cxOf_K, tAsg2, tYes, wipe, tSeq, tIfS, tNot, tB, tCB, tCons, tNil, tVar, tC, tTest, tOp, tAnd, tOr, tAsg, gName, tRet, tRetN, tDrop, tNext, tIf, tCall, tTup, tLst, tNotV, tAndV, tOrV, tUn, rI0, rI, rU, rEq, rNe, tM1, tM0, tBM, tBM0, tSl, tPart, tNoPart, iStr, iEnumS, iRng1, iRng2, iList, gSub, tBits, tAug, tPar, L2.start, List.map_cons, List.map_nil, List.length_cons, List.length_nil, List.getElem?_cons_zero, List.getElem?_cons_succ, List.cons_append, List.nil_append, List.append_nil, List.set_cons_zero, List.set_cons_succ, List.replicate_succ, List.replicate_zero, Option.some.injEq, exists_eq_left', V.int.injEq, V.str.injEq, V.ref.injEq, V.bl.injEq, exists_and_left, exists_eq_left, List.cons.injEq, and_true, true_and, tCallX, tRs]
    exact q p ws H' np s0 h1 tu

theorem ok_leaves (T : Txt w K mg) : FnOk P w K mg base (L2.CX P w) 6 T.a_leaves T.fd_leaves ["tree"] (sp_leaves T) := by
  refine T.F_leaves.okX sc_leaves (fun vs H Q E h => ?_) (fun cdv A outer s H vs Q E hr h => ?_)
  · obtain ⟨v, rfl, _⟩ := h; rfl
  obtain ⟨v, rfl, h⟩ := h
  refine ⟨_, (pss_cons (ps_expr (pe_callX (ok_check_tree T) (takes_of rfl rfl rfl rfl) (hr.mono (by first | decide | omega)) (by rfl) T.m_check_tree T.F_check_tree.kp T.b_check_tree .nil (pa_cons (pv 0) pa_nil)))
    (pss_one (ps_ret (pe_lc (own := [("address", 1), ("sign", 2)]) rfl sc_leaves.nd (pi_list (pe_call (ok_addressed T) (hr.mono (by first | decide | omega)) (by rfl) T.m_addressed T.F_addressed.kp T.b_addressed .nil pass0 (pa_cons (pv 0) pa_nil))) (blkOk_by (own := [("address", 1), ("sign", 2)]) (N := nm_leaves) (sc := defScope s_leaves) (by decide +kernel)) (fun _ _ _ _ _ => by exact (show L2.PG _ _ (gTup K 2 _) from (pg_tup rfl (pgs_cons (pg_name (i := 1) sc_leaves.nd rfl (by first | exact Or.inl rfl | exact Or.inr rfl)) (pgs_cons (pg_name (i := 2) sc_leaves.nd rfl (by first | exact Or.inl rfl | exact Or.inr rfl)) pgs_nil))))) (fun _ _ _ _ _ => by exact (pts_one (pt_cmpR op_eq (pv 2) pe_str (nomark _)))) (fun _ _ _ _ _ => by exact (pv 1)))))), ?_⟩
  simp only [cxOf_K, tAsg2, tYes, wipe, tSeq, tIfS, tNot, tB, tCB, tCons, tNil, tVar, tC, tTest, tOp, tAnd, tOr, tAsg, gName, tRet, tRetN, tDrop, tNext, tIf, tCall, tTup, tLst, tNotV, tAndV, tOrV, tUn, rI0, rI, rU, rEq, rNe, tM1, tM0, tBM, tBM0, tSl, tPart, tNoPart, iStr, iEnumS, iRng1, iRng2, iList, gSub, tBits, tAug, tPar, L2.start, List.map_cons, List.map_nil, List.length_cons, List.length_nil, List.getElem?_cons_zero, List.getElem?_cons_succ, List.cons_append, List.nil_append, List.append_nil, List.set_cons_zero, List.set_cons_succ, List.replicate_succ, List.replicate_zero, Option.some.injEq, exists_eq_left', V.int.injEq, V.str.injEq, V.ref.injEq, V.bl.injEq, exists_and_left, exists_eq_left, List.cons.injEq, and_true, true_and, tCallX, tRs]
  rcases h with ⟨t, rfl, ht, q⟩ | ⟨nt, out⟩
  case inr => exact ⟨v, rfl, .inr ⟨nt, out⟩⟩
  refine ⟨_, rfl, .inl ⟨t, rfl, ht, fun H1 s1 => ?_⟩⟩
  refine ⟨_, rfl, t, rfl, ht, fun p ws H2 np s2 hp tu => ?_⟩
  refine ⟨p, rfl, ⟨_, SqL.of hp⟩, fun D hD => ?_⟩
  have s2 := s1.trans s2
  have hpD : p ≠ D := ne_of_none hp hD
  have wl := tu.length
  rw [Tr.adrs_length, Tr.ps_length] at wl
  refine lc_list (K := K) (a := p) (xs := ws) (fun i H' => Same H2 H' ∧ H' D = some (.lst (((((t.adrs []).take i).filter (fun x => x.2 == 46)).map (·.1)).map sV))) ⟨(L2.Same.refl H2).new hD _, upd_same⟩ (fun i H' _ hp' => SqL.of (hp'.1 _ _ hp)) ?_ ?_
  · rintro i x H' hi ⟨s3, hd⟩
    obtain ⟨qq, y, rfl, hy, hq⟩ := tu.get hi
    refine ⟨qq, _, rfl, SqT.of (s3 _ _ hq), rfl, ?_⟩
    simp only [gCons, gNil, cxOf_K, tAsg2, tYes, wipe, tSeq, tIfS, tNot, tB, tCB, tCons, tNil, tVar, tC, tTest, tOp, tAnd, tOr, tAsg, gName, tRet, tRetN, tDrop, tNext, tIf, tCall, tTup, tLst, tNotV, tAndV, tOrV, tUn, rI0, rI, rU, rEq, rNe, tM1, tM0, tBM, tBM0, tSl, tPart, tNoPart, iStr, iEnumS, iRng1, iRng2, iList, gSub, tBits, tAug, tPar, L2.start, List.map_cons, List.map_nil, List.length_cons, List.length_nil, List.getElem?_cons_zero, List.getElem?_cons_succ, List.cons_append, List.nil_append, List.append_nil, List.set_cons_zero, List.set_cons_succ, List.replicate_succ, List.replicate_zero, Option.some.injEq, exists_eq_left', V.int.injEq, V.str.injEq, V.ref.injEq, V.bl.injEq, exists_and_left, exists_eq_left, List.cons.injEq, and_true, true_and, tCallX, tRs]
    have hil : i < (t.adrs []).length := (List.getElem?_eq_some_iff.mp hy).1
    rw [Tr.adrs_length, Tr.ps_length] at hil
    have tk : (t.adrs []).take (i + 1) = (t.adrs []).take i ++ [y] := by
      rw [List.take_add_one, hy]
      rfl
    refine ⟨_, _, ⟨rfl, rfl⟩, _, _, rfl, rfl, rfl, ?_⟩
    rw [lit_dot]
    by_cases h46 : y.2 = 46
    · rw [if_pos (decide_eq_true (by rw [h46]))]
      refine ⟨_, hd, ?_, s3.new hD _, ?_⟩
      · rw [List.length_map, List.length_map]
        have := List.length_filter_le (fun x : List Nat × Nat => x.2 == 46) ((t.adrs []).take i)
        rw [List.length_take] at this
        exact small5' (by omega)
      · rw [upd_same, tk, List.filter_append, List.filter_cons_of_pos (by simp [h46])]
        simp
    · rw [if_neg (by simp only [decide_eq_true_eq]; intro z; exact h46 (by have := S_inj (V.str.inj z); simpa using this))]
      refine ⟨s3, ?_⟩
      rw [tk, List.filter_append, List.filter_cons_of_neg (by simp [h46])]
      simpa using hd
  · rintro H' ⟨s3, hd⟩
    have e : (t.adrs []).take ws.length = t.adrs [] := List.take_of_length_le (by rw [Tr.adrs_length, Tr.ps_length]; omega)
    rw [e, Tr.lvA_adrs] at hd
    exact q D H' (s2.free hD) (s2.trans s3) hd

theorem ok_counts (T : Txt w K mg) : FnOk P w K mg base (L2.CX P w) 8 T.a_counts T.fd_counts ["tree"] (sp_counts T) := by
  refine T.F_counts.okX sc_counts (fun vs H Q E h => ?_) (fun cdv A outer s H vs Q E hr h => ?_)
  · obtain ⟨v, rfl, _⟩ := h; rfl
  obtain ⟨v, rfl, h⟩ := h
  refine ⟨_, (pss_one (ps_ret (pe_lc (own := [("address", 1)]) rfl sc_counts.nd (pi_list (pe_callX (ok_leaves T) (takes_of rfl rfl rfl rfl) (hr.mono (by first | decide | omega)) (by rfl) T.m_leaves T.F_leaves.kp T.b_leaves .nil (pa_cons (pv 0) pa_nil))) (blkOk_by (own := [("address", 1)]) (N := nm_counts) (sc := defScope s_counts) (by decide +kernel)) (fun _ _ _ _ _ => by exact (pg_name (i := 1) sc_counts.nd rfl (by first | exact Or.inl rfl | exact Or.inr rfl))) (fun _ _ _ _ _ => by exact pts_nil) (fun _ _ _ _ _ => by exact (pe_call (ok_begun_off_arm T) (hr.mono (by first | decide | omega)) (by rfl) T.m_begun_off_arm T.F_begun_off_arm.kp T.b_begun_off_arm .nil pass0 (pa_cons (pv 1) pa_nil)))))), ?_⟩
  rcases h with ⟨t, rfl, ht, q⟩ | ⟨nt, out⟩
  case inr => exact ⟨_, rfl, v, rfl, .inr ⟨nt, out⟩⟩
  refine ⟨_, rfl, _, rfl, .inl ⟨t, rfl, ht, fun p H1 np s1 hp => ?_⟩⟩
  refine ⟨p, rfl, ⟨_, SqL.of hp⟩, fun D hD => ?_⟩
  refine lc_list (K := K) (a := p) (xs := (t.lvA []).map sV) (fun i H' => Same H1 H' ∧ H' D = some (.lst (((t.lvA []).take i).map fun a => V.int (bg a : Nat)))) ⟨(L2.Same.refl H1).new hD _, upd_same⟩ (fun i H' _ hp' => SqL.of (hp'.1 _ _ hp)) ?_ ?_
  · rintro i x H' hi ⟨s3, hd⟩
    rw [List.getElem?_map, Option.map_eq_some_iff] at hi
    obtain ⟨a, hi, rfl⟩ := hi
    have la := Tr.lvA_len t [] a (List.mem_of_getElem? hi)
    have hil : i < (t.lvA []).length := (List.getElem?_eq_some_iff.mp hi).1
    rw [Tr.lvA_length, Tr.lvs_size] at hil
    simp only [List.length_nil] at la
    simp only [cxOf_K, tAsg2, tYes, wipe, tSeq, tIfS, tNot, tB, tCB, tCons, tNil, tVar, tC, tTest, tOp, tAnd, tOr, tAsg, gName, tRet, tRetN, tDrop, tNext, tIf, tCall, tTup, tLst, tNotV, tAndV, tOrV, tUn, rI0, rI, rU, rEq, rNe, tM1, tM0, tBM, tBM0, tSl, tPart, tNoPart, iStr, iEnumS, iRng1, iRng2, iList, gSub, tBits, tAug, tPar, L2.start, List.map_cons, List.map_nil, List.length_cons, List.length_nil, List.getElem?_cons_zero, List.getElem?_cons_succ, List.cons_append, List.nil_append, List.append_nil, List.set_cons_zero, List.set_cons_succ, List.replicate_succ, List.replicate_zero, Option.some.injEq, exists_eq_left', V.int.injEq, V.str.injEq, V.ref.injEq, V.bl.injEq, exists_and_left, exists_eq_left, List.cons.injEq, and_true, true_and, tCallX, tRs]
    rw [if_pos True.intro]
    refine ⟨a, rfl, by omega, _, hd, ?_, s3.new hD _, ?_⟩
    · rw [List.length_map, List.length_take]
      exact small5' (by omega)
    · rw [upd_same, List.take_add_one, hi]
      simp
  · rintro H' ⟨s3, hd⟩
    have e : (t.lvA []).take ((t.lvA []).map sV).length = t.lvA [] := List.take_of_length_le (by simp)
    rw [e] at hd
    refine q D H' (s1.free hD) (s1.trans s3) ?_
    rw [hd, ← Tr.bg_all, List.map_map]
    rfl

theorem lbV_eq (a : List Nat) : lbV a = if a.getLast? = some 114 then sV (a.dropLast ++ [108]) else .non := by
  unfold lbV lb
  by_cases h : a.getLast? = some 114
  · rw [if_pos h, if_pos h]
  · rw [if_neg h, if_neg h]
theorem ok_left_beside (T : Txt w K mg) : FnOk P w K mg base CX0 2 T.a_left_beside T.fd_left_beside ["address"] (sp_left_beside K) := by
  refine T.F_left_beside.ok sc_left_beside (fun vs H Q E h => ?_) (fun cdv A outer s H vs Q E hr h => ?_)
  · obtain ⟨a, rfl, _⟩ := h; rfl
  obtain ⟨a, rfl, ha, q⟩ := h
  refine ⟨_, (pss_one (ps_ret (pe_ifExp (pt_val (pe_m1 PySem.F.slot_str_endswith PySem.F.type_str_endswith mt_endswith (pv 0) pe_str)) (pe_op op_add_str (pe_slice sl_str (pv 0) po_none (po_some (pe_un un_neg pe_int))) pe_str) pe_non))), ?_⟩
  simp only [cxOf_K, tAsg2, tYes, wipe, tSeq, tIfS, tNot, tB, tCB, tCons, tNil, tVar, tC, tTest, tOp, tAnd, tOr, tAsg, gName, tRet, tRetN, tDrop, tNext, tIf, tCall, tTup, tLst, tNotV, tAndV, tOrV, tUn, rI0, rI, rU, rEq, rNe, tM1, tM0, tBM, tBM0, tSl, tPart, tNoPart, iStr, iEnumS, iRng1, iRng2, iList, gSub, tBits, tAug, tPar, L2.start, List.map_cons, List.map_nil, List.length_cons, List.length_nil, List.getElem?_cons_zero, List.getElem?_cons_succ, List.cons_append, List.nil_append, List.append_nil, List.set_cons_zero, List.set_cons_succ, List.replicate_succ, List.replicate_zero, Option.some.injEq, exists_eq_left', V.int.injEq, V.str.injEq, V.ref.injEq, V.bl.injEq, exists_and_left, exists_eq_left, List.cons.injEq, and_true, true_and, tCallX, tRs]
  rw [lbV_eq] at q
  refine ⟨⟨_, rfl⟩, ?_⟩
  rw [show Str.ofString "r" = S [114] by decide +kernel, ends_S]
  by_cases h : a.getLast? = some 114
  · rw [if_pos h] at q
    rw [if_pos (decide_eq_true h)]
    refine ⟨_, rfl, small5 (by rw [S_len]; omega), ?_⟩
    rw [cutS_less]
    refine ⟨_, rfl, small5 (by rw [S_len, show (Str.ofString "l").length = 1 from rfl, List.length_dropLast]; omega), ?_⟩
    rw [show Str.ofString "l" = S [108] by decide +kernel, S_app]
    exact q
  · rw [if_neg h] at q
    rw [if_neg (by simp [h])]
    exact q

theorem ok_check_move (T : Txt w K mg) : FnOk P w K mg base (L2.CX P w) 3 T.a_check_move T.fd_check_move ["value"] (sp_check_move T) := by
  refine T.F_check_move.okX sc_check_move (fun vs H Q E h => ?_) (fun cdv A outer s H vs Q E hr h => ?_)
  · obtain ⟨_, rfl, _⟩ := h; rfl
  obtain ⟨v, rfl, h⟩ := h
  refine ⟨_, (pss_one (ps_if (pt_not (pt_val (pe_callB call_isi (by rfl) T.z_isinstance (by decide +kernel) (pa_cons (pv 0) (pa_cons (pe_glob (v := .ref T.c_Move) (by rfl) T.g_Move rfl) pa_nil))))) (pss_one (ps_raise rfl (takes_of rfl rfl rfl rfl) (pmk_err T.o_InvalidMove (hr.mono (by first | decide | omega)) (by rfl) (pv 0)))) pss_nil)), ?_⟩
  simp only [cxOf_K, tAsg2, tYes, wipe, tSeq, tIfS, tNot, tB, tCB, tCons, tNil, tVar, tC, tTest, tOp, tAnd, tOr, tAsg, gName, tRet, tRetN, tDrop, tNext, tIf, tCall, tTup, tLst, tNotV, tAndV, tOrV, tUn, rI0, rI, rU, rEq, rNe, tM1, tM0, tBM, tBM0, tSl, tPart, tNoPart, iStr, iEnumS, iRng1, iRng2, iList, gSub, tBits, tAug, tPar, L2.start, List.map_cons, List.map_nil, List.length_cons, List.length_nil, List.getElem?_cons_zero, List.getElem?_cons_succ, List.cons_append, List.nil_append, List.append_nil, List.set_cons_zero, List.set_cons_succ, List.replicate_succ, List.replicate_zero, Option.some.injEq, exists_eq_left', V.int.injEq, V.str.injEq, V.ref.injEq, V.bl.injEq, exists_and_left, exists_eq_left, List.cons.injEq, and_true, true_and, tCallX, tRs, tProp, OW.tSMeth, OW.tCallI, Nat.sub_self, List.replicate_zero, tFld, sFld, sFldAug, tDGet, tDIn, tDNotIn, sDPut, tMeth, tMake, tDNewK]
  rcases h with ⟨A', B', ⟨ab, p, dx, rfl, hp⟩, q⟩ | ⟨⟨ty, tx, hk⟩, out⟩
  · refine OW.isi_own hp T.l_Move T.y_Move ⟨_, rfl, ?_⟩
    rw [if_neg (by decide)]
    exact q
  · refine ⟨v, _, ty, _, false, rfl, .own _, tx, hk, _, rfl, ?_⟩
    rw [if_pos (by decide)]
    exact fun d H2 s2 n e => out d H2 s2 n e

theorem okA {a : List Nat} (h : isA a = true) : PyData.strOk (S a) = true := okL a fun c hc => by
  have := List.all_eq_true.mp h c hc
  have : c = 108 ∨ c = 114 := by simpa using this
  rcases this with rfl | rfl <;> decide
theorem isA_snoc {a : List Nat} {c : Nat} (h : isA a = true) (hc : c = 108 ∨ c = 114) : isA (a ++ [c]) = true := by
  unfold isA at h ⊢
  rw [List.all_append, h]
  rcases hc with rfl | rfl <;> rfl
theorem isA_parts {a b : List Nat} (h : isA (a ++ b) = true) : isA a = true ∧ isA b = true := by
  unfold isA at h ⊢
  rw [List.all_append, Bool.and_eq_true] at h
  exact h
theorem isA_drop {a : List Nat} (h : isA a = true) : isA a.dropLast = true := by
  unfold isA at h ⊢
  rw [List.all_eq_true] at h ⊢
  exact fun c hc => h c ((List.dropLast_sublist a).subset hc)
theorem lvA_isA : ∀ (t : Tr) (a : List Nat), isA a = true → ∀ x ∈ t.lvA a, isA x = true
  | .leaf, a, h, x, hx => by rw [List.mem_singleton.mp hx]; exact h
  | .node l r, a, h, x, hx => by
    rcases List.mem_append.mp hx with hx | hx
    · exact lvA_isA l _ (isA_snoc h (.inl rfl)) x hx
    · exact lvA_isA r _ (isA_snoc h (.inr rfl)) x hx
def lbD (a : List Nat) : PyData := match lb a with | none => .none | some b => .str (S b)
theorem lb_dp {K : PySem.W.Frag} {H : Hp} (a : List Nat) : Dp K H (lbV a) (lbD a) := by
  unfold lbV lbD
  cases lb a with
  | none => exact .non
  | some b => exact .str _
theorem lb_lay {a : List Nat} (h : isA a = true) : (lbD a).canLay0 = true ∧ (lbD a).depth = 0 := by
  unfold lbD
  cases e : lb a with
  | none => exact ⟨by decide, by decide⟩
  | some b =>
    obtain ⟨p, rfl, rfl, hd⟩ := lb_some e
    have hp : isA p = true := by have := isA_drop h; rw [List.dropLast_concat] at this; exact this
    exact ⟨by simp only [PyData.canLay0]; exact okA (isA_snoc hp (.inl rfl)), by simp [PyData.depth]⟩
theorem lb_eqv (x a : List Nat) : PyData.eqv (.str (S x)) (lbD a) = decide (lb a = some x) := by
  unfold lbD
  cases lb a with
  | none => simp [PyData.eqv]
  | some b =>
    simp only [PyData.eqv]
    rw [Bool.eq_iff_iff]
    simp only [beq_iff_eq, decide_eq_true_eq, Option.some.injEq]
    exact ⟨fun h => (S_inj h).symm, fun h => by rw [h]⟩
/-- found[-1] == (left_beside(source), left_beside(target)) -/
theorem eqBes {K : PySem.W.Frag} {H : Hp} {q t : Addr} {g p : AP} {Q : VK} (hq : H q = some (.tup [sV g.1, sV g.2])) (ht : H t = some (.tup [lbV p.1, lbV p.2])) (o1 : isA g.1 = true) (o2 : isA g.2 = true) (o3 : isA p.1 = true) (o4 : isA p.2 = true)
    (c : Q (.bl (decide (Bes g p))) H) : rEqD K (.ref q) (.ref t) H Q := by
  refine ⟨.tuple [.str (S g.1), .str (S g.2)], .tuple [lbD p.1, lbD p.2], .tup (SqT.of hq) (.cons (.str _) (.cons (.str _) .nil)), .tup (SqT.of ht) (.cons (lb_dp _) (.cons (lb_dp _) .nil)), ?_, ?_, ?_⟩
  · unfold SeqAt.shaped
    simp only [PyData.canLay0, PyData.canLayAll0, PyData.depth, PyData.depthAll, okA o1, okA o2]
    rfl
  · unfold SeqAt.shaped
    simp only [PyData.canLay0, PyData.canLayAll0, PyData.depth, PyData.depthAll, lb_lay o3, lb_lay o4]
    rfl
  · have e : PyData.eqv (.tuple [.str (S g.1), .str (S g.2)]) (.tuple [lbD p.1, lbD p.2]) = decide (Bes g p) := by
      rw [PyData.eqv]
      simp only [PyData.eqvAll, lb_eqv, Bool.and_true]
      unfold Bes
      rw [Bool.eq_iff_iff]
      simp only [Bool.and_eq_true, decide_eq_true_eq]
      exact decide_eq_true_iff.symm
    rw [e]
    exact c
theorem ok_paired (T : Txt w K mg) : FnOk P w K mg base (L2.CX P w) 8 T.a_paired T.fd_paired ["move"] (sp_paired T) := by
  refine T.F_paired.okX sc_paired (fun vs H Q E h => ?_) (fun cdv A outer s H vs Q E hr h => ?_)
  · obtain ⟨_, rfl, _⟩ := h; rfl
  obtain ⟨v, rfl, h⟩ := h
  have hru := hr.units
  refine ⟨_, (pss_cons (ps_expr (pe_callX (ok_check_move T) (takes_of rfl rfl rfl rfl) (hr.mono (by first | decide | omega)) (by rfl) T.m_check_move T.F_check_move.kp T.b_check_move .nil (pa_cons (pv 0) pa_nil)))
    (pss_cons (ps_set (i := 1) sc_paired.nd rfl (by first | exact Or.inl rfl | exact Or.inr rfl) (pe_lst pa_nil))
    (pss_cons (ps_for (passes_of rfl) rfl (pi_zip (by rfl) T.z_zip (pa_cons (pe_callX (ok_leaves T) (takes_of rfl rfl rfl rfl) (hr.mono (by first | decide | omega)) (by rfl) T.m_leaves T.F_leaves.kp T.b_leaves .nil (pa_cons (pe_prop (pv 0) T.l_Move T.p_Move_before (ok_Move_before T) (hr.mono (by first | decide | omega)) T.b_Move_before .nil pass0 rfl) pa_nil)) (pa_cons (pe_callX (ok_leaves T) (takes_of rfl rfl rfl rfl) (hr.mono (by first | decide | omega)) (by rfl) T.m_leaves T.F_leaves.kp T.b_leaves .nil (pa_cons (pe_prop (pv 0) T.l_Move T.p_Move_after (ok_Move_after T) (hr.mono (by first | decide | omega)) T.b_Move_after .nil pass0 rfl) pa_nil)) pa_nil))) (pg_tup rfl (pgs_cons (pg_name (i := 2) sc_paired.nd rfl (by first | exact Or.inl rfl | exact Or.inr rfl)) (pgs_cons (pg_name (i := 3) sc_paired.nd rfl (by first | exact Or.inl rfl | exact Or.inr rfl)) pgs_nil))) (pss_cons (ps_while (passes_of rfl) (pw_and (pt_truth (pv 1) (fun _ => rfl)) (pw_and1 (pt_cmpR (op_eqD hru) (pe_ix ix_list (pv 1) (pe_un un_neg pe_int) (fun _ _ => rfl)) (pe_tup (pa_cons (pe_call (ok_left_beside T) (hr.mono (by first | decide | omega)) (by rfl) T.m_left_beside T.F_left_beside.kp T.b_left_beside .nil pass0 (pa_cons (pv 2) pa_nil)) (pa_cons (pe_call (ok_left_beside T) (hr.mono (by first | decide | omega)) (by rfl) T.m_left_beside T.F_left_beside.kp T.b_left_beside .nil pass0 (pa_cons (pv 3) pa_nil)) pa_nil))) (nomark _)))).pt (pss_cons (ps_expr (pe_bm0 PySem.F.plainAttrs_list PySem.F.slot_list_pop PySem.F.type_list_pop mt_pop (pv 1)))
    (pss_one (ps_par (i := 2) (j := 3) rfl sc_paired.nd rfl rfl (by decide) rfl rfl (pa_cons (pe_slice sl_str (pv 2) po_none (po_some (pe_un un_neg pe_int))) (pa_cons (pe_slice sl_str (pv 3) po_none (po_some (pe_un un_neg pe_int))) pa_nil)) rfl))))
    (pss_one (ps_expr (pe_bm PySem.F.plainAttrs_list PySem.F.slot_list_append PySem.F.type_list_append mt_append (pv 1) (pa_cons (pe_tup (pa_cons (pv 2) (pa_cons (pv 3) pa_nil))) pa_nil))))))
    (pss_one (ps_ret (pv 1)))))), ?_⟩
  simp only [cxOf_K, tAsg2, tYes, wipe, tSeq, tIfS, tNot, tB, tCB, tCons, tNil, tVar, tC, tTest, tOp, tAnd, tOr, tAsg, gName, tRet, tRetN, tDrop, tNext, tIf, tCall, tTup, tLst, tNotV, tAndV, tOrV, tUn, rI0, rI, rU, rEq, rNe, tM1, tM0, tBM, tBM0, tSl, tPart, tNoPart, iStr, iEnumS, iRng1, iRng2, iList, gSub, tBits, tAug, tPar, L2.start, List.map_cons, List.map_nil, List.length_cons, List.length_nil, List.getElem?_cons_zero, List.getElem?_cons_succ, List.cons_append, List.nil_append, List.append_nil, List.set_cons_zero, List.set_cons_succ, List.replicate_succ, List.replicate_zero, Option.some.injEq, exists_eq_left', V.int.injEq, V.str.injEq, V.ref.injEq, V.bl.injEq, exists_and_left, exists_eq_left, List.cons.injEq, and_true, true_and, tCallX, tRs, tProp, OW.tSMeth, OW.tCallI, Nat.sub_self, List.replicate_zero, tFld, sFld, sFldAug, tDGet, tDIn, tDNotIn, sDPut, tMeth, tMake, tDNewK]
  rcases h with ⟨A', B', m, aS, q⟩ | ⟨nm, out⟩
  case inr => exact ⟨v, rfl, .inr ⟨nm, out⟩⟩
  refine ⟨v, rfl, .inl ⟨A', B', m, ?_⟩⟩
  have bS := m.1
  have lv := m.lvs
  have lA := Tr.lvA_length A' []
  have lB := Tr.lvA_length B' []
  have zA := Tr.lvs_size A'
  refine ⟨Nat.zero_le _, fun f nf => ?_⟩
  have s1 := (L2.Same.refl H).new nf (.lst [])
  have hf : upd H f (.lst []) f = some (.lst []) := upd_same
  generalize upd H f (.lst []) = H1 at s1 hf ⊢
  have m1 := m.same s1
  have m1' := m1
  obtain ⟨_, pm, dxm, rfl, hpm⟩ := m1'
  refine ⟨_, rfl, pm, dxm, _, rfl, hpm, .ref pm, A', B', rfl, m1, _, rfl, .inl ⟨A', rfl, aS, fun pa H2 na s2 ha => ?_⟩⟩
  have m2 := m1.same s2
  refine ⟨_, rfl, pm, dxm, _, rfl, s2 _ _ hpm, .ref pm, A', B', rfl, m2, _, rfl, .inl ⟨B', rfl, by omega, fun pb H3 nb s3 hb => ?_⟩⟩
  have ha3 := s3 _ _ ha
  have hf3 := s3 _ _ (s2 _ _ hf)
  have s03 := s1.trans (s2.trans s3)
  have fa : f ≠ pa := ne_of_none hf na
  have fb : f ≠ pb := ne_of_none (s2 _ _ hf) nb
  have okz : ∀ p ∈ zipA A' B', isA p.1 = true ∧ isA p.2 = true ∧ p.1.length ≤ 2000 ∧ p.2.length ≤ 2000 := fun p hp => by
    obtain ⟨h1, h2⟩ := List.of_mem_zip hp
    have l1 := Tr.lvA_len A' [] _ h1
    have l2 := Tr.lvA_len B' [] _ h2
    simp only [List.length_nil] at l1 l2
    exact ⟨lvA_isA A' [] rfl _ h1, lvA_isA B' [] rfl _ h2, by omega, by omega⟩
  refine ⟨pa, pb, _, _, rfl, SqL.of ha3, SqL.of hb, RZ.for_zipL (K := K) (by rw [List.length_map, List.length_map]; omega) (fun i σ H' => ∃ (st : List AP) (ws : List V) (a2 a3 : Option V), σ = [some (.ref pm), some (.ref f), a2, a3] ∧ Same H H' ∧ H' pa = some (.lst ((A'.lvA []).map sV)) ∧ H' pb = some (.lst ((B'.lvA []).map sV)) ∧
      H' f = some (.lst ws) ∧ APs H' ws st.reverse ∧ st = ((zipA A' B').take i).foldl pushP [] ∧ st.length ≤ i ∧ ∀ p ∈ st, isA p.1 = true ∧ isA p.2 = true)
    ⟨[], [], none, none, rfl, s03, ha3, hb, hf3, .nil, rfl, Nat.le_refl _, fun _ h => nomatch h⟩ (fun i σ H' ⟨_, _, _, _, _, _, z1, z2, _⟩ => ⟨SqL.of z1, SqL.of z2⟩) ?_ ?_⟩
  · rintro i x y d σ H4 hx hy ⟨st, ws, a2, a3, rfl, s4, h4a, h4b, h4f, aps, est, sl, sok⟩ nd
    rw [List.getElem?_map, Option.map_eq_some_iff] at hx hy
    obtain ⟨a, ea, rfl⟩ := hx
    obtain ⟨b, eb, rfl⟩ := hy
    have ez : (zipA A' B')[i]? = some (a, b) := List.getElem?_zip_eq_some.mpr ⟨ea, eb⟩
    obtain ⟨oa, ob, la, lb'⟩ := okz _ (List.mem_of_getElem? ez)
    have il : i < (A'.lvA []).length := (List.getElem?_eq_some_iff.mp ea).1
    refine ⟨d, _, rfl, SqT.of upd_same, rfl, _, _, rfl, _, _, rfl, rfl, ?_⟩
    simp only [cxOf_K, tAsg2, tYes, wipe, tSeq, tIfS, tNot, tB, tCB, tCons, tNil, tVar, tC, tTest, tOp, tAnd, tOr, tAsg, gName, tRet, tRetN, tDrop, tNext, tIf, tCall, tTup, tLst, tNotV, tAndV, tOrV, tUn, rI0, rI, rU, rEq, rNe, tM1, tM0, tBM, tBM0, tSl, tPart, tNoPart, iStr, iEnumS, iRng1, iRng2, iList, gSub, tBits, tAug, tPar, L2.start, List.map_cons, List.map_nil, List.length_cons, List.length_nil, List.getElem?_cons_zero, List.getElem?_cons_succ, List.cons_append, List.nil_append, List.append_nil, List.set_cons_zero, List.set_cons_succ, List.replicate_succ, List.replicate_zero, Option.some.injEq, exists_eq_left', V.int.injEq, V.str.injEq, V.ref.injEq, V.bl.injEq, exists_and_left, exists_eq_left, List.cons.injEq, and_true, true_and, tCallX, tRs, tProp, OW.tSMeth, OW.tCallI, Nat.sub_self, List.replicate_zero, tFld, sFld, sFldAug, tDGet, tDIn, tDNotIn, sDPut, tMeth, tMake, tDNewK]
    have fd : f ≠ d := ne_of_none h4f nd
    have k1 := (L2.Same.refl H4).new nd (.tup [sV a, sV b])
    have s5 := s4.trans k1
    have h5a := k1 _ _ h4a
    have h5b := k1 _ _ h4b
    have h5f := k1 _ _ h4f
    have aps := aps.same k1
    generalize upd H4 d (.tup [sV a, sV b]) = H5 at s5 h5a h5b h5f aps ⊢
    have tk : (zipA A' B').take (i + 1) = (zipA A' B').take i ++ [(a, b)] := by rw [List.take_add_one, ez]; rfl
    refine ⟨fun m σ H' => ∃ (st' : List AP) (p : AP) (ws : List V), m = st'.length ∧ σ = [some (.ref pm), some (.ref f), some (sV p.1), some (sV p.2)] ∧ Same H H' ∧ H' pa = some (.lst ((A'.lvA []).map sV)) ∧ H' pb = some (.lst ((B'.lvA []).map sV)) ∧
      H' f = some (.lst ws) ∧ APs H' ws st'.reverse ∧ pushP st' p = pushP st (a, b) ∧ st'.length ≤ i ∧ (∀ p ∈ st', isA p.1 = true ∧ isA p.2 = true) ∧ isA p.1 = true ∧ isA p.2 = true ∧ p.1.length ≤ 2000 ∧ p.2.length ≤ 2000, ?_, ?_⟩
    · exact ⟨_, st, (a, b), ws, rfl, rfl, s5, h5a, h5b, h5f, aps, rfl, sl, sok, oa, ob, la, lb'⟩
    · rintro m σ H6 ⟨st', p, ws, rfl, rfl, s6, h6a, h6b, h6f, aps, ep, sl', sok', o1, o2, l1, l2⟩
      simp only [cxOf_K, tAsg2, tYes, wipe, tSeq, tIfS, tNot, tB, tCB, tCons, tNil, tVar, tC, tTest, tOp, tAnd, tOr, tAsg, gName, tRet, tRetN, tDrop, tNext, tIf, tCall, tTup, tLst, tNotV, tAndV, tOrV, tUn, rI0, rI, rU, rEq, rNe, tM1, tM0, tBM, tBM0, tSl, tPart, tNoPart, iStr, iEnumS, iRng1, iRng2, iList, gSub, tBits, tAug, tPar, L2.start, List.map_cons, List.map_nil, List.length_cons, List.length_nil, List.getElem?_cons_zero, List.getElem?_cons_succ, List.cons_append, List.nil_append, List.append_nil, List.set_cons_zero, List.set_cons_succ, List.replicate_succ, List.replicate_zero, Option.some.injEq, exists_eq_left', V.int.injEq, V.str.injEq, V.ref.injEq, V.bl.injEq, exists_and_left, exists_eq_left, List.cons.injEq, and_true, true_and, tCallX, tRs, tProp, OW.tSMeth, OW.tCallI, Nat.sub_self, List.replicate_zero, tFld, sFld, sFldAug, tDGet, tDIn, tDNotIn, sDPut, tMeth, tMake, tDNewK]
      have wl := aps.length
      rw [List.length_reverse] at wl
      have nxt : pushP st (a, b) = List.foldl pushP [] (List.take (i + 1) (zipA A' B')) := by rw [tk, List.foldl_append, ← est]; rfl
      cases st' with
      | nil =>
        obtain rfl : ws = [] := List.length_eq_zero_iff.mp wl
        refine ⟨_, .inl ⟨_, SqL.of h6f, rfl⟩, ?_⟩
        rw [if_neg (by simp), if_neg (by decide)]
        refine ⟨tyV_lst h6f, by decide, fun t nt => ?_⟩
        have ft : f ≠ t := ne_of_none h6f nt
        have k7 := (L2.Same.refl H6).new nt (.tup [sV p.1, sV p.2])
        have h7t : upd H6 t (.tup [sV p.1, sV p.2]) t = some _ := upd_same
        have s7 := s6.trans k7
        have h7a := k7 _ _ h6a
        have h7b := k7 _ _ h6b
        have h7f := k7 _ _ h6f
        generalize upd H6 t (.tup [sV p.1, sV p.2]) = H7 at h7t s7 h7a h7b h7f ⊢
        refine ⟨f, _, _, rfl, rfl, h7f, by decide, ?_⟩
        have ep : [p] = pushP st (a, b) := ep
        refine ⟨[p], _, _, _, ⟨rfl, rfl⟩, s7.new nf _, (upd_ne (Ne.symm fa)).trans h7a, (upd_ne (Ne.symm fb)).trans h7b, upd_same, .cons ((upd_ne (Ne.symm ft)).trans h7t) .nil, ep.trans nxt, by simp, fun x hx => ?_⟩
        rw [List.mem_singleton.mp hx]
        exact ⟨o1, o2⟩
      | cons g st2 =>
        rw [List.reverse_cons] at aps
        obtain ⟨us, q1, rfl, apu, hq1⟩ := aps.snoc
        obtain ⟨og1, og2⟩ := sok' g (List.mem_cons_self ..)
        refine ⟨_, .inl ⟨_, SqL.of h6f, rfl⟩, ?_⟩
        rw [if_pos (by simp)]
        refine ⟨f, _, -1, .ref q1, rfl, rfl, SqL.of h6f, atI_last _ _, p.1, rfl, by omega, p.2, rfl, by omega, by decide, fun t nt => ?_⟩
        have ft : f ≠ t := ne_of_none h6f nt
        have k7 := (L2.Same.refl H6).new nt (.tup [lbV p.1, lbV p.2])
        have h7t : upd H6 t (.tup [lbV p.1, lbV p.2]) t = some _ := upd_same
        have s7 := s6.trans k7
        have h7a := k7 _ _ h6a
        have h7b := k7 _ _ h6b
        have h7f := k7 _ _ h6f
        have apu := apu.same k7
        have hq1 := k7 _ _ hq1
        generalize upd H6 t (.tup [lbV p.1, lbV p.2]) = H7 at h7t s7 h7a h7b h7f apu hq1 ⊢
        refine eqBes hq1 h7t og1 og2 o1 o2 ⟨_, rfl, ?_⟩
        have fq : q1 ≠ f := fun z => by rw [z, h7f] at hq1; cases hq1
        by_cases hb : Bes g p
        · rw [if_pos (decide_eq_true hb)]
          refine ⟨_, fun _ _ h => h, tyV_lst h7f, f, _, .ref q1, rfl, rfl, h7f, by simp, ?_⟩
          refine ⟨_, rfl, small5 (by rw [S_len]; omega), ?_⟩
          refine ⟨_, rfl, small5 (by rw [S_len]; omega), ?_⟩
          rw [cutS_less, cutS_less]
          have ep : pushP st2 (p.1.dropLast, p.2.dropLast) = pushP st (a, b) := by
            rw [← ep]
            show _ = if Bes g p then _ else _
            rw [if_pos hb]
          refine ⟨_, _, ⟨rfl, rfl⟩, st2.length, by simp, st2, rfl, (p.1.dropLast, p.2.dropLast), rfl, s7.new nf _, (upd_ne (Ne.symm fa)).trans h7a, (upd_ne (Ne.symm fb)).trans h7b, us, ?_, apu.keep keepU h7f, ep, ?_, fun x hx => sok' x (List.mem_cons_of_mem _ hx), isA_drop o1, isA_drop o2, ?_, ?_⟩
          · rw [upd_same, List.dropLast_concat]
          · simp only [List.length_cons] at sl'; omega
          · rw [List.length_dropLast]; omega
          · rw [List.length_dropLast]; omega
        · rw [if_neg (by simp [hb])]
          refine ⟨tyV_lst h7f, by decide, fun t2 nt2 => ?_⟩
          have ft2 : f ≠ t2 := ne_of_none h7f nt2
          have k8 := (L2.Same.refl H7).new nt2 (.tup [sV p.1, sV p.2])
          have h8t : upd H7 t2 (.tup [sV p.1, sV p.2]) t2 = some _ := upd_same
          have s8 := s7.trans k8
          have h8a := k8 _ _ h7a
          have h8b := k8 _ _ h7b
          have h8f := k8 _ _ h7f
          have apu := apu.same k8
          have hq1 := k8 _ _ hq1
          generalize upd H7 t2 (.tup [sV p.1, sV p.2]) = H8 at h8t s8 h8a h8b h8f apu hq1 ⊢
          have ul := apu.length
          rw [List.length_reverse] at ul
          simp only [List.length_cons] at sl'
          refine ⟨f, _, _, rfl, rfl, h8f, by rw [List.length_append, List.length_singleton]; exact small5' (by omega), ?_⟩
          have ep : p :: g :: st2 = pushP st (a, b) := by
            rw [← ep]
            show _ = if Bes g p then _ else _
            rw [if_neg hb]
          refine ⟨p :: g :: st2, _, _, _, ⟨rfl, rfl⟩, s8.new nf _, (upd_ne (Ne.symm fa)).trans h8a, (upd_ne (Ne.symm fb)).trans h8b, upd_same, ?_, ep.trans nxt, by simp only [List.length_cons]; omega, fun x hx => ?_⟩
          · rw [List.reverse_cons, List.reverse_cons]
            exact (((apu.keep keepU h8f).append (.cons ((upd_ne fq).trans hq1) .nil))).append (.cons ((upd_ne (Ne.symm ft2)).trans h8t) .nil)
          · rcases List.mem_cons.mp hx with rfl | hx
            · exact ⟨o1, o2⟩
            · exact sok' x hx
  · rintro σ H4 ⟨st, ws, a2, a3, rfl, s4, h4a, h4b, h4f, aps, est, sl, sok⟩
    simp only [cxOf_K, tAsg2, tYes, wipe, tSeq, tIfS, tNot, tB, tCB, tCons, tNil, tVar, tC, tTest, tOp, tAnd, tOr, tAsg, gName, tRet, tRetN, tDrop, tNext, tIf, tCall, tTup, tLst, tNotV, tAndV, tOrV, tUn, rI0, rI, rU, rEq, rNe, tM1, tM0, tBM, tBM0, tSl, tPart, tNoPart, iStr, iEnumS, iRng1, iRng2, iList, gSub, tBits, tAug, tPar, L2.start, List.map_cons, List.map_nil, List.length_cons, List.length_nil, List.getElem?_cons_zero, List.getElem?_cons_succ, List.cons_append, List.nil_append, List.append_nil, List.set_cons_zero, List.set_cons_succ, List.replicate_succ, List.replicate_zero, Option.some.injEq, exists_eq_left', V.int.injEq, V.str.injEq, V.ref.injEq, V.bl.injEq, exists_and_left, exists_eq_left, List.cons.injEq, and_true, true_and, tCallX, tRs, tProp, OW.tSMeth, OW.tCallI, Nat.sub_self, List.replicate_zero, tFld, sFld, sFldAug, tDGet, tDIn, tDNotIn, sDPut, tMeth, tMake, tDNewK]
    rw [List.length_map, List.take_of_length_le (by unfold zipA; rw [List.length_zip]; omega)] at est
    exact q f ws H4 nf s4 h4f (by rw [est] at aps; exact aps)
theorem prd_mem {A B : Tr} (h : A.lvs = B.lvs) {p : AP} (hp : p ∈ prd A B) : isA p.1 = true ∧ isA p.2 = true ∧ p.1.length ≤ A.size ∧ p.2.length ≤ A.size := by
  have o := wdT_of h
  obtain ⟨e1, e2, g⟩ := o
  have h1 : p.1 ∈ (wdT A B).1.lvA [] := by rw [← e1]; exact List.mem_map_of_mem hp
  have h2 : p.2 ∈ (wdT A B).2.lvA [] := by rw [← e2]; exact List.mem_map_of_mem hp
  have l1 := Tr.lvA_len _ [] _ h1
  have l2 := Tr.lvA_len _ [] _ h2
  simp only [List.length_nil] at l1 l2
  have z1 := g.size
  have z2 := g.swap.size
  have z3 := grow_size_lvs h
  exact ⟨lvA_isA _ [] rfl _ h1, lvA_isA _ [] rfl _ h2, by omega, by omega⟩

theorem lfT_len (a : List Nat) : (lfT a).length = trail 108 a + 1 + trail 114 a := by
  unfold lfT
  simp
  omega
theorem ok_from_leaves (T : Txt w K mg) : FnOk P w K mg base CX0 2 T.a_from_leaves T.fd_from_leaves ["addresses"] (sp_from_leaves K) := by
  refine T.F_from_leaves.ok sc_from_leaves (fun vs H Q E h => ?_) (fun cdv A outer s H vs Q E hr h => ?_)
  · obtain ⟨_, _, rfl, _⟩ := h; rfl
  obtain ⟨p, t, rfl, hp, ht, q⟩ := h
  refine ⟨_, (pss_cons (ps_setLc (i := 1) (own := [("address", 2)]) rfl sc_from_leaves.nd rfl rfl (sw_true rfl rfl rfl (by decide +kernel)) (pi_list (pv 0)) (blkOk_by (own := [("address", 2)]) (N := nm_from_leaves) (sc := defScope s_from_leaves) (by decide +kernel)) (fun _ _ _ _ _ => by exact (pg_name (i := 2) sc_from_leaves.nd rfl (by first | exact Or.inl rfl | exact Or.inr rfl))) (fun _ _ _ _ _ => by exact pts_nil) (fun _ _ _ _ _ => by exact (pe_op op_sub (pe_callB call_len_str (by rfl) T.z_len PySem.boot_len (pa_cons (pv 2) pa_nil)) (pe_callB call_len_str (by rfl) T.z_len PySem.boot_len (pa_cons (pe_m1 PySem.F.slot_str_rstrip PySem.F.type_str_rstrip mt_rstripChars (pv 2) pe_str) pa_nil)))))
    (pss_cons (ps_setLc (i := 3) (own := [("address", 2)]) rfl sc_from_leaves.nd rfl rfl (sw_true rfl rfl rfl (by decide +kernel)) (pi_list (pv 0)) (blkOk_by (own := [("address", 2)]) (N := nm_from_leaves) (sc := defScope s_from_leaves) (by decide +kernel)) (fun _ _ _ _ _ => by exact (pg_name (i := 2) sc_from_leaves.nd rfl (by first | exact Or.inl rfl | exact Or.inr rfl))) (fun _ _ _ _ _ => by exact pts_nil) (fun _ _ _ _ _ => by exact (pe_op op_sub (pe_callB call_len_str (by rfl) T.z_len PySem.boot_len (pa_cons (pv 2) pa_nil)) (pe_callB call_len_str (by rfl) T.z_len PySem.boot_len (pa_cons (pe_m1 PySem.F.slot_str_rstrip PySem.F.type_str_rstrip mt_rstripChars (pv 2) pe_str) pa_nil)))))
    (pss_one (ps_ret (pe_join pe_str (pe_lc (own := [("opening", 4), ("closing", 5)]) rfl sc_from_leaves.nd (pi_zip (by rfl) T.z_zip (pa_cons (pv 1) (pa_cons (pv 3) pa_nil))) (blkOk_by (own := [("opening", 4), ("closing", 5)]) (N := nm_from_leaves) (sc := defScope s_from_leaves) (by decide +kernel)) (fun _ _ _ _ _ => by exact (show L2.PG _ _ (gTup K 2 _) from (pg_tup rfl (pgs_cons (pg_name (i := 4) sc_from_leaves.nd rfl (by first | exact Or.inl rfl | exact Or.inr rfl)) (pgs_cons (pg_name (i := 5) sc_from_leaves.nd rfl (by first | exact Or.inl rfl | exact Or.inr rfl)) pgs_nil))))) (fun _ _ _ _ _ => by exact pts_nil) (fun _ _ _ _ _ => by exact (pe_op op_add_str (pe_op op_add_str (pe_op TRp.op_repS pe_str (pv 4)) pe_str) (pe_op TRp.op_repS pe_str (pv 5)))))))))), ?_⟩
  simp only [cxOf_K, tAsg2, tYes, wipe, tSeq, tIfS, tNot, tB, tCB, tCons, tNil, tVar, tC, tTest, tOp, tAnd, tOr, tAsg, gName, tRet, tRetN, tDrop, tNext, tIf, tCall, tTup, tLst, tNotV, tAndV, tOrV, tUn, rI0, rI, rU, rEq, rNe, tM1, tM0, tBM, tBM0, tSl, tPart, tNoPart, iStr, iEnumS, iRng1, iRng2, iList, gSub, tBits, tAug, tPar, L2.start, List.map_cons, List.map_nil, List.length_cons, List.length_nil, List.getElem?_cons_zero, List.getElem?_cons_succ, List.cons_append, List.nil_append, List.append_nil, List.set_cons_zero, List.set_cons_succ, List.replicate_succ, List.replicate_zero, Option.some.injEq, exists_eq_left', V.int.injEq, V.str.injEq, V.ref.injEq, V.bl.injEq, exists_and_left, exists_eq_left, List.cons.injEq, and_true, true_and, tCallX, tRs]
  have half : ∀ (c : Nat) (Hb : Hp) (i : Nat) (a : List Nat), (t.lvA [])[i]? = some a → a.length ≤ 2000 := fun c Hb i a hi => by
    have la := Tr.lvA_len t [] a (List.mem_of_getElem? hi)
    simp only [List.length_nil] at la
    omega
  have tln := Tr.lvA_length t []
  have tsz := Tr.lvs_size t
  refine ⟨_, rfl, p, rfl, ⟨_, SqL.of hp⟩, fun D hD => ?_⟩
  refine lc_list (K := K) (a := p) (xs := (t.lvA []).map sV) (fun i H' => Same H H' ∧ H' D = some (.lst (((t.lvA []).take i).map fun a => V.int (trail 108 a : Nat)))) ⟨(L2.Same.refl H).new hD _, upd_same⟩ (fun i H' _ hp' => SqL.of (hp'.1 _ _ hp)) ?_ ?_
  · rintro i x H' hi ⟨s3, hd⟩
    rw [List.getElem?_map, Option.map_eq_some_iff] at hi
    obtain ⟨a, hi, rfl⟩ := hi
    have la := half 0 H i a hi
    have hil : i < (t.lvA []).length := (List.getElem?_eq_some_iff.mp hi).1
    simp only [cxOf_K, tAsg2, tYes, wipe, tSeq, tIfS, tNot, tB, tCB, tCons, tNil, tVar, tC, tTest, tOp, tAnd, tOr, tAsg, gName, tRet, tRetN, tDrop, tNext, tIf, tCall, tTup, tLst, tNotV, tAndV, tOrV, tUn, rI0, rI, rU, rEq, rNe, tM1, tM0, tBM, tBM0, tSl, tPart, tNoPart, iStr, iEnumS, iRng1, iRng2, iList, gSub, tBits, tAug, tPar, L2.start, List.map_cons, List.map_nil, List.length_cons, List.length_nil, List.getElem?_cons_zero, List.getElem?_cons_succ, List.cons_append, List.nil_append, List.append_nil, List.set_cons_zero, List.set_cons_succ, List.replicate_succ, List.replicate_zero, Option.some.injEq, exists_eq_left', V.int.injEq, V.str.injEq, V.ref.injEq, V.bl.injEq, exists_and_left, exists_eq_left, List.cons.injEq, and_true, true_and, tCallX, tRs]
    have al : (S a).length = a.length := S_len a
    have tl := trail_le 108 a
    have tp : (S (topOf 108 a)).length = a.length - trail 108 a := by
      rw [S_len]
      unfold topOf
      rw [List.length_take]
      omega
    rw [if_pos True.intro, show Str.ofString "l" = S [108] by decide +kernel, rstrip_S, al, tp]
    refine ⟨small5 (by omega), ⟨_, rfl⟩, small5 (by omega), small5 (by omega), _, hd, ?_, s3.new hD _, ?_⟩
    · rw [List.length_map, List.length_take]
      exact small5' (by omega)
    · rw [upd_same, List.take_add_one, hi]
      simp
      omega
  rintro H1 ⟨s1, hd⟩
  rw [List.length_map, List.take_of_length_le (Nat.le_refl _)] at hd
  refine ⟨_, rfl, p, rfl, ⟨_, SqL.of (s1 _ _ hp)⟩, fun D2 hD2 => ?_⟩
  refine lc_list (K := K) (a := p) (xs := (t.lvA []).map sV) (fun i H' => Same H1 H' ∧ H' D2 = some (.lst (((t.lvA []).take i).map fun a => V.int (trail 114 a : Nat)))) ⟨(L2.Same.refl H1).new hD2 _, upd_same⟩ (fun i H' _ hp' => SqL.of (hp'.1 _ _ (s1 _ _ hp))) ?_ ?_
  · rintro i x H' hi ⟨s3, hd'⟩
    rw [List.getElem?_map, Option.map_eq_some_iff] at hi
    obtain ⟨a, hi, rfl⟩ := hi
    have la := half 0 H i a hi
    have hil : i < (t.lvA []).length := (List.getElem?_eq_some_iff.mp hi).1
    simp only [cxOf_K, tAsg2, tYes, wipe, tSeq, tIfS, tNot, tB, tCB, tCons, tNil, tVar, tC, tTest, tOp, tAnd, tOr, tAsg, gName, tRet, tRetN, tDrop, tNext, tIf, tCall, tTup, tLst, tNotV, tAndV, tOrV, tUn, rI0, rI, rU, rEq, rNe, tM1, tM0, tBM, tBM0, tSl, tPart, tNoPart, iStr, iEnumS, iRng1, iRng2, iList, gSub, tBits, tAug, tPar, L2.start, List.map_cons, List.map_nil, List.length_cons, List.length_nil, List.getElem?_cons_zero, List.getElem?_cons_succ, List.cons_append, List.nil_append, List.append_nil, List.set_cons_zero, List.set_cons_succ, List.replicate_succ, List.replicate_zero, Option.some.injEq, exists_eq_left', V.int.injEq, V.str.injEq, V.ref.injEq, V.bl.injEq, exists_and_left, exists_eq_left, List.cons.injEq, and_true, true_and, tCallX, tRs]
    have al : (S a).length = a.length := S_len a
    have tl := trail_le 114 a
    have tp : (S (topOf 114 a)).length = a.length - trail 114 a := by
      rw [S_len]
      unfold topOf
      rw [List.length_take]
      omega
    rw [if_pos True.intro, show Str.ofString "r" = S [114] by decide +kernel, rstrip_S, al, tp]
    refine ⟨small5 (by omega), ⟨_, rfl⟩, small5 (by omega), small5 (by omega), _, hd', ?_, s3.new hD2 _, ?_⟩
    · rw [List.length_map, List.length_take]
      exact small5' (by omega)
    · rw [upd_same, List.take_add_one, hi]
      simp
      omega
  rintro H2 ⟨s2, hd2⟩
  rw [List.length_map, List.take_of_length_le (Nat.le_refl _)] at hd2
  have hd1 := s2 _ _ hd
  have hz : ∀ (i : Nat) (x y : V), ((t.lvA []).map fun a => V.int (trail 108 a : Nat))[i]? = some x → ((t.lvA []).map fun a => V.int (trail 114 a : Nat))[i]? = some y → ∃ a, (t.lvA [])[i]? = some a ∧ x = V.int (trail 108 a : Nat) ∧ y = V.int (trail 114 a : Nat) := fun i x y hx hy => by
    rw [List.getElem?_map, Option.map_eq_some_iff] at hx hy
    obtain ⟨a, ha, rfl⟩ := hx
    obtain ⟨b, hb, rfl⟩ := hy
    rw [ha] at hb
    cases hb
    exact ⟨a, ha, rfl, rfl⟩
  refine ⟨⟨_, rfl⟩, ?_⟩
  refine ⟨_, rfl, _, rfl, D, D2, _, _, rfl, SqL.of hd1, SqL.of hd2, fun D3 hD3 => ?_⟩
  have n1 : D ≠ D3 := ne_of_none hd1 hD3
  have n2 : D2 ≠ D3 := ne_of_none hd2 hD3
  refine lc_zip (K := K) (fun i H' => Same H2 H' ∧ H' D3 = some (.lst (((t.lvA []).take i).map fun a => V.str (S (lfT a))))) ⟨(L2.Same.refl H2).new hD3 _, upd_same⟩ (fun i H' hq => ⟨SqL.of (hq.1 _ _ hd1), SqL.of (hq.1 _ _ hd2)⟩) ?_ ?_
  · rintro i x y H' d hx hy ⟨s3, h3⟩ nd
    obtain ⟨a, hi, rfl, rfl⟩ := hz i x y hx hy
    have la := half 0 H i a hi
    have hil : i < (t.lvA []).length := (List.getElem?_eq_some_iff.mp hi).1
    have t1 := trail_le 108 a
    have t2 := trail_le 114 a
    have nDd : D3 ≠ d := ne_of_none h3 nd
    simp only [gTup, gCons, gNil, cxOf_K, tAsg2, tYes, wipe, tSeq, tIfS, tNot, tB, tCB, tCons, tNil, tVar, tC, tTest, tOp, tAnd, tOr, tAsg, gName, tRet, tRetN, tDrop, tNext, tIf, tCall, tTup, tLst, tNotV, tAndV, tOrV, tUn, rI0, rI, rU, rEq, rNe, tM1, tM0, tBM, tBM0, tSl, tPart, tNoPart, iStr, iEnumS, iRng1, iRng2, iList, gSub, tBits, tAug, tPar, L2.start, List.map_cons, List.map_nil, List.length_cons, List.length_nil, List.getElem?_cons_zero, List.getElem?_cons_succ, List.cons_append, List.nil_append, List.append_nil, List.set_cons_zero, List.set_cons_succ, List.replicate_succ, List.replicate_zero, Option.some.injEq, exists_eq_left', V.int.injEq, V.str.injEq, V.ref.injEq, V.bl.injEq, exists_and_left, exists_eq_left, List.cons.injEq, and_true, true_and, tCallX, tRs]
    refine ⟨_, SqT.of upd_same, rfl, _, _, rfl, _, _, rfl, rfl, ?_⟩
    rw [if_pos True.intro]
    refine ⟨_, 40, _, rfl, lit_open, rfl, by omega, ?_⟩
    refine ⟨_, rfl, by rw [S_len, List.length_replicate, show (Str.ofString ".").length = 1 from rfl]; exact small5 (by omega), ?_⟩
    rw [lit_dot, S_app]
    refine ⟨_, 41, _, rfl, lit_close, rfl, by omega, ?_⟩
    refine ⟨_, rfl, by rw [S_len, S_len, List.length_append, List.length_replicate, List.length_replicate, List.length_singleton]; exact small5 (by omega), ?_⟩
    rw [S_app]
    refine ⟨_, by rw [upd_ne nDd]; exact h3, ?_, (s3.new (s3.free nd) _).new hD3 _, ?_⟩
    · rw [List.length_map, List.length_take]
      exact small5' (by omega)
    · rw [upd_same, List.take_add_one, hi]
      simp [lfT]
  · rintro H' ⟨s3, h3⟩
    rw [List.length_map, List.length_map, Nat.min_self, List.take_of_length_le (Nat.le_refl _)] at h3
    have e : ((t.lvA []).map lfT).map S = (t.lvA []).map fun a => S (lfT a) := by rw [List.map_map]; rfl
    refine ⟨D3, rfl, ((t.lvA []).map lfT).map S, .inl (SqL.of (by rw [h3, e, List.map_map]; rfl)), ?_, ?_⟩
    · have b : ((((t.lvA []).map lfT).map S).map (·.length)).sum = ((t.lvA []).map fun a => (lfT a).length).sum := by
        rw [e, List.map_map]
        refine congrArg List.sum (List.map_congr_left fun a _ => ?_)
        show (S (lfT a)).length = _
        rw [S_len]
      have c := congrArg List.length (lfT_tree t)
      rw [List.length_flatMap] at c
      have d := tr_len ht
      rw [b, c, show (Str.ofString "").length = 0 from rfl]
      omega
    · rw [show Str.ofString "" = S [] by decide +kernel, join_S0, joinL_nil, ← List.flatMap_def, lfT_tree]
      exact q _ (s1.trans (s2.trans s3))

theorem mf_put (A B : Tr) : putF (Str.ofString "_after") (trV B) (putF (Str.ofString "_before") (trV A) []) = mf A B := by
  have n : ¬ (Str.ofString "_before" = Str.ofString "_after") := by decide +kernel
  show (if Str.ofString "_before" = Str.ofString "_after" then _ else (Str.ofString "_before", trV A) :: putF (Str.ofString "_after") (trV B) []) = _
  rw [if_neg n]; rfl
theorem ok_Move___init__ (T : Txt w K mg) : FnOk P w K mg base (L2.CX P w) 4 T.a_Move___init__ T.fd_Move___init__ ["self", "before", "after"] (sp_Move___init__ T) := by
  refine T.F_Move___init__.okX sc_Move___init__ (fun vs H Q E h => ?_) (fun cdv A outer s H vs Q E hr h => ?_)
  · obtain ⟨_, _, _, _, _, rfl, _⟩ := h; rfl
  obtain ⟨H0, p, dx, u, v, rfl, s0, np, hp, h⟩ := h
  refine ⟨_, (pss_cons (ps_expr (pe_callX (ok_check_tree T) (takes_of rfl rfl rfl rfl) (hr.mono (by first | decide | omega)) (by rfl) T.m_check_tree T.F_check_tree.kp T.b_check_tree .nil (pa_cons (pv 1) pa_nil)))
    (pss_cons (ps_expr (pe_callX (ok_check_tree T) (takes_of rfl rfl rfl rfl) (hr.mono (by first | decide | omega)) (by rfl) T.m_check_tree T.F_check_tree.kp T.b_check_tree .nil (pa_cons (pv 2) pa_nil)))
    (pss_cons (ps_if (pt_cmpR op_ne (pe_m1 PySem.F.slot_str_count PySem.F.type_str_count mt_count (pv 1) pe_str) (pe_m1 PySem.F.slot_str_count PySem.F.type_str_count mt_count (pv 2) pe_str) (nomark _)) (pss_one (ps_raise rfl (takes_of rfl rfl rfl rfl) (pmk_err T.o_InvalidMove (hr.mono (by first | decide | omega)) (by rfl) (pe_tup (pa_cons (pv 1) (pa_cons (pv 2) pa_nil)))))) pss_nil)
    (pss_cons (ps_fld (pv 0) (pe_slice sl_str (pv 1) po_none po_none) rfl)
    (pss_one (ps_fld (pv 0) (pe_slice sl_str (pv 2) po_none po_none) rfl)))))), ?_⟩
  simp only [cxOf_K, tAsg2, tYes, wipe, tSeq, tIfS, tNot, tB, tCB, tCons, tNil, tVar, tC, tTest, tOp, tAnd, tOr, tAsg, gName, tRet, tRetN, tDrop, tNext, tIf, tCall, tTup, tLst, tNotV, tAndV, tOrV, tUn, rI0, rI, rU, rEq, rNe, tM1, tM0, tBM, tBM0, tSl, tPart, tNoPart, iStr, iEnumS, iRng1, iRng2, iList, gSub, tBits, tAug, tPar, L2.start, List.map_cons, List.map_nil, List.length_cons, List.length_nil, List.getElem?_cons_zero, List.getElem?_cons_succ, List.cons_append, List.nil_append, List.append_nil, List.set_cons_zero, List.set_cons_succ, List.replicate_succ, List.replicate_zero, Option.some.injEq, exists_eq_left', V.int.injEq, V.str.injEq, V.ref.injEq, V.bl.injEq, exists_and_left, exists_eq_left, List.cons.injEq, and_true, true_and, tCallX, tRs, tProp, OW.tSMeth, OW.tCallI, Nat.sub_self, List.replicate_zero, tFld, sFld, sFldAug, tDGet, tDIn, tDNotIn, sDPut, tMeth, tMake, tDNewK]
  rcases h with ⟨A', rfl, a2, h⟩ | ⟨nt, out⟩
  case inr => exact ⟨u, rfl, .inr ⟨nt, out⟩⟩
  refine ⟨trV A', rfl, .inl ⟨A', rfl, a2, fun H1 s1 => ?_⟩⟩
  rcases h with ⟨B', rfl, b2, good, bad⟩ | ⟨nt, out⟩
  case inr => exact ⟨v, rfl, .inr ⟨nt.same s1, out.same s1⟩⟩
  refine ⟨trV B', rfl, .inl ⟨B', rfl, b2, fun H2 s2 => ?_⟩⟩
  have s12 := s1.trans s2
  refine ⟨⟨_, rfl⟩, S A'.cs, rfl, ⟨_, rfl⟩, S B'.cs, rfl, ?_⟩
  rw [lit_open, count_S, count_S, count_open, count_open]
  refine ⟨rfl, ?_⟩
  by_cases e : A'.size = B'.size
  · rw [if_neg (by simp [e])]
    have la := tr_len a2
    have lb := tr_len b2
    have hp2 := s12 _ _ hp
    refine ⟨_, rfl, by rw [S_len]; exact small5 (by omega), ?_⟩
    rw [cutAll]
    refine ⟨_, _, _, hp2, T.l_Move, T.n_Move__before, by show 0 < 1000; decide, ?_⟩
    refine ⟨_, rfl, by rw [S_len]; exact small5 (by omega), ?_⟩
    rw [cutAll]
    refine ⟨_, _, _, upd_same, T.l_Move, T.n_Move__after, by show 1 < 1000; decide, ?_⟩
    refine good e _ ?_ ?_
    · exact ((s0.trans s12).new np _).new np _
    · rw [upd_same, mf_put]
  · rw [if_pos (by simp only [Bool.not_eq_true', decide_eq_false_iff_not]; omega)]
    refine ⟨by decide, fun q nq d H3 s3 nd hd => ?_⟩
    have s4 := (s12.new (s12.free nq) (.tup [trV A', trV B']))
    exact bad e q d H3 (s4.trans s3) (s12.free nq) (s3 _ _ upd_same) hd (s4.free nd)

theorem make_mv (T : Txt w K mg) {H : Hp} {Q : VK} {E : XK} {A B : Tr} (hA : A.size ≤ 2000) (e : A.size = B.size) (q : NewM T.c_Move H A B Q) : ∀ x dx, H x = none → H dx = none → dx ≠ x → sp_Move___init__ T [.ref x, trV A, trV B] (upd (upd H dx (.own x)) x (.ins T.c_Move dx [])) (fun v H2 => v = .non ∧ Q (.ref x) H2) E := by
  intro x dx nx ndx nex
  have s0 : Same H (upd (upd H dx (.own x)) x (.ins T.c_Move dx [])) := ((L2.Same.refl H).new ndx _).new nx _
  refine ⟨H, x, dx, trV A, trV B, rfl, s0, nx, upd_same, .inl ⟨A, rfl, hA, .inl ⟨B, rfl, by omega, fun _ H' s h => ⟨rfl, q x H' nx s ⟨e, x, dx, rfl, h⟩⟩, fun n => absurd e n⟩⟩⟩

theorem ok_widest (T : Txt w K mg) : FnOk P w K mg base (L2.CX P w) 10 T.a_widest T.fd_widest ["move"] (sp_widest T) := by
  refine T.F_widest.okX sc_widest (fun vs H Q E h => ?_) (fun cdv A outer s H vs Q E hr h => ?_)
  · obtain ⟨_, rfl, _⟩ := h; rfl
  obtain ⟨v, rfl, h⟩ := h
  refine ⟨_, (pss_cons (ps_set (i := 1) sc_widest.nd rfl (by first | exact Or.inl rfl | exact Or.inr rfl) (pe_callX (ok_paired T) (takes_of rfl rfl rfl rfl) (hr.mono (by first | decide | omega)) (by rfl) T.m_paired T.F_paired.kp T.b_paired .nil (pa_cons (pv 0) pa_nil)))
    (pss_one (ps_ret (pe_make T.k_Move (ok_Move___init__ T) (hr.mono (by first | decide | omega)) (by rfl) T.g_Move T.b_Move___init__ .nil passL (pa_cons (pe_call (ok_from_leaves T) (hr.mono (by first | decide | omega)) (by rfl) T.m_from_leaves T.F_from_leaves.kp T.b_from_leaves .nil pass0 (pa_cons (pe_lc (own := [("source", 2), ("target", 3)]) rfl sc_widest.nd (pi_list (pv 1)) (blkOk_by (own := [("source", 2), ("target", 3)]) (N := nm_widest) (sc := defScope s_widest) (by decide +kernel)) (fun _ _ _ _ _ => by exact (show L2.PG _ _ (gTup K 2 _) from (pg_tup rfl (pgs_cons (pg_name (i := 2) sc_widest.nd rfl (by first | exact Or.inl rfl | exact Or.inr rfl)) (pgs_cons (pg_name (i := 3) sc_widest.nd rfl (by first | exact Or.inl rfl | exact Or.inr rfl)) pgs_nil))))) (fun _ _ _ _ _ => by exact pts_nil) (fun _ _ _ _ _ => by exact (pv 2))) pa_nil)) (pa_cons (pe_call (ok_from_leaves T) (hr.mono (by first | decide | omega)) (by rfl) T.m_from_leaves T.F_from_leaves.kp T.b_from_leaves .nil pass0 (pa_cons (pe_lc (own := [("source", 2), ("target", 3)]) rfl sc_widest.nd (pi_list (pv 1)) (blkOk_by (own := [("source", 2), ("target", 3)]) (N := nm_widest) (sc := defScope s_widest) (by decide +kernel)) (fun _ _ _ _ _ => by exact (show L2.PG _ _ (gTup K 2 _) from (pg_tup rfl (pgs_cons (pg_name (i := 2) sc_widest.nd rfl (by first | exact Or.inl rfl | exact Or.inr rfl)) (pgs_cons (pg_name (i := 3) sc_widest.nd rfl (by first | exact Or.inl rfl | exact Or.inr rfl)) pgs_nil))))) (fun _ _ _ _ _ => by exact pts_nil) (fun _ _ _ _ _ => by exact (pv 3))) pa_nil)) pa_nil)))))), ?_⟩
  simp only [cxOf_K, tAsg2, tYes, wipe, tSeq, tIfS, tNot, tB, tCB, tCons, tNil, tVar, tC, tTest, tOp, tAnd, tOr, tAsg, gName, tRet, tRetN, tDrop, tNext, tIf, tCall, tTup, tLst, tNotV, tAndV, tOrV, tUn, rI0, rI, rU, rEq, rNe, tM1, tM0, tBM, tBM0, tSl, tPart, tNoPart, iStr, iEnumS, iRng1, iRng2, iList, gSub, tBits, tAug, tPar, L2.start, List.map_cons, List.map_nil, List.length_cons, List.length_nil, List.getElem?_cons_zero, List.getElem?_cons_succ, List.cons_append, List.nil_append, List.append_nil, List.set_cons_zero, List.set_cons_succ, List.replicate_succ, List.replicate_zero, Option.some.injEq, exists_eq_left', V.int.injEq, V.str.injEq, V.ref.injEq, V.bl.injEq, exists_and_left, exists_eq_left, List.cons.injEq, and_true, true_and, tCallX, tRs, tProp, OW.tSMeth, OW.tCallI, Nat.sub_self, List.replicate_zero, tFld, sFld, sFldAug, tDGet, tDIn, tDNotIn, sDPut, tMeth, tMake, tDNewK]
  rcases h with ⟨A', B', m, aS, q⟩ | ⟨nm, out⟩
  case inr => exact ⟨v, rfl, .inr ⟨nm, out⟩⟩
  refine ⟨v, rfl, .inl ⟨A', B', m, aS, fun p ws H1 np s1 hp aps => ?_⟩⟩
  have lv := m.lvs
  have o := wdT_of lv
  generalize wdT A' B' = CD at o q
  obtain ⟨C, D⟩ := CD
  obtain ⟨e1, e2, gr⟩ := o
  have e1 : (prd A' B').map (·.1) = C.lvA [] := e1
  have e2 : (prd A' B').map (·.2) = D.lvA [] := e2
  have gr : Gr A' B' C D := gr
  have q : NewM T.c_Move H C D Q := q
  have z1 := gr.size
  have z2 := gr.swap.size
  have bS := m.1
  have cd : C.size = D.size := grow_size_lvs (by obtain ⟨xs, _, h, _⟩ := gr; exact h)
  have cl := Tr.lvA_length C []
  have pl : (prd A' B').length = C.lvs := by rw [← cl, ← e1, List.length_map]
  have wl := aps.length
  have cz := Tr.lvs_size C
  refine ⟨_, rfl, p, rfl, ⟨_, SqL.of hp⟩, fun D1 hD1 => ?_⟩
  refine lc_list (K := K) (a := p) (xs := ws) (fun i H' => Same H1 H' ∧ H' D1 = some (.lst (((prd A' B').take i).map fun x : AP => sV x.1))) ⟨(L2.Same.refl H1).new hD1 _, upd_same⟩ (fun i H' _ hp' => SqL.of (hp'.1 _ _ hp)) ?_ ?_
  · rintro i x H' hi ⟨s3, hd⟩
    obtain ⟨qq, y, rfl, hy, hq⟩ := (aps).get hi
    have hil : i < ws.length := (List.getElem?_eq_some_iff.mp hi).1
    simp only [gTup, gCons, gNil, cxOf_K, tAsg2, tYes, wipe, tSeq, tIfS, tNot, tB, tCB, tCons, tNil, tVar, tC, tTest, tOp, tAnd, tOr, tAsg, gName, tRet, tRetN, tDrop, tNext, tIf, tCall, tTup, tLst, tNotV, tAndV, tOrV, tUn, rI0, rI, rU, rEq, rNe, tM1, tM0, tBM, tBM0, tSl, tPart, tNoPart, iStr, iEnumS, iRng1, iRng2, iList, gSub, tBits, tAug, tPar, L2.start, List.map_cons, List.map_nil, List.length_cons, List.length_nil, List.getElem?_cons_zero, List.getElem?_cons_succ, List.cons_append, List.nil_append, List.append_nil, List.set_cons_zero, List.set_cons_succ, List.replicate_succ, List.replicate_zero, Option.some.injEq, exists_eq_left', V.int.injEq, V.str.injEq, V.ref.injEq, V.bl.injEq, exists_and_left, exists_eq_left, List.cons.injEq, and_true, true_and, tCallX, tRs, tProp, OW.tSMeth, OW.tCallI, Nat.sub_self, List.replicate_zero, tFld, sFld, sFldAug, tDGet, tDIn, tDNotIn, sDPut, tMeth, tMake, tDNewK]
    refine ⟨_, SqT.of (s3 _ _ hq), rfl, _, _, rfl, _, _, rfl, rfl, ?_⟩
    rw [if_pos True.intro]
    refine ⟨_, hd, ?_, s3.new hD1 _, ?_⟩
    · rw [List.length_map, List.length_take]
      exact small5' (by omega)
    · rw [upd_same, List.take_add_one, hy]
      simp
  rintro H2 ⟨s2, hd⟩
  rw [wl, List.take_of_length_le (Nat.le_refl _)] at hd
  have hd : H2 D1 = some (.lst ((C.lvA []).map sV)) := by rw [hd, ← e1, List.map_map]; rfl
  refine ⟨D1, C, rfl, hd, by omega, fun H3 s3 => ?_⟩
  have s13 := s2.trans s3
  have hp3 := s13 _ _ hp
  have aps3 := aps.same s13
  refine ⟨_, rfl, p, rfl, ⟨_, SqL.of hp3⟩, fun D2 hD2 => ?_⟩
  refine lc_list (K := K) (a := p) (xs := ws) (fun i H' => Same H3 H' ∧ H' D2 = some (.lst (((prd A' B').take i).map fun x : AP => sV x.2))) ⟨(L2.Same.refl H3).new hD2 _, upd_same⟩ (fun i H' _ hp' => SqL.of (hp'.1 _ _ hp3)) ?_ ?_
  · rintro i x H' hi ⟨s3, hd⟩
    obtain ⟨qq, y, rfl, hy, hq⟩ := (aps3).get hi
    have hil : i < ws.length := (List.getElem?_eq_some_iff.mp hi).1
    simp only [gTup, gCons, gNil, cxOf_K, tAsg2, tYes, wipe, tSeq, tIfS, tNot, tB, tCB, tCons, tNil, tVar, tC, tTest, tOp, tAnd, tOr, tAsg, gName, tRet, tRetN, tDrop, tNext, tIf, tCall, tTup, tLst, tNotV, tAndV, tOrV, tUn, rI0, rI, rU, rEq, rNe, tM1, tM0, tBM, tBM0, tSl, tPart, tNoPart, iStr, iEnumS, iRng1, iRng2, iList, gSub, tBits, tAug, tPar, L2.start, List.map_cons, List.map_nil, List.length_cons, List.length_nil, List.getElem?_cons_zero, List.getElem?_cons_succ, List.cons_append, List.nil_append, List.append_nil, List.set_cons_zero, List.set_cons_succ, List.replicate_succ, List.replicate_zero, Option.some.injEq, exists_eq_left', V.int.injEq, V.str.injEq, V.ref.injEq, V.bl.injEq, exists_and_left, exists_eq_left, List.cons.injEq, and_true, true_and, tCallX, tRs, tProp, OW.tSMeth, OW.tCallI, Nat.sub_self, List.replicate_zero, tFld, sFld, sFldAug, tDGet, tDIn, tDNotIn, sDPut, tMeth, tMake, tDNewK]
    refine ⟨_, SqT.of (s3 _ _ hq), rfl, _, _, rfl, _, _, rfl, rfl, ?_⟩
    rw [if_pos True.intro]
    refine ⟨_, hd, ?_, s3.new hD2 _, ?_⟩
    · rw [List.length_map, List.length_take]
      exact small5' (by omega)
    · rw [upd_same, List.take_add_one, hy]
      simp
  rintro H4 ⟨s4, hd⟩
  rw [wl, List.take_of_length_le (Nat.le_refl _)] at hd
  have hd : H4 D2 = some (.lst ((D.lvA []).map sV)) := by rw [hd, ← e2, List.map_map]; rfl
  refine ⟨D2, D, rfl, hd, by omega, fun H5 s5 => ?_⟩
  have s15 := s1.trans (s13.trans (s4.trans s5))
  exact make_mv T (by omega) cd fun p' H' np s' m => q p' H' (s15.free np) (s15.trans s') m

theorem Stps.reverse {H : Hp} : ∀ {vs : List V} {xs : List (Str × List Nat)}, Stps H vs xs → Stps H vs.reverse xs.reverse
  | _, _, .nil => .nil
  | _, _, .cons a b => by
    rw [List.reverse_cons, List.reverse_cons]
    exact Stps.append (Stps.reverse b) (.cons a .nil)
theorem ok_opposite (T : Txt w K mg) : FnOk P w K mg base (L2.CX P w) 5 T.a_opposite T.fd_opposite ["steps"] (sp_opposite T) := by
  refine T.F_opposite.okX sc_opposite (fun vs H Q E h => ?_) (fun cdv A outer s H vs Q E hr h => ?_)
  · obtain ⟨v, rfl, _⟩ := h; rfl
  obtain ⟨v, rfl, h⟩ := h
  refine ⟨_, (pss_one (ps_ret (pe_lc (own := [("word", 1), ("address", 2)]) rfl sc_opposite.nd (pi_list (pe_revL (pe_callX (ok_checked_script T) (takes_of rfl rfl rfl rfl) (hr.mono (by first | decide | omega)) (by rfl) T.m_checked_script T.F_checked_script.kp T.b_checked_script .nil (pa_cons (pv 0) pa_nil)))) (blkOk_by (own := [("word", 1), ("address", 2)]) (N := nm_opposite) (sc := defScope s_opposite) (by decide +kernel)) (fun _ _ _ _ _ => by exact (show L2.PG _ _ (gTup K 2 _) from (pg_tup rfl (pgs_cons (pg_name (i := 1) sc_opposite.nd rfl (by first | exact Or.inl rfl | exact Or.inr rfl)) (pgs_cons (pg_name (i := 2) sc_opposite.nd rfl (by first | exact Or.inl rfl | exact Or.inr rfl)) pgs_nil))))) (fun _ _ _ _ _ => by exact pts_nil) (fun _ _ _ _ _ => by exact (pe_tup (pa_cons (show L2.PE _ _ (tOp (TD.rIxKD T.d_OTHER_WORD kv_OTHER_WORD) _ _) from (pe_ix (TD.ix_KD T.k_OTHER_WORD) (pe_glob (v := .ref T.d_OTHER_WORD) (by rfl) T.m_OTHER_WORD rfl) (pv 1) (fun _ _ => rfl))) (pa_cons (pv 2) pa_nil))))))), ?_⟩
  simp only [cxOf_K, tAsg2, tYes, wipe, tSeq, tIfS, tNot, tB, tCB, tCons, tNil, tVar, tC, tTest, tOp, tAnd, tOr, tAsg, gName, tRet, tRetN, tDrop, tNext, tIf, tCall, tTup, tLst, tNotV, tAndV, tOrV, tUn, rI0, rI, rU, rEq, rNe, tM1, tM0, tBM, tBM0, tSl, tPart, tNoPart, iStr, iEnumS, iRng1, iRng2, iList, gSub, tBits, tAug, tPar, L2.start, List.map_cons, List.map_nil, List.length_cons, List.length_nil, List.getElem?_cons_zero, List.getElem?_cons_succ, List.cons_append, List.nil_append, List.append_nil, List.set_cons_zero, List.set_cons_succ, List.replicate_succ, List.replicate_zero, Option.some.injEq, exists_eq_left', V.int.injEq, V.str.injEq, V.ref.injEq, V.bl.injEq, exists_and_left, exists_eq_left, List.cons.injEq, and_true, true_and, tCallX, tRs]
  rcases h with ⟨xs, ⟨a, ws, rfl, ha, st, hl, ok⟩, q⟩ | ⟨bs, out⟩
  · refine ⟨_, rfl, _, rfl, .inl ⟨xs, ⟨a, ws, rfl, ha, st, hl, ok⟩, fun p ws' H1 np s1 hp st1 => ?_⟩⟩
    refine ⟨p, ws', rfl, SqL.of hp, fun p3 np3 => ⟨p3, rfl, ⟨_, SqL.of upd_same⟩, ?_⟩⟩
    have s3 := s1.new (s1.free np3) (.lst ws'.reverse)
    have h3 : upd H1 p3 (.lst ws'.reverse) p3 = some (.lst ws'.reverse) := upd_same
    have st3 := st1.same ((L2.Same.refl H1).new np3 (.lst ws'.reverse))
    have wl := st.length
    have wl' := st1.length
    have sr := st3.reverse
    generalize upd H1 p3 (.lst ws'.reverse) = H3 at s3 h3 st3 sr ⊢
    refine fun D hD => lc_list (K := K) (a := p3) (xs := ws'.reverse) (fun i H2 => Same H3 H2 ∧ ∃ us, H2 D = some (.lst us) ∧ us.length = i ∧ Stps H2 us ((xs.reverse.map fun x => (oth x.1, x.2)).take i)) ⟨(L2.Same.refl H3).new hD _, [], upd_same, rfl, .nil⟩ (fun i H2 _ hp => SqL.of (hp.1 _ _ h3)) ?_ ?_
    · rintro i x H2 hi ⟨s2, us, hd2, ul, su⟩
      have hil : i < ws'.reverse.length := (List.getElem?_eq_some_iff.mp hi).1
      rw [List.length_reverse] at hil
      obtain ⟨p4, x, rfl, hx, hp4⟩ := sr.get hi
      have hp2 := s2 _ _ hp4
      have okx := ok x (List.mem_reverse.mp (List.mem_of_getElem? hx))
      simp only [gTup, gCons, gNil, cxOf_K, tAsg2, tYes, wipe, tSeq, tIfS, tNot, tB, tCB, tCons, tNil, tVar, tC, tTest, tOp, tAnd, tOr, tAsg, gName, tRet, tRetN, tDrop, tNext, tIf, tCall, tTup, tLst, tNotV, tAndV, tOrV, tUn, rI0, rI, rU, rEq, rNe, tM1, tM0, tBM, tBM0, tSl, tPart, tNoPart, iStr, iEnumS, iRng1, iRng2, iList, gSub, tBits, tAug, tPar, L2.start, List.map_cons, List.map_nil, List.length_cons, List.length_nil, List.getElem?_cons_zero, List.getElem?_cons_succ, List.cons_append, List.nil_append, List.append_nil, List.set_cons_zero, List.set_cons_succ, List.replicate_succ, List.replicate_zero, Option.some.injEq, exists_eq_left', V.int.injEq, V.str.injEq, V.ref.injEq, V.bl.injEq, exists_and_left, exists_eq_left, List.cons.injEq, and_true, true_and, tCallX, tRs]
      refine ⟨_, SqT.of hp2, rfl, _, _, rfl, _, _, rfl, rfl, ?_⟩
      rw [if_pos True.intro]
      refine ⟨x.1, oth x.1, rfl, rfl, ?_, by decide, fun p5 np5 => stepTail (y := (oth x.1, x.2)) hD s2 hd2 ul su (by rw [List.getElem?_map, hx]; rfl) (by omega) np5⟩
      rcases okx.1 with e | e
      · rw [e]; decide +kernel
      · rw [e]; decide +kernel
    · rintro H2 ⟨s2, us, hd2, ul, su⟩
      rw [List.take_of_length_le (by simp; omega)] at su
      exact q D us H2 (s3.free hD) (s3.trans s2) hd2 su
  · exact ⟨_, rfl, _, rfl, .inr ⟨bs, out⟩⟩

theorem Dn_sum_off (t : Tr) : (Tr.Dn t []).sum = t.off := by
  have := Tr.Dn_sum t []
  simpa using this
theorem armV_mem : ∀ (k : Nat) (ns : List Nat), ∀ x ∈ armV k ns, x.1 = Str.ofString "right" ∧ ∃ j, j < k + ns.length ∧ x.2 = List.replicate j 114
  | _, [], x, h => nomatch h
  | k, n :: ns, x, h => by
    rcases List.mem_append.mp (show x ∈ List.replicate n (Str.ofString "right", List.replicate k 114) ++ armV (k + 1) ns from h) with h | h
    · rw [List.eq_of_mem_replicate h]
      exact ⟨rfl, k, by rw [List.length_cons]; omega, rfl⟩
    · obtain ⟨h1, j, h2, h3⟩ := armV_mem (k + 1) ns x h
      exact ⟨h1, j, by rw [List.length_cons]; omega, h3⟩
theorem armV_okSt (ns : List Nat) {D : Nat} (h : ns.length ≤ D) : ∀ x ∈ armV 0 ns, okSt D x := by
  intro x hx
  obtain ⟨h1, j, h2, h3⟩ := armV_mem 0 ns x hx
  exact ⟨.inr h1, by rw [h3]; unfold isA; simp, by rw [h3, List.length_replicate]; omega⟩
theorem ok_arm_script (T : Txt w K mg) : FnOk P w K mg base (L2.CX P w) 12 T.a_arm_script T.fd_arm_script ["move"] (sp_arm_script T) := by
  refine T.F_arm_script.okX sc_arm_script (fun vs H Q E h => ?_) (fun cdv A outer s H vs Q E hr h => ?_)
  · obtain ⟨_, rfl, _⟩ := h; rfl
  obtain ⟨v, rfl, h⟩ := h
  refine ⟨_, (pss_cons (ps_set (i := 1) sc_arm_script.nd rfl (by first | exact Or.inl rfl | exact Or.inr rfl) (pe_callX (ok_widest T) (takes_of rfl rfl rfl rfl) (hr.mono (by first | decide | omega)) (by rfl) T.m_widest T.F_widest.kp T.b_widest .nil (pa_cons (pv 0) pa_nil)))
    (pss_one (ps_ret (pe_op op_cat (pe_call (ok_arm_steps T) (hr.mono (by first | decide | omega)) (by rfl) T.m_arm_steps T.F_arm_steps.kp T.b_arm_steps .nil pass0 (pa_cons (pe_callX (ok_counts T) (takes_of rfl rfl rfl rfl) (hr.mono (by first | decide | omega)) (by rfl) T.m_counts T.F_counts.kp T.b_counts .nil (pa_cons (pe_prop (pv 1) T.l_Move T.p_Move_before (ok_Move_before T) (hr.mono (by first | decide | omega)) T.b_Move_before .nil pass0 rfl) pa_nil)) pa_nil)) (pe_callX (ok_opposite T) (takes_of rfl rfl rfl rfl) (hr.mono (by first | decide | omega)) (by rfl) T.m_opposite T.F_opposite.kp T.b_opposite .nil (pa_cons (pe_call (ok_arm_steps T) (hr.mono (by first | decide | omega)) (by rfl) T.m_arm_steps T.F_arm_steps.kp T.b_arm_steps .nil pass0 (pa_cons (pe_callX (ok_counts T) (takes_of rfl rfl rfl rfl) (hr.mono (by first | decide | omega)) (by rfl) T.m_counts T.F_counts.kp T.b_counts .nil (pa_cons (pe_prop (pv 1) T.l_Move T.p_Move_after (ok_Move_after T) (hr.mono (by first | decide | omega)) T.b_Move_after .nil pass0 rfl) pa_nil)) pa_nil)) pa_nil)))))), ?_⟩
  simp only [cxOf_K, tAsg2, tYes, wipe, tSeq, tIfS, tNot, tB, tCB, tCons, tNil, tVar, tC, tTest, tOp, tAnd, tOr, tAsg, gName, tRet, tRetN, tDrop, tNext, tIf, tCall, tTup, tLst, tNotV, tAndV, tOrV, tUn, rI0, rI, rU, rEq, rNe, tM1, tM0, tBM, tBM0, tSl, tPart, tNoPart, iStr, iEnumS, iRng1, iRng2, iList, gSub, tBits, tAug, tPar, L2.start, List.map_cons, List.map_nil, List.length_cons, List.length_nil, List.getElem?_cons_zero, List.getElem?_cons_succ, List.cons_append, List.nil_append, List.append_nil, List.set_cons_zero, List.set_cons_succ, List.replicate_succ, List.replicate_zero, Option.some.injEq, exists_eq_left', V.int.injEq, V.str.injEq, V.ref.injEq, V.bl.injEq, exists_and_left, exists_eq_left, List.cons.injEq, and_true, true_and, tCallX, tRs, tProp, OW.tSMeth, OW.tCallI, Nat.sub_self, List.replicate_zero, tFld, sFld, sFldAug, tDGet, tDIn, tDNotIn, sDPut, tMeth, tMake, tDNewK]
  rcases h with ⟨A', B', m, aS, q⟩ | o
  case inr => exact ⟨v, rfl, .inr o⟩
  have g := (wdT_of m.lvs).2.2
  refine ⟨v, rfl, .inl ⟨A', B', m, by omega, fun p H1 np s1 m1 => ?_⟩⟩
  generalize wdT A' B' = W at g q m1
  obtain ⟨W1, W2⟩ := W
  have g1 : Gr A' B' W1 W2 := g
  have z1 := g1.size
  have m1 : Mv T.c_Move H1 (.ref p) W1 W2 := m1
  have z2 := m1.1
  have d1 := Tr.Dn_length W1 []
  have d2 := Tr.Dn_length W2 []
  rw [Tr.lvs_size] at d1 d2
  have o1 := Dn_sum_off W1
  have o2 := Dn_sum_off W2
  have f1 := Tr.off_arm W1
  have f2 := Tr.off_arm W2
  have q : NewS H (scrV W1 W2) Q := q
  refine m1.bef T ⟨_, rfl, .inl ⟨W1, rfl, by omega, fun pc H2 nc s2 hc => ?_⟩⟩
  refine ⟨pc, Tr.Dn W1 [], rfl, hc, by omega, by omega, fun pa ws H3 na s3 ha st => ?_⟩
  have m3 := (m1.same s2).same s3
  refine m3.aft T ⟨_, rfl, .inl ⟨W2, rfl, by omega, fun pd H4 nd s4 hd => ?_⟩⟩
  refine ⟨pd, Tr.Dn W2 [], rfl, hd, by omega, by omega, fun pe us H5 ne s5 he su => ?_⟩
  have ul := su.length
  rw [armV_len] at ul
  refine ⟨_, rfl, .inl ⟨armV 0 (Tr.Dn W2 []), ⟨pe, us, rfl, he, su, by omega, armV_okSt _ (by omega)⟩, fun pf vs H6 nf s6 hf sv => ?_⟩⟩
  have s36 := s4.trans (s5.trans s6)
  have wl := st.length
  rw [armV_len] at wl
  have vl := sv.length
  rw [List.length_map, List.length_reverse, armV_len] at vl
  refine ⟨pa, pf, ws, vs, rfl, rfl, s36 _ _ ha, hf, small5 (by omega), fun pg ng => ?_⟩
  have s7 := (L2.Same.refl H6).new ng (.lst (ws ++ vs))
  have s06 := s1.trans (s2.trans (s3.trans s36))
  exact q pg (ws ++ vs) _ (s06.free ng) (s06.trans s7) upd_same (((st.same s36).same s7).append (sv.same s7))

theorem ok_size (T : Txt w K mg) : FnOk P w K mg base (L2.CX P w) 4 T.a_size T.fd_size ["tree"] (sp_size T) := by
  refine T.F_size.okX sc_size (fun vs H Q E h => ?_) (fun cdv A outer s H vs Q E hr h => ?_)
  · obtain ⟨v, rfl, _⟩ := h; rfl
  obtain ⟨v, rfl, h⟩ := h
  refine ⟨_, (pss_cons (ps_expr (pe_callX (ok_check_tree T) (takes_of rfl rfl rfl rfl) (hr.mono (by first | decide | omega)) (by rfl) T.m_check_tree T.F_check_tree.kp T.b_check_tree .nil (pa_cons (pv 0) pa_nil)))
    (pss_one (ps_ret (pe_m1 PySem.F.slot_str_count PySem.F.type_str_count mt_count (pv 0) pe_str)))), ?_⟩
  simp only [cxOf_K, tAsg2, tYes, wipe, tSeq, tIfS, tNot, tB, tCB, tCons, tNil, tVar, tC, tTest, tOp, tAnd, tOr, tAsg, gName, tRet, tRetN, tDrop, tNext, tIf, tCall, tTup, tLst, tNotV, tAndV, tOrV, tUn, rI0, rI, rU, rEq, rNe, tM1, tM0, tBM, tBM0, tSl, tPart, tNoPart, iStr, iEnumS, iRng1, iRng2, iList, gSub, tBits, tAug, tPar, L2.start, List.map_cons, List.map_nil, List.length_cons, List.length_nil, List.getElem?_cons_zero, List.getElem?_cons_succ, List.cons_append, List.nil_append, List.append_nil, List.set_cons_zero, List.set_cons_succ, List.replicate_succ, List.replicate_zero, Option.some.injEq, exists_eq_left', V.int.injEq, V.str.injEq, V.ref.injEq, V.bl.injEq, exists_and_left, exists_eq_left, List.cons.injEq, and_true, true_and, tCallX, tRs]
  rcases h with ⟨t, rfl, ht, q⟩ | ⟨nt, out⟩
  case inr => exact ⟨v, rfl, .inr ⟨nt, out⟩⟩
  refine ⟨_, rfl, .inl ⟨t, rfl, ht, fun H1 s1 => ?_⟩⟩
  simp only [cxOf_K, tAsg2, tYes, wipe, tSeq, tIfS, tNot, tB, tCB, tCons, tNil, tVar, tC, tTest, tOp, tAnd, tOr, tAsg, gName, tRet, tRetN, tDrop, tNext, tIf, tCall, tTup, tLst, tNotV, tAndV, tOrV, tUn, rI0, rI, rU, rEq, rNe, tM1, tM0, tBM, tBM0, tSl, tPart, tNoPart, iStr, iEnumS, iRng1, iRng2, iList, gSub, tBits, tAug, tPar, L2.start, List.map_cons, List.map_nil, List.length_cons, List.length_nil, List.getElem?_cons_zero, List.getElem?_cons_succ, List.cons_append, List.nil_append, List.append_nil, List.set_cons_zero, List.set_cons_succ, List.replicate_succ, List.replicate_zero, Option.some.injEq, exists_eq_left', V.int.injEq, V.str.injEq, V.ref.injEq, V.bl.injEq, exists_and_left, exists_eq_left, List.cons.injEq, and_true, true_and, tCallX, tRs]
  rw [lit_open, count_S, count_open]
  exact ⟨⟨_, rfl⟩, q _ s1⟩

theorem ok_check_both (T : Txt w K mg) : FnOk P w K mg base (L2.CX P w) 4 T.a_check_both T.fd_check_both ["one", "other"] (sp_check_both T) := by
  refine T.F_check_both.okX sc_check_both (fun vs H Q E h => ?_) (fun cdv A outer s H vs Q E hr h => ?_)
  · obtain ⟨_, _, rfl, _⟩ := h; rfl
  obtain ⟨A', B', rfl, a1, b1, q⟩ := h
  refine ⟨_, (pss_cons (ps_expr (pe_callX (ok_check_tree T) (takes_of rfl rfl rfl rfl) (hr.mono (by first | decide | omega)) (by rfl) T.m_check_tree T.F_check_tree.kp T.b_check_tree .nil (pa_cons (pv 0) pa_nil)))
    (pss_one (ps_expr (pe_callX (ok_check_tree T) (takes_of rfl rfl rfl rfl) (hr.mono (by first | decide | omega)) (by rfl) T.m_check_tree T.F_check_tree.kp T.b_check_tree .nil (pa_cons (pv 1) pa_nil))))), ?_⟩
  simp only [cxOf_K, tAsg2, tYes, wipe, tSeq, tIfS, tNot, tB, tCB, tCons, tNil, tVar, tC, tTest, tOp, tAnd, tOr, tAsg, gName, tRet, tRetN, tDrop, tNext, tIf, tCall, tTup, tLst, tNotV, tAndV, tOrV, tUn, rI0, rI, rU, rEq, rNe, tM1, tM0, tBM, tBM0, tSl, tPart, tNoPart, iStr, iEnumS, iRng1, iRng2, iList, gSub, tBits, tAug, tPar, L2.start, List.map_cons, List.map_nil, List.length_cons, List.length_nil, List.getElem?_cons_zero, List.getElem?_cons_succ, List.cons_append, List.nil_append, List.append_nil, List.set_cons_zero, List.set_cons_succ, List.replicate_succ, List.replicate_zero, Option.some.injEq, exists_eq_left', V.int.injEq, V.str.injEq, V.ref.injEq, V.bl.injEq, exists_and_left, exists_eq_left, List.cons.injEq, and_true, true_and, tCallX, tRs, tProp, OW.tSMeth, OW.tCallI, Nat.sub_self, List.replicate_zero, tFld, sFld, sFldAug, tDGet, tDIn, tDNotIn, sDPut, tMeth, tMake, tDNewK]
  exact ⟨_, rfl, .inl ⟨A', rfl, by omega, fun H1 s1 => ⟨_, rfl, .inl ⟨B', rfl, by omega, fun H2 s2 => q _ (s1.trans s2)⟩⟩⟩⟩
theorem ok_arm_way (T : Txt w K mg) : FnOk P w K mg base (L2.CX P w) 14 T.a_arm_way T.fd_arm_way ["one", "other"] (sp_arm_way T) := by
  refine T.F_arm_way.okX sc_arm_way (fun vs H Q E h => ?_) (fun cdv A outer s H vs Q E hr h => ?_)
  · obtain ⟨_, _, rfl, _⟩ := h; rfl
  obtain ⟨A', B', rfl, a1, ab, q⟩ := h
  refine ⟨_, (pss_cons (ps_expr (pe_callX (ok_check_both T) (takes_of rfl rfl rfl rfl) (hr.mono (by first | decide | omega)) (by rfl) T.m_check_both T.F_check_both.kp T.b_check_both .nil (pa_cons (pv 0) (pa_cons (pv 1) pa_nil))))
    (pss_one (ps_ret (pe_ifExp (pt_cmpR op_eq (pe_callX (ok_size T) (takes_of rfl rfl rfl rfl) (hr.mono (by first | decide | omega)) (by rfl) T.m_size T.F_size.kp T.b_size .nil (pa_cons (pv 0) pa_nil)) (pe_callX (ok_size T) (takes_of rfl rfl rfl rfl) (hr.mono (by first | decide | omega)) (by rfl) T.m_size T.F_size.kp T.b_size .nil (pa_cons (pv 1) pa_nil)) (nomark _)) (pe_callX (ok_arm_script T) (takes_of rfl rfl rfl rfl) (hr.mono (by first | decide | omega)) (by rfl) T.m_arm_script T.F_arm_script.kp T.b_arm_script .nil (pa_cons (pe_make T.k_Move (ok_Move___init__ T) (hr.mono (by first | decide | omega)) (by rfl) T.g_Move T.b_Move___init__ .nil passL (pa_cons (pv 0) (pa_cons (pv 1) pa_nil))) pa_nil)) pe_non)))), ?_⟩
  simp only [cxOf_K, tAsg2, tYes, wipe, tSeq, tIfS, tNot, tB, tCB, tCons, tNil, tVar, tC, tTest, tOp, tAnd, tOr, tAsg, gName, tRet, tRetN, tDrop, tNext, tIf, tCall, tTup, tLst, tNotV, tAndV, tOrV, tUn, rI0, rI, rU, rEq, rNe, tM1, tM0, tBM, tBM0, tSl, tPart, tNoPart, iStr, iEnumS, iRng1, iRng2, iList, gSub, tBits, tAug, tPar, L2.start, List.map_cons, List.map_nil, List.length_cons, List.length_nil, List.getElem?_cons_zero, List.getElem?_cons_succ, List.cons_append, List.nil_append, List.append_nil, List.set_cons_zero, List.set_cons_succ, List.replicate_succ, List.replicate_zero, Option.some.injEq, exists_eq_left', V.int.injEq, V.str.injEq, V.ref.injEq, V.bl.injEq, exists_and_left, exists_eq_left, List.cons.injEq, and_true, true_and, tCallX, tRs, tProp, OW.tSMeth, OW.tCallI, Nat.sub_self, List.replicate_zero, tFld, sFld, sFldAug, tDGet, tDIn, tDNotIn, sDPut, tMeth, tMake, tDNewK]
  refine ⟨A', B', rfl, a1, by omega, fun H1 s1 => ?_⟩
  refine ⟨_, rfl, .inl ⟨A', rfl, by omega, fun H2 s2 => ⟨_, rfl, .inl ⟨B', rfl, by omega, fun H3 s3 => ⟨rfl, ?_⟩⟩⟩⟩⟩
  rw [if_pos (by rw [ab]; simp)]
  have s13 := s1.trans (s2.trans s3)
  intro x dx nx ndx nex
  have s0 : Same H3 (upd (upd H3 dx (.own x)) x (.ins T.c_Move dx [])) := ((L2.Same.refl H3).new ndx _).new nx _
  refine ⟨H3, x, dx, trV A', trV B', rfl, s0, nx, upd_same, .inl ⟨A', rfl, by omega, .inl ⟨B', rfl, by omega, fun _ H4 s4 h4 => ⟨rfl, .ref x, rfl, .inl ⟨A', B', ⟨ab, x, dx, rfl, h4⟩, a1, ?_⟩⟩, fun n => absurd ab n⟩⟩⟩
  exact fun p ws H5 np s5 hp st => q p ws H5 ((s13.trans s4).free np) ((s13.trans s4).trans s5) hp st

theorem run_wide {A B C D : Tr} (e : C.size = D.size) (g : Gr A B C D) : runO ((scrV C D).map bxs) A = some B := by
  obtain ⟨xs, h1, h2, e1, e2⟩ := g.trans (Gr_scr e)
  rw [← mvF_pair]
  show (Tr.hang A _).map _ = some B
  rw [e1, Tr.hang_grow h1, e2]
  rfl
theorem ok_law (T : Txt w K mg) : FnDG P w K mg base CX0 206 100 T.a_law T.fd_law ["_law_script"] (sp_law K) := by
  refine okDG T.F_law sc_law (fun vs H Q E h => ?_) (fun cdv A outer s H vs Q E hG hr h => ?_)
  · obtain ⟨a, ns, rfl, _⟩ := h; rfl
  obtain ⟨a, ns, rfl, ha, hl, q⟩ := h
  have hru := hr.room.units
  refine ⟨_, (pss_cons (ps_for PassesOwn.never rfl (pi_range1 rfl T.z_range (pa_cons pe_int pa_nil)) (pg_name (i := 1) sc_law.nd rfl (by first | exact Or.inl rfl | exact Or.inr rfl)) (pss_cons (ps_set (i := 2) sc_law.nd rfl (by first | exact Or.inl rfl | exact Or.inr rfl) (pe_call (ok_law_purse T) (hr.room.mono (by first | decide | omega)) (by rfl) T.m_law_purse T.F_law_purse.kp T.b_law_purse .nil pass0 (pa_cons (pv 0) (pa_cons (pv 1) pa_nil))))
    (pss_cons (ps_set (i := 3) sc_law.nd rfl (by first | exact Or.inl rfl | exact Or.inr rfl) (pe_call (ok_law_draw T) (hr.room.mono (by first | decide | omega)) (by rfl) T.m_law_draw T.F_law_draw.kp T.b_law_draw .nil pass0 (pa_cons (pv 2) (pa_cons (pe_ix ix_list (pe_lst (pa_cons pe_int (pa_cons pe_int pa_nil))) (pe_call (ok_law_draw T) (hr.room.mono (by first | decide | omega)) (by rfl) T.m_law_draw T.F_law_draw.kp T.b_law_draw .nil pass0 (pa_cons (pv 2) (pa_cons pe_int pa_nil))) (fun _ _ => rfl)) pa_nil))))
    (pss_cons (ps_set (i := 4) sc_law.nd rfl (by first | exact Or.inl rfl | exact Or.inr rfl) (pe_callD (ok_law_nest T 70) (hr.mono (by first | decide | omega) (by first | decide | omega)) (by rfl) T.m_law_nest T.F_law_nest.kp T.b_law_nest .nil pass0 (pa_cons (pv 2) (pa_cons (pv 3) pa_nil))))
    (pss_cons (ps_set (i := 5) sc_law.nd rfl (by first | exact Or.inl rfl | exact Or.inr rfl) (pv 4))
    (pss_cons (ps_for PassesOwn.never rfl (pi_range1 rfl T.z_range (pa_cons (pe_call (ok_law_draw T) (hr.room.mono (by first | decide | omega)) (by rfl) T.m_law_draw T.F_law_draw.kp T.b_law_draw .nil pass0 (pa_cons (pv 2) (pa_cons pe_int pa_nil))) pa_nil)) (pg_name (i := 6) sc_law.nd rfl (by first | exact Or.inl rfl | exact Or.inr rfl)) (pss_cons (ps_set (i := 7) sc_law.nd rfl (by first | exact Or.inl rfl | exact Or.inr rfl) (pe_op op_cat (pe_callD (ok_law_spins T 70) (hr.mono (by first | decide | omega) (by first | decide | omega)) (by rfl) T.m_law_spins T.F_law_spins.kp T.b_law_spins .nil pass0 (pa_cons (pv 5) (pa_cons pe_str pa_nil))) (pe_lst (pa_cons (pe_tup (pa_cons pe_non (pa_cons (pv 5) pa_nil))) pa_nil))))
    (pss_one (ps_set (i := 5) sc_law.nd rfl (by first | exact Or.inl rfl | exact Or.inr rfl) (pe_ix ix_tup (pe_ix ix_list (pv 7) (pe_call (ok_law_draw T) (hr.room.mono (by first | decide | omega)) (by rfl) T.m_law_draw T.F_law_draw.kp T.b_law_draw .nil pass0 (pa_cons (pv 2) (pa_cons (pe_callB call_len_seq (by rfl) T.z_len PySem.boot_len (pa_cons (pv 7) pa_nil)) pa_nil))) (fun _ _ => rfl)) pe_int (fun _ _ => rfl))))))
    (pss_one (ps_for PassesOwn.never rfl (pi_list (pe_lst (pa_cons (pv 5) (pa_cons (pv 4) (pa_cons (pe_callD (ok_law_nest T 70) (hr.mono (by first | decide | omega) (by first | decide | omega)) (by rfl) T.m_law_nest T.F_law_nest.kp T.b_law_nest .nil pass0 (pa_cons (pv 2) (pa_cons (pv 3) pa_nil))) pa_nil))))) (pg_name (i := 8) sc_law.nd rfl (by first | exact Or.inl rfl | exact Or.inr rfl)) (pss_cons (ps_set (i := 9) sc_law.nd rfl (by first | exact Or.inl rfl | exact Or.inr rfl) (pe_call (ok_arm_way T) (hr.room.mono (by first | decide | omega)) (by rfl) T.m_arm_way T.F_arm_way.kp T.b_arm_way .nil passL (pa_cons (pe_callD (ok_law_text T 70) (hr.mono (by first | decide | omega) (by first | decide | omega)) (by rfl) T.m_law_text T.F_law_text.kp T.b_law_text .nil pass0 (pa_cons (pv 4) pa_nil)) (pa_cons (pe_callD (ok_law_text T 70) (hr.mono (by first | decide | omega) (by first | decide | omega)) (by rfl) T.m_law_text T.F_law_text.kp T.b_law_text .nil pass0 (pa_cons (pv 8) pa_nil)) pa_nil))))
    (pss_one (ps_if (pw_or (pt_not (pt_val (pe_callB call_isi (by rfl) T.z_isinstance (by decide +kernel) (pa_cons (pv 9) (pa_cons (pe_bltn (v := .ty "list") (by rfl) T.z_list (by decide +kernel) rfl) pa_nil))))) (pw_or (pt_cmpR op_ne (pe_callB call_len_seq (by rfl) T.z_len PySem.boot_len (pa_cons (pv 9) pa_nil)) (pe_callD (ok_law_least T) (hr.mono (by first | decide | omega) (by first | decide | omega)) (by rfl) T.m_law_least T.F_law_least.kp T.b_law_least .nil pass0 (pa_cons (pv 4) (pa_cons (pv 8) pa_nil))) (nomark _)) (pw_or1 (pt_cmpR (op_neD hru) (pe_callD (ok_law_led T) (hr.mono (by first | decide | omega) (by first | decide | omega)) (by rfl) T.m_law_led T.F_law_led.kp T.b_law_led .nil pass0 (pa_cons (pv 4) (pa_cons (pv 9) pa_nil))) (pv 8) (nomark _))))).pt (pss_one (ps_ret pe_bl)) pss_nil)))))))))))
    (pss_one (ps_ret pe_bl))), ?_⟩
  simp only [cxOf_K, tAsg2, tYes, wipe, tSeq, tIfS, tNot, tB, tCB, tCons, tNil, tVar, tC, tTest, tOp, tAnd, tOr, tAsg, gName, tRet, tRetN, tDrop, tNext, tIf, tCall, tTup, tLst, tNotV, tAndV, tOrV, tUn, rI0, rI, rU, rEq, rNe, tM1, tM0, tBM, tBM0, tSl, tPart, tNoPart, iStr, iEnumS, iRng1, iRng2, iList, gSub, tBits, tAug, tPar, L2.start, List.map_cons, List.map_nil, List.length_cons, List.length_nil, List.getElem?_cons_zero, List.getElem?_cons_succ, List.cons_append, List.nil_append, List.append_nil, List.set_cons_zero, List.set_cons_succ, List.replicate_succ, List.replicate_zero, Option.some.injEq, exists_eq_left', V.int.injEq, V.str.injEq, V.ref.injEq, V.bl.injEq, exists_and_left, exists_eq_left, List.cons.injEq, and_true, true_and, tCallX, tRs, tProp, OW.tSMeth, OW.tCallI, Nat.sub_self, List.replicate_zero, tFld, sFld, sFldAug, tDGet, tDIn, tDNotIn, sDPut, tMeth, tMake, tDNewK]
  refine ⟨_, rfl, by decide, by decide, for_range (fun i σ H' => ∃ τ : List (Option V), σ = some (.ref a) :: τ ∧ τ.length = 9 ∧ Same H H') ⟨_, rfl, rfl, L2.Same.refl H⟩ ?_ ?_⟩
  · rintro i σ H1 hi ⟨τ, rfl, tl, s1⟩
    have hi4 : i < 3 := hi
    match τ, tl with
    | [a1, a2, a3, a4, a5, a6, a7, a8, a9], _ =>
    simp only [cxOf_K, tAsg2, tYes, wipe, tSeq, tIfS, tNot, tB, tCB, tCons, tNil, tVar, tC, tTest, tOp, tAnd, tOr, tAsg, gName, tRet, tRetN, tDrop, tNext, tIf, tCall, tTup, tLst, tNotV, tAndV, tOrV, tUn, rI0, rI, rU, rEq, rNe, tM1, tM0, tBM, tBM0, tSl, tPart, tNoPart, iStr, iEnumS, iRng1, iRng2, iList, gSub, tBits, tAug, tPar, L2.start, List.map_cons, List.map_nil, List.length_cons, List.length_nil, List.getElem?_cons_zero, List.getElem?_cons_succ, List.cons_append, List.nil_append, List.append_nil, List.set_cons_zero, List.set_cons_succ, List.replicate_succ, List.replicate_zero, Option.some.injEq, exists_eq_left', V.int.injEq, V.str.injEq, V.ref.injEq, V.bl.injEq, exists_and_left, exists_eq_left, List.cons.injEq, and_true, true_and, tCallX, tRs, tProp, OW.tSMeth, OW.tCallI, Nat.sub_self, List.replicate_zero, tFld, sFld, sFldAug, tDGet, tDIn, tDNotIn, sDPut, tMeth, tMake, tDNewK]
    rw [show (0 : Int) + (i : Int) = ((i : Nat) : Int) by omega]
    refine ⟨a, ns, i, rfl, s1.seq ha, hl, by omega, fun g H2 hg s2 g2 => ?_⟩
    have s2' := s1.trans s2
    have hg0 : H g = none := s1.free hg
    refine ⟨(by decide : (2 : Nat) ≤ sizeLine), fun pc npc => ?_⟩
    have s3 := (L2.Same.refl H2).new npc (.lst [V.int 13, .int 61])
    have h3 : upd H2 pc (.lst [V.int 13, .int 61]) pc = some _ := upd_same
    have g3 := g2.same s3
    have pcg : pc ≠ g := by obtain ⟨gw, hgw⟩ := g2.lst; exact (ne_of_none hgw npc).symm
    have s3' := s2'.trans s3
    generalize upd H2 pc (.lst [V.int 13, .int 61]) = H3 at h3 g3 s3' ⊢
    refine ⟨g, 2, _, rfl, g3, by omega, by decide, by decide, fun r H4 r0 r1 k4 g4 => ?_⟩
    have h4 := k4 _ _ pcg h3
    obtain ⟨mo, hmo, hmo2⟩ : ∃ mo : Nat, atI [V.int 13, .int 61] r = some (.int (mo : Nat)) ∧ (mo = 13 ∨ mo = 61) := by
      have : r = 0 ∨ r = 1 := by omega
      rcases this with rfl | rfl
      · exact ⟨13, rfl, .inl rfl⟩
      · exact ⟨61, rfl, .inr rfl⟩
    refine ⟨pc, _, r, _, rfl, rfl, SqL.of h4, hmo, ?_⟩
    have sH4 := (off_in s3' hg0).trans (off_to k4)
    refine ⟨g, mo, _, rfl, g4, by omega, by omega, by omega, fun c H5 c0 c1 k5 g5 => ?_⟩
    obtain ⟨c, rfl⟩ := Int.eq_ofNat_of_zero_le c0
    refine ⟨g, c, _, rfl, by omega, by omega, g5, by omega, fun t1 v1 H6 z1 k6 g6 p1 => ?_⟩
    simp only [cxOf_K, tAsg2, tYes, wipe, tSeq, tIfS, tNot, tB, tCB, tCons, tNil, tVar, tC, tTest, tOp, tAnd, tOr, tAsg, gName, tRet, tRetN, tDrop, tNext, tIf, tCall, tTup, tLst, tNotV, tAndV, tOrV, tUn, rI0, rI, rU, rEq, rNe, tM1, tM0, tBM, tBM0, tSl, tPart, tNoPart, iStr, iEnumS, iRng1, iRng2, iList, gSub, tBits, tAug, tPar, L2.start, List.map_cons, List.map_nil, List.length_cons, List.length_nil, List.getElem?_cons_zero, List.getElem?_cons_succ, List.cons_append, List.nil_append, List.append_nil, List.set_cons_zero, List.set_cons_succ, List.replicate_succ, List.replicate_zero, Option.some.injEq, exists_eq_left', V.int.injEq, V.str.injEq, V.ref.injEq, V.bl.injEq, exists_and_left, exists_eq_left, List.cons.injEq, and_true, true_and, tCallX, tRs, tProp, OW.tSMeth, OW.tCallI, Nat.sub_self, List.replicate_zero, tFld, sFld, sFldAug, tDGet, tDIn, tDNotIn, sDPut, tMeth, tMake, tDNewK]
    refine ⟨_, rfl, g, 4, _, rfl, g6, by omega, by decide, by decide, fun m H7 m0 m1 k7 g7 => ?_⟩
    obtain ⟨m, rfl⟩ := Int.eq_ofNat_of_zero_le m0
    obtain ⟨gw7, hgw7⟩ := g6.lst
    have p1 := p1.keep k7 hgw7
    have k7 := k4.trans (k5.trans (k6.trans k7))
    have sH7 := (off_in s3' hg0).trans (off_to k7)
    clear k4 k5 k6 g2 g3 g4 g5 g6 hgw7
    have g7 : PurseAt H7 g (5000 + 10 * 0) := g7.mono (by omega)
    have hc1 := hgt_le t1
    refine ⟨_, rfl, by omega, by omega, for_range (fun j σ H' => ∃ (vn : V) (tn : Tr) (b6 b7 : Option V), σ = [some (.ref a), some (.int i), some (.ref g), some (.int c), some v1, some vn, b6, b7, a8, a9] ∧ Keep g H7 H' ∧ PurseAt H' g (5000 + 10 * j) ∧ PT H' vn tn ∧ tn.size = c)
      ⟨v1, t1, _, _, rfl, fun b o _ h => h, g7, p1, z1⟩ ?_ ?_⟩
    · rintro j σ K0 hj ⟨vn, tn, b6, b7, rfl, kA, gA, pn, zn⟩
      have hcn := hgt_le tn
      simp only [cxOf_K, tAsg2, tYes, wipe, tSeq, tIfS, tNot, tB, tCB, tCons, tNil, tVar, tC, tTest, tOp, tAnd, tOr, tAsg, gName, tRet, tRetN, tDrop, tNext, tIf, tCall, tTup, tLst, tNotV, tAndV, tOrV, tUn, rI0, rI, rU, rEq, rNe, tM1, tM0, tBM, tBM0, tSl, tPart, tNoPart, iStr, iEnumS, iRng1, iRng2, iList, gSub, tBits, tAug, tPar, L2.start, List.map_cons, List.map_nil, List.length_cons, List.length_nil, List.getElem?_cons_zero, List.getElem?_cons_succ, List.cons_append, List.nil_append, List.append_nil, List.set_cons_zero, List.set_cons_succ, List.replicate_succ, List.replicate_zero, Option.some.injEq, exists_eq_left', V.int.injEq, V.str.injEq, V.ref.injEq, V.bl.injEq, exists_and_left, exists_eq_left, List.cons.injEq, and_true, true_and, tCallX, tRs, tProp, OW.tSMeth, OW.tCallI, Nat.sub_self, List.replicate_zero, tFld, sFld, sFldAug, tDGet, tDIn, tDNotIn, sDPut, tMeth, tMake, tDNewK]
      refine ⟨vn, [], tn, by rw [show Str.ofString "" = S [] by decide +kernel], pn, by omega, by omega, by omega, by rw [List.length_nil]; omega, fun p1 ws1 K1 n1 s1 h1 l1 sp1 => ?_⟩
      refine ⟨by decide, fun q1 nq1 => ?_⟩
      have t1' := (L2.Same.refl K1).new nq1 (.tup [V.non, vn])
      have e1 : upd K1 q1 (.tup [V.non, vn]) q1 = some _ := upd_same
      generalize upd K1 q1 (.tup [V.non, vn]) = J1 at t1' e1 ⊢
      refine ⟨by decide, fun l2 nl2 => ?_⟩
      have t2' := (L2.Same.refl J1).new nl2 (.lst [V.ref q1])
      have e2 : upd J1 l2 (.lst [V.ref q1]) l2 = some _ := upd_same
      generalize upd J1 l2 (.lst [V.ref q1]) = J2 at t2' e2 ⊢
      have kk := s1.trans (t1'.trans t2')
      have al : (ws1 ++ [V.ref q1]).length = ws1.length + 1 := by rw [List.length_append]; rfl
      refine ⟨p1, l2, ws1, _, rfl, rfl, t2' _ _ (t1' _ _ h1), e2, small5 (by simp only [List.length_singleton]; omega), fun pl npl => ?_⟩
      have t3' := (L2.Same.refl J2).new npl (.lst (ws1 ++ [V.ref q1]))
      have e3 : upd J2 pl (.lst (ws1 ++ [V.ref q1])) pl = some _ := upd_same
      have plg : pl ≠ g := by obtain ⟨gw, hgw⟩ := (gA.same kk).lst; exact (ne_of_none hgw npl).symm
      generalize upd J2 pl (.lst (ws1 ++ [V.ref q1])) = J3 at t3' e3 ⊢
      have k3 := kk.trans t3'
      have sp2 : SpinsL J3 (ws1 ++ [V.ref q1]) c := fun v hv => by
        rcases List.mem_append.mp hv with h | h
        · obtain ⟨p, x, u, t', ev, hp, pu, zt⟩ := sp1 v h
          have z := t1'.trans (t2'.trans t3')
          exact ⟨p, x, u, t', ev, z _ _ hp, pu.same z, by omega⟩
        · rw [List.mem_singleton.mp h]
          exact ⟨q1, _, vn, tn, rfl, t3' _ _ (t2' _ _ e1), pn.same k3, zn⟩
      have g3 := gA.same k3
      obtain ⟨gw3, hgw3⟩ := g3.lst
      generalize ws1 ++ [V.ref q1] = ws2 at al e3 sp2 ⊢
      refine ⟨pl, rfl, _, .inl (SqL.of e3), ?_⟩
      refine ⟨g, _, _, rfl, g3, by omega, by omega, by omega, fun r J4 r0 r1 k4 g4 => ?_⟩
      obtain ⟨r, rfl⟩ := Int.eq_ofNat_of_zero_le r0
      have h4 := k4 _ _ plg e3
      have rl : r < ws2.length := by omega
      obtain ⟨p, x, u, t', ev, hp, pu, zt⟩ := sp2 _ (List.getElem_mem rl)
      have gv : atI ws2 (r : Int) = some (.ref p) := atI_nat (by rw [List.getElem?_eq_getElem rl, ev])
      have pg : p ≠ g := ne_of hp hgw3 fun z => by cases z
      refine ⟨pl, _, _, _, rfl, rfl, SqL.of h4, gv, p, _, 1, u, rfl, rfl, SqT.of (k4 _ _ pg hp), rfl, ?_⟩
      exact ⟨u, t', _, _, ⟨rfl, rfl, rfl⟩, kA.trans ((Keep.of k3).trans k4), g4.mono (by omega), pu.keep k4 hgw3, zt⟩
    · rintro σ K0 ⟨vn, tn, b6, b7, rfl, kA, gA, pn, zn⟩
      simp only [cxOf_K, tAsg2, tYes, wipe, tSeq, tIfS, tNot, tB, tCB, tCons, tNil, tVar, tC, tTest, tOp, tAnd, tOr, tAsg, gName, tRet, tRetN, tDrop, tNext, tIf, tCall, tTup, tLst, tNotV, tAndV, tOrV, tUn, rI0, rI, rU, rEq, rNe, tM1, tM0, tBM, tBM0, tSl, tPart, tNoPart, iStr, iEnumS, iRng1, iRng2, iList, gSub, tBits, tAug, tPar, L2.start, List.map_cons, List.map_nil, List.length_cons, List.length_nil, List.getElem?_cons_zero, List.getElem?_cons_succ, List.cons_append, List.nil_append, List.append_nil, List.set_cons_zero, List.set_cons_succ, List.replicate_succ, List.replicate_zero, Option.some.injEq, exists_eq_left', V.int.injEq, V.str.injEq, V.ref.injEq, V.bl.injEq, exists_and_left, exists_eq_left, List.cons.injEq, and_true, true_and, tCallX, tRs, tProp, OW.tSMeth, OW.tCallI, Nat.sub_self, List.replicate_zero, tFld, sFld, sFldAug, tDGet, tDIn, tDNotIn, sDPut, tMeth, tMake, tDNewK]
      obtain ⟨gwA, hgwA⟩ := gA.lst
      obtain ⟨gw7, hgw7⟩ := g7.lst
      refine ⟨_, rfl, _, rfl, _, rfl, _, rfl, g, c, _, rfl, by omega, by omega, gA, by omega, fun t3 v3 K1 z3 k1 gB p3 => ?_⟩
      have p1' := (p1.keep kA hgw7).keep k1 hgwA
      have pn' := pn.keep k1 hgwA
      have sK1 := (off_in s3' hg0).trans (off_to (k7.trans (kA.trans k1)))
      refine ⟨(by decide : (3 : Nat) ≤ sizeLine), fun lb nlb => ?_⟩
      have s2 := (L2.Same.refl K1).new nlb (.lst [vn, v1, v3])
      have e2 : upd K1 lb (.lst [vn, v1, v3]) lb = some _ := upd_same
      generalize upd K1 lb (.lst [vn, v1, v3]) = K2 at s2 e2 ⊢
      have al : ∀ x ∈ [vn, v1, v3], ∃ tx, PT K2 x tx ∧ tx.size = c := by
        intro x hx
        simp only [List.mem_cons, List.not_mem_nil, or_false] at hx
        rcases hx with rfl | rfl | rfl
        · exact ⟨tn, pn'.same s2, zn⟩
        · exact ⟨t1, p1'.same s2, z1⟩
        · exact ⟨t3, p3.same s2, z3⟩
      have p1'' := p1'.same s2
      generalize [vn, v1, v3] = vs at e2 al ⊢
      refine ⟨lb, rfl, ⟨_, SqL.of e2⟩, for_list (K := K) (a := lb) (xs := vs) (fun k σ H' => ∃ b8 b9, σ = [some (.ref a), some (.int i), some (.ref g), some (.int c), some v1, some vn, b6, b7, b8, b9] ∧ Same K2 H') ⟨_, _, rfl, .refl K2⟩ (fun k σ H' _ ⟨_, _, _, k⟩ => SqL.of (k _ _ e2)) ?_ ?_⟩
      · rintro k x σ K3 hk ⟨b8, b9, rfl, s3⟩
        obtain ⟨tx, px, zx⟩ := al x (List.mem_of_getElem? hk)
        simp only [cxOf_K, tAsg2, tYes, wipe, tSeq, tIfS, tNot, tB, tCB, tCons, tNil, tVar, tC, tTest, tOp, tAnd, tOr, tAsg, gName, tRet, tRetN, tDrop, tNext, tIf, tCall, tTup, tLst, tNotV, tAndV, tOrV, tUn, rI0, rI, rU, rEq, rNe, tM1, tM0, tBM, tBM0, tSl, tPart, tNoPart, iStr, iEnumS, iRng1, iRng2, iList, gSub, tBits, tAug, tPar, L2.start, List.map_cons, List.map_nil, List.length_cons, List.length_nil, List.getElem?_cons_zero, List.getElem?_cons_succ, List.cons_append, List.nil_append, List.append_nil, List.set_cons_zero, List.set_cons_succ, List.replicate_succ, List.replicate_zero, Option.some.injEq, exists_eq_left', V.int.injEq, V.str.injEq, V.ref.injEq, V.bl.injEq, exists_and_left, exists_eq_left, List.cons.injEq, and_true, true_and, tCallX, tRs, tProp, OW.tSMeth, OW.tCallI, Nat.sub_self, List.replicate_zero, tFld, sFld, sFldAug, tDGet, tDIn, tDNotIn, sDPut, tMeth, tMake, tDNewK]
        have q1 := p1''.same s3
        have q2 := px.same s3
        have hcx := hgt_le tx
        refine ⟨v1, t1, rfl, q1, by omega, by omega, fun K4 s4 => ?_⟩
        refine ⟨x, tx, rfl, q2.same s4, by omega, by omega, fun K5 s5 => ?_⟩
        refine ⟨t1, tx, rfl, by omega, by omega, fun pt wt K6 nt s6 ht st => ?_⟩
        have s6 := s4.trans (s5.trans s6)
        have zz : t1.size = tx.size := by omega
        have gr := wdT_Gr (by rw [Tr.lvs_size, Tr.lvs_size, zz] : t1.lvs = tx.lvs)
        have gz := gr.size
        have gz2 := gr.swap.size
        have ge : (wdT t1 tx).1.size = (wdT t1 tx).2.size := by
          obtain ⟨_, _, h, _⟩ := gr
          rw [Tr.lvs_size, Tr.lvs_size] at h
          omega
        have el : wt.length = (wdT t1 tx).1.off + (wdT t1 tx).2.off := by rw [st.length, scrV_length]
        refine ⟨_, _, _, _, true, rfl, .ty _, .base (.lst ht), kit_ty (by decide +kernel), true, rfl, ?_⟩
        rw [if_neg (by decide)]
        refine ⟨pt, rfl, wt, .inl (SqL.of ht), ?_⟩
        refine ⟨v1, x, t1, tx, rfl, q1.same s6, q2.same s6, zz, by omega, fun K7 s7 => ⟨rfl, ?_⟩⟩
        rw [el, if_neg (by simp)]
        have s7' := s6.trans s7
        refine ⟨v1, pt, t1, tx, wt, _, rfl, q1.same s7', by omega, s7 _ _ ht, st.mono fun b vs e => s7 _ _ e, fun y hy => ?_, run_wide ge gr, fun u K8 s8 pu => ?_⟩
        · obtain ⟨h1, j, h2, h3⟩ := scrV_ok _ _ y hy
          rw [Tr.lvs_size, Tr.lvs_size] at h2
          exact ⟨h1, j, by omega, h3⟩
        · refine neTD pu (q2.same (s7'.trans s8)) (by omega) (by omega) ⟨_, rfl, ?_⟩
          rw [if_neg (by simp)]
          exact ⟨_, _, ⟨rfl, rfl⟩, s3.trans (s7'.trans s8)⟩
      · rintro σ K3 ⟨b8, b9, rfl, s3⟩
        simp only [cxOf_K, tAsg2, tYes, wipe, tSeq, tIfS, tNot, tB, tCB, tCons, tNil, tVar, tC, tTest, tOp, tAnd, tOr, tAsg, gName, tRet, tRetN, tDrop, tNext, tIf, tCall, tTup, tLst, tNotV, tAndV, tOrV, tUn, rI0, rI, rU, rEq, rNe, tM1, tM0, tBM, tBM0, tSl, tPart, tNoPart, iStr, iEnumS, iRng1, iRng2, iList, gSub, tBits, tAug, tPar, L2.start, List.map_cons, List.map_nil, List.length_cons, List.length_nil, List.getElem?_cons_zero, List.getElem?_cons_succ, List.cons_append, List.nil_append, List.append_nil, List.set_cons_zero, List.set_cons_succ, List.replicate_succ, List.replicate_zero, Option.some.injEq, exists_eq_left', V.int.injEq, V.str.injEq, V.ref.injEq, V.bl.injEq, exists_and_left, exists_eq_left, List.cons.injEq, and_true, true_and, tCallX, tRs, tProp, OW.tSMeth, OW.tCallI, Nat.sub_self, List.replicate_zero, tFld, sFld, sFldAug, tDGet, tDIn, tDNotIn, sDPut, tMeth, tMake, tDNewK]
        exact sK1.trans (s2.trans s3)
  · rintro σ H1 ⟨τ, rfl, tl, s1⟩
    match τ, tl with
    | [a1, a2, a3, a4, a5, a6, a7, a8, a9], _ =>
    simp only [cxOf_K, tAsg2, tYes, wipe, tSeq, tIfS, tNot, tB, tCB, tCons, tNil, tVar, tC, tTest, tOp, tAnd, tOr, tAsg, gName, tRet, tRetN, tDrop, tNext, tIf, tCall, tTup, tLst, tNotV, tAndV, tOrV, tUn, rI0, rI, rU, rEq, rNe, tM1, tM0, tBM, tBM0, tSl, tPart, tNoPart, iStr, iEnumS, iRng1, iRng2, iList, gSub, tBits, tAug, tPar, L2.start, List.map_cons, List.map_nil, List.length_cons, List.length_nil, List.getElem?_cons_zero, List.getElem?_cons_succ, List.cons_append, List.nil_append, List.append_nil, List.set_cons_zero, List.set_cons_succ, List.replicate_succ, List.replicate_zero, Option.some.injEq, exists_eq_left', V.int.injEq, V.str.injEq, V.ref.injEq, V.bl.injEq, exists_and_left, exists_eq_left, List.cons.injEq, and_true, true_and, tCallX, tRs, tProp, OW.tSMeth, OW.tCallI, Nat.sub_self, List.replicate_zero, tFld, sFld, sFldAug, tDGet, tDIn, tDNotIn, sDPut, tMeth, tMake, tDNewK]
    exact q _

/-! ### what the classes must say -/
section
variable {K : PySem.W.Frag} {mg : Str → Option Value} {h : Heap} {C : Addr} {bm : List Value} {nm q : Str} {N : Addr} {bs : List Value} {sn : List Str} {sub : List Value} {ab : Bool} {col : Option Bool} {dd : Option Addr} {k0 k1 k2 k3 k5 : Option Value}
theorem cls_mk (l : K.lookup C = some (excClassObj nm q C N bs bm true sn sub ab col dd k0 k1 k2 k3 k5 "ValueError.__new__")) (r : PySem.HandSPX.refsVE bm = true) (ga : PySem.W.findIn K (.ref C) "__getattribute__" = some (some (.builtin "BaseException.__getattribute__"))) (gg : PySem.W.findIn K (.ref C) "__getattr__" = some none)
    (ha : PySem.W.findIn K (.ref C) "__class__" = some (some (.builtin "object.__class__"))) (hn : PySem.W.specialIn K (.builtin "object.__class__") "__get__" = some (some (.builtin "getset_descriptor.__get__"))) (ht : PySem.W.takesIn K (.builtin "object.__class__") = some true) :
    ErrC K C (.ref C :: bm) ∧ XfC K C := by
  have c : PySem.W.clsIn K C = some { name := nm, bases := bs, mro := .ref C :: bm, ns := N, qualname := q, hasDict := true, slotNames := sn, subclasses := sub, abstract := ab, collection := col, hasDel := false } := by unfold PySem.W.clsIn; rw [l] <;> rfl
  have sub : ∀ Y : String, PySem.HandSPX.veTail.contains (.type Y) = true → PySem.W.mroIn K C (.type Y) = some true := fun Y z => by
    unfold PySem.W.mroIn
    rw [c, Option.bind_some, List.contains_cons, PySem.HandSPX.refsVE_contains Y bm r, z, Bool.or_true]
    rfl
  have hd : PySem.W.hasDictIn K C = true := by unfold PySem.W.hasDictIn; rw [c]; rfl
  have sb : PySem.W.subIn K (.ref C) (.type "BaseException") = some true := sub "BaseException" (by decide +kernel)
  have ty : PySem.W.typeIn K (.ref C) = some (.type "type") := by show (K.lookup C).map (·.cls) = _; rw [l] <;> rfl
  exact ⟨⟨by rw [c]; rfl, ty, ⟨ga, gg, sb, hd, ha, hn, ht, sub "object" (by decide +kernel)⟩⟩, ⟨ga, gg, sb, hd⟩⟩
theorem oex_mk (l : K.lookup C = some (excClassObj nm q C N bs bm true sn sub ab col dd k0 k1 k2 k3 k5 "ValueError.__new__")) (r : PySem.HandSPX.refsVE bm = true) (sa : PySem.W.findIn K (.ref C) "__setattr__" = some (some (.builtin "object.__setattr__"))) (kC : PySem.W.keepIn K (.ref C) = true)
    (e : ErrC K C (.ref C :: bm)) : OexC K C := ⟨⟨_, _, _, _, _, _, _, _, _, _, _, _, _, _, _, l, r⟩, sa, e.ec.hs, e.ty, kC⟩
variable {st : Stmt} {fI TT0 : Addr} {od td : Option Addr} {kV doc pm cdv ct tc : Value} {an : Option Addr} {osl ts : Array (Option Value)} {n : Nat} {qual : Str}
theorem fund_mk (l : K.lookup fI = some ⟨.type "function", od, .func (PySem.W.fnOf "__init__" qual (defArgs st) (defBody st) (defScope st) (.ref TT0) kV doc pm an cdv ct), osl⟩) (c : PySem.W.codeIn K cdv qual = true) (lT : K.lookup TT0 = some ⟨tc, td, .seq #[.none] n, ts⟩) :
    FunD K "__init__" qual (defArgs st) (defBody st) (defScope st) [.non] [] fI (PySem.W.fnOf "__init__" qual (defArgs st) (defBody st) (defScope st) (.ref TT0) kV doc pm an cdv ct) :=
  ⟨⟨_, od, _, kV, doc, pm, an, cdv, ct, osl, rfl, l, c, .inr ⟨by simp, TT0, _, [.none], n, rfl, lT, rfl, .cons rfl .nil⟩, .inl rfl⟩, by unfold PySem.W.keepIn; dsimp only; rw [l] <;> rfl⟩
theorem fty (l : K.lookup fI = some ⟨.type "function", od, .func (PySem.W.fnOf "__init__" qual (defArgs st) (defBody st) (defScope st) (.ref TT0) kV doc pm an cdv ct), osl⟩) : PySem.W.typeIn K (.ref fI) = some (.type "function") := by
  show (K.lookup fI).map (·.cls) = _
  rw [l] <;> rfl
end

theorem own_InvalidTree {h : Heap} {C fI : Addr} {fd : FuncData} (X : K.In h) (G : h.Ns mainGlobals mg) (m : PySem.W.nsIn K mainGlobals "InvalidTree" = some (some (.ref C))) (ox : OexC K C) (no : PySem.W.findIn K (.ref C) "value" = some none)
    (iC : PySem.W.findIn K (.ref C) "__init__" = some (some (.ref fI))) (tI : PySem.W.typeIn K (.ref fI) = some (.type "function")) (F : FunD K "__init__" "InvalidTree.__init__" (defArgs i_InvalidTree) (defBody i_InvalidTree) (defScope i_InvalidTree) [.non] [] fI fd) : OwnE K mg "InvalidTree" C "value" "value" := by
  refine ⟨PySem.W.mg_of X G m, ox, fI, fd, iC, tI, F.binds1 1 0 (by simp) rfl (fun _ _ _ _ _ _ _ us its h1 h2 => match us, its, h1, h2 with | [_], [_], _, _ => ⟨_, rfl, rfl⟩), ?_, kbinds1 F (by simp) (fun _ _ _ _ _ _ _ us its ws h1 h2 h3 => match us, its, ws, h1, h2, h3 with | [_], [_], [_], _, _, _ => ⟨_, rfl, rfl⟩), fun P w base => ?_⟩
  · obtain ⟨ds, hd, b⟩ := F.binds1 (ps := ["self", "value"]) 2 1 (by simp) rfl (fun _ _ _ _ _ _ _ us its h1 h2 => match us, its, h1, h2 with | [_, _], [_], _, _ => ⟨_, rfl, rfl⟩)
    cases hd
    exact b
  · refine FunD.ok F si_InvalidTree (fun vs H Q E h => ?_) (fun cdv A outer s H vs Q E hr h => ?_)
    · obtain ⟨a, y, rfl, _⟩ := h; rfl
    obtain ⟨a, y, rfl, ha, q⟩ := h
    refine ⟨_, pss_one (ps_ost (pv 0) (pv 1)), ?_⟩
    simp only [tOst, cxOf_K, tAsg2, tYes, wipe, tSeq, tIfS, tNot, tB, tCB, tCons, tNil, tVar, tC, tTest, tOp, tAnd, tOr, tAsg, gName, tRet, tRetN, tDrop, tNext, tIf, tCall, tTup, tLst, tNotV, tAndV, tOrV, tUn, rI0, rI, rU, rEq, rNe, tM1, tM0, tBM, tBM0, tSl, tPart, tNoPart, iStr, iEnumS, iRng1, iRng2, iList, gSub, tBits, tAug, tPar, L2.start, List.map_cons, List.map_nil, List.length_cons, List.length_nil, List.getElem?_cons_zero, List.getElem?_cons_succ, List.cons_append, List.nil_append, List.append_nil, List.set_cons_zero, List.set_cons_succ, List.replicate_succ, List.replicate_zero, Option.some.injEq, exists_eq_left', V.int.injEq, V.str.injEq, V.ref.injEq, V.bl.injEq, exists_and_left, exists_eq_left, List.cons.injEq, and_true, true_and]
    exact ⟨C, ox, no, .inl ⟨ha, q⟩⟩

theorem own_InvalidList {h : Heap} {C fI : Addr} {fd : FuncData} (X : K.In h) (G : h.Ns mainGlobals mg) (m : PySem.W.nsIn K mainGlobals "InvalidList" = some (some (.ref C))) (ox : OexC K C) (no : PySem.W.findIn K (.ref C) "value" = some none)
    (iC : PySem.W.findIn K (.ref C) "__init__" = some (some (.ref fI))) (tI : PySem.W.typeIn K (.ref fI) = some (.type "function")) (F : FunD K "__init__" "InvalidList.__init__" (defArgs i_InvalidList) (defBody i_InvalidList) (defScope i_InvalidList) [.non] [] fI fd) : OwnE K mg "InvalidList" C "value" "value" := by
  refine ⟨PySem.W.mg_of X G m, ox, fI, fd, iC, tI, F.binds1 1 0 (by simp) rfl (fun _ _ _ _ _ _ _ us its h1 h2 => match us, its, h1, h2 with | [_], [_], _, _ => ⟨_, rfl, rfl⟩), ?_, kbinds1 F (by simp) (fun _ _ _ _ _ _ _ us its ws h1 h2 h3 => match us, its, ws, h1, h2, h3 with | [_], [_], [_], _, _, _ => ⟨_, rfl, rfl⟩), fun P w base => ?_⟩
  · obtain ⟨ds, hd, b⟩ := F.binds1 (ps := ["self", "value"]) 2 1 (by simp) rfl (fun _ _ _ _ _ _ _ us its h1 h2 => match us, its, h1, h2 with | [_, _], [_], _, _ => ⟨_, rfl, rfl⟩)
    cases hd
    exact b
  · refine FunD.ok F si_InvalidList (fun vs H Q E h => ?_) (fun cdv A outer s H vs Q E hr h => ?_)
    · obtain ⟨a, y, rfl, _⟩ := h; rfl
    obtain ⟨a, y, rfl, ha, q⟩ := h
    refine ⟨_, pss_one (ps_ost (pv 0) (pv 1)), ?_⟩
    simp only [tOst, cxOf_K, tAsg2, tYes, wipe, tSeq, tIfS, tNot, tB, tCB, tCons, tNil, tVar, tC, tTest, tOp, tAnd, tOr, tAsg, gName, tRet, tRetN, tDrop, tNext, tIf, tCall, tTup, tLst, tNotV, tAndV, tOrV, tUn, rI0, rI, rU, rEq, rNe, tM1, tM0, tBM, tBM0, tSl, tPart, tNoPart, iStr, iEnumS, iRng1, iRng2, iList, gSub, tBits, tAug, tPar, L2.start, List.map_cons, List.map_nil, List.length_cons, List.length_nil, List.getElem?_cons_zero, List.getElem?_cons_succ, List.cons_append, List.nil_append, List.append_nil, List.set_cons_zero, List.set_cons_succ, List.replicate_succ, List.replicate_zero, Option.some.injEq, exists_eq_left', V.int.injEq, V.str.injEq, V.ref.injEq, V.bl.injEq, exists_and_left, exists_eq_left, List.cons.injEq, and_true, true_and]
    exact ⟨C, ox, no, .inl ⟨ha, q⟩⟩

theorem own_InvalidScript {h : Heap} {C fI : Addr} {fd : FuncData} (X : K.In h) (G : h.Ns mainGlobals mg) (m : PySem.W.nsIn K mainGlobals "InvalidScript" = some (some (.ref C))) (ox : OexC K C) (no : PySem.W.findIn K (.ref C) "value" = some none)
    (iC : PySem.W.findIn K (.ref C) "__init__" = some (some (.ref fI))) (tI : PySem.W.typeIn K (.ref fI) = some (.type "function")) (F : FunD K "__init__" "InvalidScript.__init__" (defArgs i_InvalidScript) (defBody i_InvalidScript) (defScope i_InvalidScript) [.non] [] fI fd) : OwnE K mg "InvalidScript" C "value" "value" := by
  refine ⟨PySem.W.mg_of X G m, ox, fI, fd, iC, tI, F.binds1 1 0 (by simp) rfl (fun _ _ _ _ _ _ _ us its h1 h2 => match us, its, h1, h2 with | [_], [_], _, _ => ⟨_, rfl, rfl⟩), ?_, kbinds1 F (by simp) (fun _ _ _ _ _ _ _ us its ws h1 h2 h3 => match us, its, ws, h1, h2, h3 with | [_], [_], [_], _, _, _ => ⟨_, rfl, rfl⟩), fun P w base => ?_⟩
  · obtain ⟨ds, hd, b⟩ := F.binds1 (ps := ["self", "value"]) 2 1 (by simp) rfl (fun _ _ _ _ _ _ _ us its h1 h2 => match us, its, h1, h2 with | [_, _], [_], _, _ => ⟨_, rfl, rfl⟩)
    cases hd
    exact b
  · refine FunD.ok F si_InvalidScript (fun vs H Q E h => ?_) (fun cdv A outer s H vs Q E hr h => ?_)
    · obtain ⟨a, y, rfl, _⟩ := h; rfl
    obtain ⟨a, y, rfl, ha, q⟩ := h
    refine ⟨_, pss_one (ps_ost (pv 0) (pv 1)), ?_⟩
    simp only [tOst, cxOf_K, tAsg2, tYes, wipe, tSeq, tIfS, tNot, tB, tCB, tCons, tNil, tVar, tC, tTest, tOp, tAnd, tOr, tAsg, gName, tRet, tRetN, tDrop, tNext, tIf, tCall, tTup, tLst, tNotV, tAndV, tOrV, tUn, rI0, rI, rU, rEq, rNe, tM1, tM0, tBM, tBM0, tSl, tPart, tNoPart, iStr, iEnumS, iRng1, iRng2, iList, gSub, tBits, tAug, tPar, L2.start, List.map_cons, List.map_nil, List.length_cons, List.length_nil, List.getElem?_cons_zero, List.getElem?_cons_succ, List.cons_append, List.nil_append, List.append_nil, List.set_cons_zero, List.set_cons_succ, List.replicate_succ, List.replicate_zero, Option.some.injEq, exists_eq_left', V.int.injEq, V.str.injEq, V.ref.injEq, V.bl.injEq, exists_and_left, exists_eq_left, List.cons.injEq, and_true, true_and]
    exact ⟨C, ox, no, .inl ⟨ha, q⟩⟩

theorem own_InvalidMove {h : Heap} {C fI : Addr} {fd : FuncData} (X : K.In h) (G : h.Ns mainGlobals mg) (m : PySem.W.nsIn K mainGlobals "InvalidMove" = some (some (.ref C))) (ox : OexC K C) (no : PySem.W.findIn K (.ref C) "value" = some none)
    (iC : PySem.W.findIn K (.ref C) "__init__" = some (some (.ref fI))) (tI : PySem.W.typeIn K (.ref fI) = some (.type "function")) (F : FunD K "__init__" "InvalidMove.__init__" (defArgs i_InvalidMove) (defBody i_InvalidMove) (defScope i_InvalidMove) [.non] [] fI fd) : OwnE K mg "InvalidMove" C "value" "value" := by
  refine ⟨PySem.W.mg_of X G m, ox, fI, fd, iC, tI, F.binds1 1 0 (by simp) rfl (fun _ _ _ _ _ _ _ us its h1 h2 => match us, its, h1, h2 with | [_], [_], _, _ => ⟨_, rfl, rfl⟩), ?_, kbinds1 F (by simp) (fun _ _ _ _ _ _ _ us its ws h1 h2 h3 => match us, its, ws, h1, h2, h3 with | [_], [_], [_], _, _, _ => ⟨_, rfl, rfl⟩), fun P w base => ?_⟩
  · obtain ⟨ds, hd, b⟩ := F.binds1 (ps := ["self", "value"]) 2 1 (by simp) rfl (fun _ _ _ _ _ _ _ us its h1 h2 => match us, its, h1, h2 with | [_, _], [_], _, _ => ⟨_, rfl, rfl⟩)
    cases hd
    exact b
  · refine FunD.ok F si_InvalidMove (fun vs H Q E h => ?_) (fun cdv A outer s H vs Q E hr h => ?_)
    · obtain ⟨a, y, rfl, _⟩ := h; rfl
    obtain ⟨a, y, rfl, ha, q⟩ := h
    refine ⟨_, pss_one (ps_ost (pv 0) (pv 1)), ?_⟩
    simp only [tOst, cxOf_K, tAsg2, tYes, wipe, tSeq, tIfS, tNot, tB, tCB, tCons, tNil, tVar, tC, tTest, tOp, tAnd, tOr, tAsg, gName, tRet, tRetN, tDrop, tNext, tIf, tCall, tTup, tLst, tNotV, tAndV, tOrV, tUn, rI0, rI, rU, rEq, rNe, tM1, tM0, tBM, tBM0, tSl, tPart, tNoPart, iStr, iEnumS, iRng1, iRng2, iList, gSub, tBits, tAug, tPar, L2.start, List.map_cons, List.map_nil, List.length_cons, List.length_nil, List.getElem?_cons_zero, List.getElem?_cons_succ, List.cons_append, List.nil_append, List.append_nil, List.set_cons_zero, List.set_cons_succ, List.replicate_succ, List.replicate_zero, Option.some.injEq, exists_eq_left', V.int.injEq, V.str.injEq, V.ref.injEq, V.bl.injEq, exists_and_left, exists_eq_left, List.cons.injEq, and_true, true_and]
    exact ⟨C, ox, no, .inl ⟨ha, q⟩⟩

theorem own_CannotMove {h : Heap} {C fI : Addr} {fd : FuncData} (X : K.In h) (G : h.Ns mainGlobals mg) (m : PySem.W.nsIn K mainGlobals "CannotMove" = some (some (.ref C))) (ox : OexC K C) (no : PySem.W.findIn K (.ref C) "value" = some none)
    (iC : PySem.W.findIn K (.ref C) "__init__" = some (some (.ref fI))) (tI : PySem.W.typeIn K (.ref fI) = some (.type "function")) (F : FunD K "__init__" "CannotMove.__init__" (defArgs i_CannotMove) (defBody i_CannotMove) (defScope i_CannotMove) [.non] [] fI fd) : OwnE K mg "CannotMove" C "value" "value" := by
  refine ⟨PySem.W.mg_of X G m, ox, fI, fd, iC, tI, F.binds1 1 0 (by simp) rfl (fun _ _ _ _ _ _ _ us its h1 h2 => match us, its, h1, h2 with | [_], [_], _, _ => ⟨_, rfl, rfl⟩), ?_, kbinds1 F (by simp) (fun _ _ _ _ _ _ _ us its ws h1 h2 h3 => match us, its, ws, h1, h2, h3 with | [_], [_], [_], _, _, _ => ⟨_, rfl, rfl⟩), fun P w base => ?_⟩
  · obtain ⟨ds, hd, b⟩ := F.binds1 (ps := ["self", "value"]) 2 1 (by simp) rfl (fun _ _ _ _ _ _ _ us its h1 h2 => match us, its, h1, h2 with | [_, _], [_], _, _ => ⟨_, rfl, rfl⟩)
    cases hd
    exact b
  · refine FunD.ok F si_CannotMove (fun vs H Q E h => ?_) (fun cdv A outer s H vs Q E hr h => ?_)
    · obtain ⟨a, y, rfl, _⟩ := h; rfl
    obtain ⟨a, y, rfl, ha, q⟩ := h
    refine ⟨_, pss_one (ps_ost (pv 0) (pv 1)), ?_⟩
    simp only [tOst, cxOf_K, tAsg2, tYes, wipe, tSeq, tIfS, tNot, tB, tCB, tCons, tNil, tVar, tC, tTest, tOp, tAnd, tOr, tAsg, gName, tRet, tRetN, tDrop, tNext, tIf, tCall, tTup, tLst, tNotV, tAndV, tOrV, tUn, rI0, rI, rU, rEq, rNe, tM1, tM0, tBM, tBM0, tSl, tPart, tNoPart, iStr, iEnumS, iRng1, iRng2, iList, gSub, tBits, tAug, tPar, L2.start, List.map_cons, List.map_nil, List.length_cons, List.length_nil, List.getElem?_cons_zero, List.getElem?_cons_succ, List.cons_append, List.nil_append, List.append_nil, List.set_cons_zero, List.set_cons_succ, List.replicate_succ, List.replicate_zero, Option.some.injEq, exists_eq_left', V.int.injEq, V.str.injEq, V.ref.injEq, V.bl.injEq, exists_and_left, exists_eq_left, List.cons.injEq, and_true, true_and]
    exact ⟨C, ox, no, .inl ⟨ha, q⟩⟩

end
theorem all_mk {l : PySem.W.OpenLaw} {w : World} {K : PySem.W.Frag} {h : Heap} {mg : Str → Option Value} {fa : Addr} (X : K.In h) (G : h.Ns mainGlobals mg) (hfa : mg "law" = some (.ref fa))
    (hn : PySem.W.specialIn K (.builtin "object.__class__") "__get__" = some (some (.builtin "getset_descriptor.__get__"))) (ht : PySem.W.takesIn K (.builtin "object.__class__") = some true)
    {C_TurnError : Addr}
    {nm_TurnError q_TurnError : Str} {N_TurnError : Addr} {bs_TurnError : List Value} {sn_TurnError : List Str} {sub_TurnError : List Value} {ab_TurnError : Bool} {col_TurnError : Option Bool} {dd_TurnError : Option Addr} {k0_TurnError k1_TurnError k2_TurnError k3_TurnError k5_TurnError : Option Value}
    (m_TurnError : PySem.W.nsIn K mainGlobals "TurnError" = some (some (.ref C_TurnError)))
    (l_TurnError : K.lookup C_TurnError = some (excClassObj nm_TurnError q_TurnError C_TurnError N_TurnError bs_TurnError veL true sn_TurnError sub_TurnError ab_TurnError col_TurnError dd_TurnError k0_TurnError k1_TurnError k2_TurnError k3_TurnError k5_TurnError "ValueError.__new__"))
    (ga_TurnError : PySem.W.findIn K (.ref C_TurnError) "__getattribute__" = some (some (.builtin "BaseException.__getattribute__"))) (gg_TurnError : PySem.W.findIn K (.ref C_TurnError) "__getattr__" = some none) (ha_TurnError : PySem.W.findIn K (.ref C_TurnError) "__class__" = some (some (.builtin "object.__class__")))
    {C_InvalidTree : Addr}
    {nm_InvalidTree q_InvalidTree : Str} {N_InvalidTree : Addr} {bs_InvalidTree : List Value} {sn_InvalidTree : List Str} {sub_InvalidTree : List Value} {ab_InvalidTree : Bool} {col_InvalidTree : Option Bool} {dd_InvalidTree : Option Addr} {k0_InvalidTree k1_InvalidTree k2_InvalidTree k3_InvalidTree k5_InvalidTree : Option Value}
    (m_InvalidTree : PySem.W.nsIn K mainGlobals "InvalidTree" = some (some (.ref C_InvalidTree)))
    (l_InvalidTree : K.lookup C_InvalidTree = some (excClassObj nm_InvalidTree q_InvalidTree C_InvalidTree N_InvalidTree bs_InvalidTree (.ref C_TurnError :: veL) true sn_InvalidTree sub_InvalidTree ab_InvalidTree col_InvalidTree dd_InvalidTree k0_InvalidTree k1_InvalidTree k2_InvalidTree k3_InvalidTree k5_InvalidTree "ValueError.__new__"))
    (ga_InvalidTree : PySem.W.findIn K (.ref C_InvalidTree) "__getattribute__" = some (some (.builtin "BaseException.__getattribute__"))) (gg_InvalidTree : PySem.W.findIn K (.ref C_InvalidTree) "__getattr__" = some none) (ha_InvalidTree : PySem.W.findIn K (.ref C_InvalidTree) "__class__" = some (some (.builtin "object.__class__")))
    (sa_InvalidTree : PySem.W.findIn K (.ref C_InvalidTree) "__setattr__" = some (some (.builtin "object.__setattr__"))) (kC_InvalidTree : PySem.W.keepIn K (.ref C_InvalidTree) = true) (no_InvalidTree : PySem.W.findIn K (.ref C_InvalidTree) "value" = some none)
    {f_InvalidTree T_InvalidTree n_InvalidTree : Nat} {od_InvalidTree td_InvalidTree an_InvalidTree : Option Addr} {kV_InvalidTree doc_InvalidTree pm_InvalidTree cd_InvalidTree ct_InvalidTree tc_InvalidTree : Value} {ol_InvalidTree ts_InvalidTree : Array (Option Value)}
    (iC_InvalidTree : PySem.W.findIn K (.ref C_InvalidTree) "__init__" = some (some (.ref f_InvalidTree)))
    (lf_InvalidTree : K.lookup f_InvalidTree = some ⟨.type "function", od_InvalidTree, .func (PySem.W.fnOf "__init__" "InvalidTree.__init__" (defArgs i_InvalidTree) (defBody i_InvalidTree) (defScope i_InvalidTree) (.ref T_InvalidTree) kV_InvalidTree doc_InvalidTree pm_InvalidTree an_InvalidTree cd_InvalidTree ct_InvalidTree), ol_InvalidTree⟩)
    (cf_InvalidTree : PySem.W.codeIn K cd_InvalidTree "InvalidTree.__init__" = true) (lT_InvalidTree : K.lookup T_InvalidTree = some ⟨tc_InvalidTree, td_InvalidTree, .seq #[.none] n_InvalidTree, ts_InvalidTree⟩)
    {C_InvalidList : Addr}
    {nm_InvalidList q_InvalidList : Str} {N_InvalidList : Addr} {bs_InvalidList : List Value} {sn_InvalidList : List Str} {sub_InvalidList : List Value} {ab_InvalidList : Bool} {col_InvalidList : Option Bool} {dd_InvalidList : Option Addr} {k0_InvalidList k1_InvalidList k2_InvalidList k3_InvalidList k5_InvalidList : Option Value}
    (m_InvalidList : PySem.W.nsIn K mainGlobals "InvalidList" = some (some (.ref C_InvalidList)))
    (l_InvalidList : K.lookup C_InvalidList = some (excClassObj nm_InvalidList q_InvalidList C_InvalidList N_InvalidList bs_InvalidList (.ref C_TurnError :: veL) true sn_InvalidList sub_InvalidList ab_InvalidList col_InvalidList dd_InvalidList k0_InvalidList k1_InvalidList k2_InvalidList k3_InvalidList k5_InvalidList "ValueError.__new__"))
    (ga_InvalidList : PySem.W.findIn K (.ref C_InvalidList) "__getattribute__" = some (some (.builtin "BaseException.__getattribute__"))) (gg_InvalidList : PySem.W.findIn K (.ref C_InvalidList) "__getattr__" = some none) (ha_InvalidList : PySem.W.findIn K (.ref C_InvalidList) "__class__" = some (some (.builtin "object.__class__")))
    (sa_InvalidList : PySem.W.findIn K (.ref C_InvalidList) "__setattr__" = some (some (.builtin "object.__setattr__"))) (kC_InvalidList : PySem.W.keepIn K (.ref C_InvalidList) = true) (no_InvalidList : PySem.W.findIn K (.ref C_InvalidList) "value" = some none)
    {f_InvalidList T_InvalidList n_InvalidList : Nat} {od_InvalidList td_InvalidList an_InvalidList : Option Addr} {kV_InvalidList doc_InvalidList pm_InvalidList cd_InvalidList ct_InvalidList tc_InvalidList : Value} {ol_InvalidList ts_InvalidList : Array (Option Value)}
    (iC_InvalidList : PySem.W.findIn K (.ref C_InvalidList) "__init__" = some (some (.ref f_InvalidList)))
    (lf_InvalidList : K.lookup f_InvalidList = some ⟨.type "function", od_InvalidList, .func (PySem.W.fnOf "__init__" "InvalidList.__init__" (defArgs i_InvalidList) (defBody i_InvalidList) (defScope i_InvalidList) (.ref T_InvalidList) kV_InvalidList doc_InvalidList pm_InvalidList an_InvalidList cd_InvalidList ct_InvalidList), ol_InvalidList⟩)
    (cf_InvalidList : PySem.W.codeIn K cd_InvalidList "InvalidList.__init__" = true) (lT_InvalidList : K.lookup T_InvalidList = some ⟨tc_InvalidList, td_InvalidList, .seq #[.none] n_InvalidList, ts_InvalidList⟩)
    {C_InvalidScript : Addr}
    {nm_InvalidScript q_InvalidScript : Str} {N_InvalidScript : Addr} {bs_InvalidScript : List Value} {sn_InvalidScript : List Str} {sub_InvalidScript : List Value} {ab_InvalidScript : Bool} {col_InvalidScript : Option Bool} {dd_InvalidScript : Option Addr} {k0_InvalidScript k1_InvalidScript k2_InvalidScript k3_InvalidScript k5_InvalidScript : Option Value}
    (m_InvalidScript : PySem.W.nsIn K mainGlobals "InvalidScript" = some (some (.ref C_InvalidScript)))
    (l_InvalidScript : K.lookup C_InvalidScript = some (excClassObj nm_InvalidScript q_InvalidScript C_InvalidScript N_InvalidScript bs_InvalidScript (.ref C_TurnError :: veL) true sn_InvalidScript sub_InvalidScript ab_InvalidScript col_InvalidScript dd_InvalidScript k0_InvalidScript k1_InvalidScript k2_InvalidScript k3_InvalidScript k5_InvalidScript "ValueError.__new__"))
    (ga_InvalidScript : PySem.W.findIn K (.ref C_InvalidScript) "__getattribute__" = some (some (.builtin "BaseException.__getattribute__"))) (gg_InvalidScript : PySem.W.findIn K (.ref C_InvalidScript) "__getattr__" = some none) (ha_InvalidScript : PySem.W.findIn K (.ref C_InvalidScript) "__class__" = some (some (.builtin "object.__class__")))
    (sa_InvalidScript : PySem.W.findIn K (.ref C_InvalidScript) "__setattr__" = some (some (.builtin "object.__setattr__"))) (kC_InvalidScript : PySem.W.keepIn K (.ref C_InvalidScript) = true) (no_InvalidScript : PySem.W.findIn K (.ref C_InvalidScript) "value" = some none)
    {f_InvalidScript T_InvalidScript n_InvalidScript : Nat} {od_InvalidScript td_InvalidScript an_InvalidScript : Option Addr} {kV_InvalidScript doc_InvalidScript pm_InvalidScript cd_InvalidScript ct_InvalidScript tc_InvalidScript : Value} {ol_InvalidScript ts_InvalidScript : Array (Option Value)}
    (iC_InvalidScript : PySem.W.findIn K (.ref C_InvalidScript) "__init__" = some (some (.ref f_InvalidScript)))
    (lf_InvalidScript : K.lookup f_InvalidScript = some ⟨.type "function", od_InvalidScript, .func (PySem.W.fnOf "__init__" "InvalidScript.__init__" (defArgs i_InvalidScript) (defBody i_InvalidScript) (defScope i_InvalidScript) (.ref T_InvalidScript) kV_InvalidScript doc_InvalidScript pm_InvalidScript an_InvalidScript cd_InvalidScript ct_InvalidScript), ol_InvalidScript⟩)
    (cf_InvalidScript : PySem.W.codeIn K cd_InvalidScript "InvalidScript.__init__" = true) (lT_InvalidScript : K.lookup T_InvalidScript = some ⟨tc_InvalidScript, td_InvalidScript, .seq #[.none] n_InvalidScript, ts_InvalidScript⟩)
    {C_InvalidMove : Addr}
    {nm_InvalidMove q_InvalidMove : Str} {N_InvalidMove : Addr} {bs_InvalidMove : List Value} {sn_InvalidMove : List Str} {sub_InvalidMove : List Value} {ab_InvalidMove : Bool} {col_InvalidMove : Option Bool} {dd_InvalidMove : Option Addr} {k0_InvalidMove k1_InvalidMove k2_InvalidMove k3_InvalidMove k5_InvalidMove : Option Value}
    (m_InvalidMove : PySem.W.nsIn K mainGlobals "InvalidMove" = some (some (.ref C_InvalidMove)))
    (l_InvalidMove : K.lookup C_InvalidMove = some (excClassObj nm_InvalidMove q_InvalidMove C_InvalidMove N_InvalidMove bs_InvalidMove (.ref C_TurnError :: veL) true sn_InvalidMove sub_InvalidMove ab_InvalidMove col_InvalidMove dd_InvalidMove k0_InvalidMove k1_InvalidMove k2_InvalidMove k3_InvalidMove k5_InvalidMove "ValueError.__new__"))
    (ga_InvalidMove : PySem.W.findIn K (.ref C_InvalidMove) "__getattribute__" = some (some (.builtin "BaseException.__getattribute__"))) (gg_InvalidMove : PySem.W.findIn K (.ref C_InvalidMove) "__getattr__" = some none) (ha_InvalidMove : PySem.W.findIn K (.ref C_InvalidMove) "__class__" = some (some (.builtin "object.__class__")))
    (sa_InvalidMove : PySem.W.findIn K (.ref C_InvalidMove) "__setattr__" = some (some (.builtin "object.__setattr__"))) (kC_InvalidMove : PySem.W.keepIn K (.ref C_InvalidMove) = true) (no_InvalidMove : PySem.W.findIn K (.ref C_InvalidMove) "value" = some none)
    {f_InvalidMove T_InvalidMove n_InvalidMove : Nat} {od_InvalidMove td_InvalidMove an_InvalidMove : Option Addr} {kV_InvalidMove doc_InvalidMove pm_InvalidMove cd_InvalidMove ct_InvalidMove tc_InvalidMove : Value} {ol_InvalidMove ts_InvalidMove : Array (Option Value)}
    (iC_InvalidMove : PySem.W.findIn K (.ref C_InvalidMove) "__init__" = some (some (.ref f_InvalidMove)))
    (lf_InvalidMove : K.lookup f_InvalidMove = some ⟨.type "function", od_InvalidMove, .func (PySem.W.fnOf "__init__" "InvalidMove.__init__" (defArgs i_InvalidMove) (defBody i_InvalidMove) (defScope i_InvalidMove) (.ref T_InvalidMove) kV_InvalidMove doc_InvalidMove pm_InvalidMove an_InvalidMove cd_InvalidMove ct_InvalidMove), ol_InvalidMove⟩)
    (cf_InvalidMove : PySem.W.codeIn K cd_InvalidMove "InvalidMove.__init__" = true) (lT_InvalidMove : K.lookup T_InvalidMove = some ⟨tc_InvalidMove, td_InvalidMove, .seq #[.none] n_InvalidMove, ts_InvalidMove⟩)
    {C_CannotMove : Addr}
    {nm_CannotMove q_CannotMove : Str} {N_CannotMove : Addr} {bs_CannotMove : List Value} {sn_CannotMove : List Str} {sub_CannotMove : List Value} {ab_CannotMove : Bool} {col_CannotMove : Option Bool} {dd_CannotMove : Option Addr} {k0_CannotMove k1_CannotMove k2_CannotMove k3_CannotMove k5_CannotMove : Option Value}
    (m_CannotMove : PySem.W.nsIn K mainGlobals "CannotMove" = some (some (.ref C_CannotMove)))
    (l_CannotMove : K.lookup C_CannotMove = some (excClassObj nm_CannotMove q_CannotMove C_CannotMove N_CannotMove bs_CannotMove (.ref C_TurnError :: veL) true sn_CannotMove sub_CannotMove ab_CannotMove col_CannotMove dd_CannotMove k0_CannotMove k1_CannotMove k2_CannotMove k3_CannotMove k5_CannotMove "ValueError.__new__"))
    (ga_CannotMove : PySem.W.findIn K (.ref C_CannotMove) "__getattribute__" = some (some (.builtin "BaseException.__getattribute__"))) (gg_CannotMove : PySem.W.findIn K (.ref C_CannotMove) "__getattr__" = some none) (ha_CannotMove : PySem.W.findIn K (.ref C_CannotMove) "__class__" = some (some (.builtin "object.__class__")))
    (sa_CannotMove : PySem.W.findIn K (.ref C_CannotMove) "__setattr__" = some (some (.builtin "object.__setattr__"))) (kC_CannotMove : PySem.W.keepIn K (.ref C_CannotMove) = true) (no_CannotMove : PySem.W.findIn K (.ref C_CannotMove) "value" = some none)
    {f_CannotMove T_CannotMove n_CannotMove : Nat} {od_CannotMove td_CannotMove an_CannotMove : Option Addr} {kV_CannotMove doc_CannotMove pm_CannotMove cd_CannotMove ct_CannotMove tc_CannotMove : Value} {ol_CannotMove ts_CannotMove : Array (Option Value)}
    (iC_CannotMove : PySem.W.findIn K (.ref C_CannotMove) "__init__" = some (some (.ref f_CannotMove)))
    (lf_CannotMove : K.lookup f_CannotMove = some ⟨.type "function", od_CannotMove, .func (PySem.W.fnOf "__init__" "CannotMove.__init__" (defArgs i_CannotMove) (defBody i_CannotMove) (defScope i_CannotMove) (.ref T_CannotMove) kV_CannotMove doc_CannotMove pm_CannotMove an_CannotMove cd_CannotMove ct_CannotMove), ol_CannotMove⟩)
    (cf_CannotMove : PySem.W.codeIn K cd_CannotMove "CannotMove.__init__" = true) (lT_CannotMove : K.lookup T_CannotMove = some ⟨tc_CannotMove, td_CannotMove, .seq #[.none] n_CannotMove, ts_CannotMove⟩)
    (nd : [C_InvalidTree, C_InvalidList, C_InvalidScript, C_InvalidMove, C_CannotMove, C_TurnError].Nodup)
    {D_OTHER_WORD n_OTHER_WORD : Nat} {h1_OTHER_WORD h2_OTHER_WORD : Int} {t1_OTHER_WORD t2_OTHER_WORD t3_OTHER_WORD t4_OTHER_WORD : Tok}
    (m_OTHER_WORD : PySem.W.nsIn K mainGlobals "OTHER_WORD" = some (some (.ref D_OTHER_WORD))) (l_OTHER_WORD : K.lookup D_OTHER_WORD = some ⟨.type "dict", none, .dict #[⟨h1_OTHER_WORD, .str "left" t1_OTHER_WORD, .str "right" t2_OTHER_WORD⟩, ⟨h2_OTHER_WORD, .str "right" t3_OTHER_WORD, .str "left" t4_OTHER_WORD⟩] n_OTHER_WORD, #[]⟩)
    (e1_OTHER_WORD : h1_OTHER_WORD = PyData.keyHash w.params "left") (e2_OTHER_WORD : h2_OTHER_WORD = PyData.keyHash w.params "right") (lo_OTHER_WORD : (D_OTHER_WORD == sysModules) = false)
    {C_Growth : Addr} (m_Growth : PySem.W.nsIn K mainGlobals "Growth" = some (some (.ref C_Growth)))
    (pg_Growth : PySem.W.plainGet K C_Growth Str.empty = true) (hd_Growth : PySem.W.hasDictIn K C_Growth = true) (po_Growth : PySem.W.plainOver K C_Growth = true) (sa_Growth : PySem.W.findIn K (.ref C_Growth) "__setattr__" = some (some (.builtin "object.__setattr__"))) (mk_Growth : PySem.W.makesIn K C_Growth = true) (kc_Growth : PySem.W.keepIn K (.ref C_Growth) = true)
    (na_Growth_origin : PySem.W.findIn K (.ref C_Growth) "origin" = some none)
    (na_Growth_current : PySem.W.findIn K (.ref C_Growth) "current" = some none)
    (na_Growth_many : PySem.W.findIn K (.ref C_Growth) "many" = some none)
    {f_Growth___init__ : Addr} {od_Growth___init__ an_Growth___init__ : Option Addr} {sl_Growth___init__ : Array (Option Value)} {oc_Growth___init__ kV_Growth___init__ dc_Growth___init__ pm_Growth___init__ cd_Growth___init__ ct_Growth___init__ : Value}
    (at_Growth___init__ : PySem.W.findIn K (.ref C_Growth) "__init__" = some (some (.ref f_Growth___init__))) (is_Growth___init__ : PySem.W.isFn K (.ref f_Growth___init__) = true) (l_Growth___init__ : K.lookup f_Growth___init__ = some ⟨oc_Growth___init__, od_Growth___init__, .func (PySem.W.fnOf "__init__" "Growth.__init__" (defArgs s_Growth___init__) (defBody s_Growth___init__) (defScope s_Growth___init__) .none kV_Growth___init__ dc_Growth___init__ pm_Growth___init__ an_Growth___init__ cd_Growth___init__ ct_Growth___init__), sl_Growth___init__⟩) (c_Growth___init__ : PySem.W.codeIn K cd_Growth___init__ "Growth.__init__" = true) (k_Growth___init__ : PySem.W.keepIn K (.ref f_Growth___init__) = true)
    {f_Growth_unfold : Addr} {od_Growth_unfold an_Growth_unfold : Option Addr} {sl_Growth_unfold : Array (Option Value)} {oc_Growth_unfold kV_Growth_unfold dc_Growth_unfold pm_Growth_unfold cd_Growth_unfold ct_Growth_unfold : Value}
    (at_Growth_unfold : PySem.W.findIn K (.ref C_Growth) "unfold" = some (some (.ref f_Growth_unfold))) (is_Growth_unfold : PySem.W.isFn K (.ref f_Growth_unfold) = true) (l_Growth_unfold : K.lookup f_Growth_unfold = some ⟨oc_Growth_unfold, od_Growth_unfold, .func (PySem.W.fnOf "unfold" "Growth.unfold" (defArgs s_Growth_unfold) (defBody s_Growth_unfold) (defScope s_Growth_unfold) .none kV_Growth_unfold dc_Growth_unfold pm_Growth_unfold an_Growth_unfold cd_Growth_unfold ct_Growth_unfold), sl_Growth_unfold⟩) (c_Growth_unfold : PySem.W.codeIn K cd_Growth_unfold "Growth.unfold" = true) (k_Growth_unfold : PySem.W.keepIn K (.ref f_Growth_unfold) = true)
    {f_Growth_sides : Addr} {od_Growth_sides an_Growth_sides : Option Addr} {sl_Growth_sides : Array (Option Value)} {oc_Growth_sides kV_Growth_sides dc_Growth_sides pm_Growth_sides cd_Growth_sides ct_Growth_sides : Value}
    (at_Growth_sides : PySem.W.findIn K (.ref C_Growth) "sides" = some (some (.ref f_Growth_sides))) (is_Growth_sides : PySem.W.isFn K (.ref f_Growth_sides) = true) (l_Growth_sides : K.lookup f_Growth_sides = some ⟨oc_Growth_sides, od_Growth_sides, .func (PySem.W.fnOf "sides" "Growth.sides" (defArgs s_Growth_sides) (defBody s_Growth_sides) (defScope s_Growth_sides) .none kV_Growth_sides dc_Growth_sides pm_Growth_sides an_Growth_sides cd_Growth_sides ct_Growth_sides), sl_Growth_sides⟩) (c_Growth_sides : PySem.W.codeIn K cd_Growth_sides "Growth.sides" = true) (k_Growth_sides : PySem.W.keepIn K (.ref f_Growth_sides) = true)
    {f_Growth_turn : Addr} {od_Growth_turn an_Growth_turn : Option Addr} {sl_Growth_turn : Array (Option Value)} {oc_Growth_turn kV_Growth_turn dc_Growth_turn pm_Growth_turn cd_Growth_turn ct_Growth_turn : Value}
    (at_Growth_turn : PySem.W.findIn K (.ref C_Growth) "turn" = some (some (.ref f_Growth_turn))) (is_Growth_turn : PySem.W.isFn K (.ref f_Growth_turn) = true) (l_Growth_turn : K.lookup f_Growth_turn = some ⟨oc_Growth_turn, od_Growth_turn, .func (PySem.W.fnOf "turn" "Growth.turn" (defArgs s_Growth_turn) (defBody s_Growth_turn) (defScope s_Growth_turn) .none kV_Growth_turn dc_Growth_turn pm_Growth_turn an_Growth_turn cd_Growth_turn ct_Growth_turn), sl_Growth_turn⟩) (c_Growth_turn : PySem.W.codeIn K cd_Growth_turn "Growth.turn" = true) (k_Growth_turn : PySem.W.keepIn K (.ref f_Growth_turn) = true)
    {C_Move : Addr} (m_Move : PySem.W.nsIn K mainGlobals "Move" = some (some (.ref C_Move)))
    (pg_Move : PySem.W.plainGet K C_Move Str.empty = true) (hd_Move : PySem.W.hasDictIn K C_Move = true) (po_Move : PySem.W.plainOver K C_Move = true) (sa_Move : PySem.W.findIn K (.ref C_Move) "__setattr__" = some (some (.builtin "object.__setattr__"))) (mk_Move : PySem.W.makesIn K C_Move = true) (kc_Move : PySem.W.keepIn K (.ref C_Move) = true)
    {mc_Move : Value} (ty_Move : PySem.W.typeIn K (.ref C_Move) = some mc_Move) (rd_Move : PySem.W.readsIn K C_Move mc_Move = true) (ga_Move : PySem.W.specialIn K (.ref C_Move) "__getattribute__" = some (some (.builtin "type.__getattribute__"))) (sf_Move : PySem.W.selfFirst K C_Move = true)
    (ob_Move : PySem.W.mroIn K C_Move (.type "object") = some true) (nx_Move : PySem.W.findIn K (.ref C_Move) "__ne__" = some (some (.builtin "object.__ne__"))) (ha_Move : PySem.W.findIn K (.ref C_Move) "__class__" = some (some (.builtin "object.__class__")))
    (na_Move__before : PySem.W.findIn K (.ref C_Move) "_before" = some none)
    (na_Move__after : PySem.W.findIn K (.ref C_Move) "_after" = some none)
    {f_Move___init__ : Addr} {od_Move___init__ an_Move___init__ : Option Addr} {sl_Move___init__ : Array (Option Value)} {oc_Move___init__ kV_Move___init__ dc_Move___init__ pm_Move___init__ cd_Move___init__ ct_Move___init__ : Value}
    (at_Move___init__ : PySem.W.findIn K (.ref C_Move) "__init__" = some (some (.ref f_Move___init__))) (is_Move___init__ : PySem.W.isFn K (.ref f_Move___init__) = true) (l_Move___init__ : K.lookup f_Move___init__ = some ⟨oc_Move___init__, od_Move___init__, .func (PySem.W.fnOf "__init__" "Move.__init__" (defArgs s_Move___init__) (defBody s_Move___init__) (defScope s_Move___init__) .none kV_Move___init__ dc_Move___init__ pm_Move___init__ an_Move___init__ cd_Move___init__ ct_Move___init__), sl_Move___init__⟩) (c_Move___init__ : PySem.W.codeIn K cd_Move___init__ "Move.__init__" = true) (k_Move___init__ : PySem.W.keepIn K (.ref f_Move___init__) = true)
    {f_Move_of : Addr} {od_Move_of an_Move_of : Option Addr} {sl_Move_of : Array (Option Value)} {oc_Move_of kV_Move_of dc_Move_of pm_Move_of cd_Move_of ct_Move_of : Value}
    {pp_Move_of : Addr} {rs_Move_of : List Value} (at_Move_of : PySem.W.findCls K (.ref C_Move) mc_Move "of" = some (.get (.builtin "staticmethod.__get__") (.ref pp_Move_of) .none (.ref C_Move))) (pr_Move_of : PySem.W.recIn K pp_Move_of "staticmethod" = some (.ref f_Move_of :: rs_Move_of))
    (is_Move_of : PySem.W.isFn K (.ref f_Move_of) = true) (l_Move_of : K.lookup f_Move_of = some ⟨oc_Move_of, od_Move_of, .func (PySem.W.fnOf "of" "Move.of" (defArgs s_Move_of) (defBody s_Move_of) (defScope s_Move_of) .none kV_Move_of dc_Move_of pm_Move_of an_Move_of cd_Move_of ct_Move_of), sl_Move_of⟩) (c_Move_of : PySem.W.codeIn K cd_Move_of "Move.of" = true) (k_Move_of : PySem.W.keepIn K (.ref f_Move_of) = true)
    {f_Move_before : Addr} {od_Move_before an_Move_before : Option Addr} {sl_Move_before : Array (Option Value)} {oc_Move_before kV_Move_before dc_Move_before pm_Move_before cd_Move_before ct_Move_before : Value}
    {pp_Move_before : Addr} {rs_Move_before : List Value} (at_Move_before : PySem.W.findIn K (.ref C_Move) "before" = some (some (.ref pp_Move_before))) (pg_Move_before : PySem.W.specialIn K (.ref pp_Move_before) "__get__" = some (some (.builtin "property.__get__"))) (pt_Move_before : PySem.W.takesIn K (.ref pp_Move_before) = some true) (pr_Move_before : PySem.W.recIn K pp_Move_before "property" = some (.ref f_Move_before :: rs_Move_before))
    (is_Move_before : PySem.W.isFn K (.ref f_Move_before) = true) (l_Move_before : K.lookup f_Move_before = some ⟨oc_Move_before, od_Move_before, .func (PySem.W.fnOf "before" "Move.before" (defArgs s_Move_before) (defBody s_Move_before) (defScope s_Move_before) .none kV_Move_before dc_Move_before pm_Move_before an_Move_before cd_Move_before ct_Move_before), sl_Move_before⟩) (c_Move_before : PySem.W.codeIn K cd_Move_before "Move.before" = true) (k_Move_before : PySem.W.keepIn K (.ref f_Move_before) = true)
    {f_Move_after : Addr} {od_Move_after an_Move_after : Option Addr} {sl_Move_after : Array (Option Value)} {oc_Move_after kV_Move_after dc_Move_after pm_Move_after cd_Move_after ct_Move_after : Value}
    {pp_Move_after : Addr} {rs_Move_after : List Value} (at_Move_after : PySem.W.findIn K (.ref C_Move) "after" = some (some (.ref pp_Move_after))) (pg_Move_after : PySem.W.specialIn K (.ref pp_Move_after) "__get__" = some (some (.builtin "property.__get__"))) (pt_Move_after : PySem.W.takesIn K (.ref pp_Move_after) = some true) (pr_Move_after : PySem.W.recIn K pp_Move_after "property" = some (.ref f_Move_after :: rs_Move_after))
    (is_Move_after : PySem.W.isFn K (.ref f_Move_after) = true) (l_Move_after : K.lookup f_Move_after = some ⟨oc_Move_after, od_Move_after, .func (PySem.W.fnOf "after" "Move.after" (defArgs s_Move_after) (defBody s_Move_after) (defScope s_Move_after) .none kV_Move_after dc_Move_after pm_Move_after an_Move_after cd_Move_after ct_Move_after), sl_Move_after⟩) (c_Move_after : PySem.W.codeIn K cd_Move_after "Move.after" = true) (k_Move_after : PySem.W.keepIn K (.ref f_Move_after) = true)
    {f_Move___call__ : Addr} {od_Move___call__ an_Move___call__ : Option Addr} {sl_Move___call__ : Array (Option Value)} {oc_Move___call__ kV_Move___call__ dc_Move___call__ pm_Move___call__ cd_Move___call__ ct_Move___call__ : Value}
    (at_Move___call__ : PySem.W.findIn K (.ref C_Move) "__call__" = some (some (.ref f_Move___call__))) (is_Move___call__ : PySem.W.isFn K (.ref f_Move___call__) = true) (l_Move___call__ : K.lookup f_Move___call__ = some ⟨oc_Move___call__, od_Move___call__, .func (PySem.W.fnOf "__call__" "Move.__call__" (defArgs s_Move___call__) (defBody s_Move___call__) (defScope s_Move___call__) .none kV_Move___call__ dc_Move___call__ pm_Move___call__ an_Move___call__ cd_Move___call__ ct_Move___call__), sl_Move___call__⟩) (c_Move___call__ : PySem.W.codeIn K cd_Move___call__ "Move.__call__" = true) (k_Move___call__ : PySem.W.keepIn K (.ref f_Move___call__) = true)
    (fi_Move___call__ : PySem.W.fnIn K f_Move___call__ = true)
    {f_Move_can : Addr} {od_Move_can an_Move_can : Option Addr} {sl_Move_can : Array (Option Value)} {oc_Move_can kV_Move_can dc_Move_can pm_Move_can cd_Move_can ct_Move_can : Value}
    (at_Move_can : PySem.W.findIn K (.ref C_Move) "can" = some (some (.ref f_Move_can))) (is_Move_can : PySem.W.isFn K (.ref f_Move_can) = true) (l_Move_can : K.lookup f_Move_can = some ⟨oc_Move_can, od_Move_can, .func (PySem.W.fnOf "can" "Move.can" (defArgs s_Move_can) (defBody s_Move_can) (defScope s_Move_can) .none kV_Move_can dc_Move_can pm_Move_can an_Move_can cd_Move_can ct_Move_can), sl_Move_can⟩) (c_Move_can : PySem.W.codeIn K cd_Move_can "Move.can" = true) (k_Move_can : PySem.W.keepIn K (.ref f_Move_can) = true)
    {f_Move___eq__ : Addr} {od_Move___eq__ an_Move___eq__ : Option Addr} {sl_Move___eq__ : Array (Option Value)} {oc_Move___eq__ kV_Move___eq__ dc_Move___eq__ pm_Move___eq__ cd_Move___eq__ ct_Move___eq__ : Value}
    (at_Move___eq__ : PySem.W.findIn K (.ref C_Move) "__eq__" = some (some (.ref f_Move___eq__))) (is_Move___eq__ : PySem.W.isFn K (.ref f_Move___eq__) = true) (l_Move___eq__ : K.lookup f_Move___eq__ = some ⟨oc_Move___eq__, od_Move___eq__, .func (PySem.W.fnOf "__eq__" "Move.__eq__" (defArgs s_Move___eq__) (defBody s_Move___eq__) (defScope s_Move___eq__) .none kV_Move___eq__ dc_Move___eq__ pm_Move___eq__ an_Move___eq__ cd_Move___eq__ ct_Move___eq__), sl_Move___eq__⟩) (c_Move___eq__ : PySem.W.codeIn K cd_Move___eq__ "Move.__eq__" = true) (k_Move___eq__ : PySem.W.keepIn K (.ref f_Move___eq__) = true)
    {f_Move___repr__ : Addr} {od_Move___repr__ an_Move___repr__ : Option Addr} {sl_Move___repr__ : Array (Option Value)} {oc_Move___repr__ kV_Move___repr__ dc_Move___repr__ pm_Move___repr__ cd_Move___repr__ ct_Move___repr__ : Value}
    (at_Move___repr__ : PySem.W.findIn K (.ref C_Move) "__repr__" = some (some (.ref f_Move___repr__))) (is_Move___repr__ : PySem.W.isFn K (.ref f_Move___repr__) = true) (l_Move___repr__ : K.lookup f_Move___repr__ = some ⟨oc_Move___repr__, od_Move___repr__, .func (PySem.W.fnOf "__repr__" "Move.__repr__" (defArgs s_Move___repr__) (defBody s_Move___repr__) (defScope s_Move___repr__) .none kV_Move___repr__ dc_Move___repr__ pm_Move___repr__ an_Move___repr__ cd_Move___repr__ ct_Move___repr__), sl_Move___repr__⟩) (c_Move___repr__ : PySem.W.codeIn K cd_Move___repr__ "Move.__repr__" = true) (k_Move___repr__ : PySem.W.keepIn K (.ref f_Move___repr__) = true)
    {f_Move___mul__ : Addr} {od_Move___mul__ an_Move___mul__ : Option Addr} {sl_Move___mul__ : Array (Option Value)} {oc_Move___mul__ kV_Move___mul__ dc_Move___mul__ pm_Move___mul__ cd_Move___mul__ ct_Move___mul__ : Value}
    (at_Move___mul__ : PySem.W.findIn K (.ref C_Move) "__mul__" = some (some (.ref f_Move___mul__))) (is_Move___mul__ : PySem.W.isFn K (.ref f_Move___mul__) = true) (l_Move___mul__ : K.lookup f_Move___mul__ = some ⟨oc_Move___mul__, od_Move___mul__, .func (PySem.W.fnOf "__mul__" "Move.__mul__" (defArgs s_Move___mul__) (defBody s_Move___mul__) (defScope s_Move___mul__) .none kV_Move___mul__ dc_Move___mul__ pm_Move___mul__ an_Move___mul__ cd_Move___mul__ ct_Move___mul__), sl_Move___mul__⟩) (c_Move___mul__ : PySem.W.codeIn K cd_Move___mul__ "Move.__mul__" = true) (k_Move___mul__ : PySem.W.keepIn K (.ref f_Move___mul__) = true)
    {f_Move___invert__ : Addr} {od_Move___invert__ an_Move___invert__ : Option Addr} {sl_Move___invert__ : Array (Option Value)} {oc_Move___invert__ kV_Move___invert__ dc_Move___invert__ pm_Move___invert__ cd_Move___invert__ ct_Move___invert__ : Value}
    (at_Move___invert__ : PySem.W.findIn K (.ref C_Move) "__invert__" = some (some (.ref f_Move___invert__))) (is_Move___invert__ : PySem.W.isFn K (.ref f_Move___invert__) = true) (l_Move___invert__ : K.lookup f_Move___invert__ = some ⟨oc_Move___invert__, od_Move___invert__, .func (PySem.W.fnOf "__invert__" "Move.__invert__" (defArgs s_Move___invert__) (defBody s_Move___invert__) (defScope s_Move___invert__) .none kV_Move___invert__ dc_Move___invert__ pm_Move___invert__ an_Move___invert__ cd_Move___invert__ ct_Move___invert__), sl_Move___invert__⟩) (c_Move___invert__ : PySem.W.codeIn K cd_Move___invert__ "Move.__invert__" = true) (k_Move___invert__ : PySem.W.keepIn K (.ref f_Move___invert__) = true)
    {f_Move___le__ : Addr} {od_Move___le__ an_Move___le__ : Option Addr} {sl_Move___le__ : Array (Option Value)} {oc_Move___le__ kV_Move___le__ dc_Move___le__ pm_Move___le__ cd_Move___le__ ct_Move___le__ : Value}
    (at_Move___le__ : PySem.W.findIn K (.ref C_Move) "__le__" = some (some (.ref f_Move___le__))) (is_Move___le__ : PySem.W.isFn K (.ref f_Move___le__) = true) (l_Move___le__ : K.lookup f_Move___le__ = some ⟨oc_Move___le__, od_Move___le__, .func (PySem.W.fnOf "__le__" "Move.__le__" (defArgs s_Move___le__) (defBody s_Move___le__) (defScope s_Move___le__) .none kV_Move___le__ dc_Move___le__ pm_Move___le__ an_Move___le__ cd_Move___le__ ct_Move___le__), sl_Move___le__⟩) (c_Move___le__ : PySem.W.codeIn K cd_Move___le__ "Move.__le__" = true) (k_Move___le__ : PySem.W.keepIn K (.ref f_Move___le__) = true)
    {f_Move___lt__ : Addr} {od_Move___lt__ an_Move___lt__ : Option Addr} {sl_Move___lt__ : Array (Option Value)} {oc_Move___lt__ kV_Move___lt__ dc_Move___lt__ pm_Move___lt__ cd_Move___lt__ ct_Move___lt__ : Value}
    (at_Move___lt__ : PySem.W.findIn K (.ref C_Move) "__lt__" = some (some (.ref f_Move___lt__))) (is_Move___lt__ : PySem.W.isFn K (.ref f_Move___lt__) = true) (l_Move___lt__ : K.lookup f_Move___lt__ = some ⟨oc_Move___lt__, od_Move___lt__, .func (PySem.W.fnOf "__lt__" "Move.__lt__" (defArgs s_Move___lt__) (defBody s_Move___lt__) (defScope s_Move___lt__) .none kV_Move___lt__ dc_Move___lt__ pm_Move___lt__ an_Move___lt__ cd_Move___lt__ ct_Move___lt__), sl_Move___lt__⟩) (c_Move___lt__ : PySem.W.codeIn K cd_Move___lt__ "Move.__lt__" = true) (k_Move___lt__ : PySem.W.keepIn K (.ref f_Move___lt__) = true)
    {f_Move___ge__ : Addr} {od_Move___ge__ an_Move___ge__ : Option Addr} {sl_Move___ge__ : Array (Option Value)} {oc_Move___ge__ kV_Move___ge__ dc_Move___ge__ pm_Move___ge__ cd_Move___ge__ ct_Move___ge__ : Value}
    (at_Move___ge__ : PySem.W.findIn K (.ref C_Move) "__ge__" = some (some (.ref f_Move___ge__))) (is_Move___ge__ : PySem.W.isFn K (.ref f_Move___ge__) = true) (l_Move___ge__ : K.lookup f_Move___ge__ = some ⟨oc_Move___ge__, od_Move___ge__, .func (PySem.W.fnOf "__ge__" "Move.__ge__" (defArgs s_Move___ge__) (defBody s_Move___ge__) (defScope s_Move___ge__) .none kV_Move___ge__ dc_Move___ge__ pm_Move___ge__ an_Move___ge__ cd_Move___ge__ ct_Move___ge__), sl_Move___ge__⟩) (c_Move___ge__ : PySem.W.codeIn K cd_Move___ge__ "Move.__ge__" = true) (k_Move___ge__ : PySem.W.keepIn K (.ref f_Move___ge__) = true)
    {f_Move___gt__ : Addr} {od_Move___gt__ an_Move___gt__ : Option Addr} {sl_Move___gt__ : Array (Option Value)} {oc_Move___gt__ kV_Move___gt__ dc_Move___gt__ pm_Move___gt__ cd_Move___gt__ ct_Move___gt__ : Value}
    (at_Move___gt__ : PySem.W.findIn K (.ref C_Move) "__gt__" = some (some (.ref f_Move___gt__))) (is_Move___gt__ : PySem.W.isFn K (.ref f_Move___gt__) = true) (l_Move___gt__ : K.lookup f_Move___gt__ = some ⟨oc_Move___gt__, od_Move___gt__, .func (PySem.W.fnOf "__gt__" "Move.__gt__" (defArgs s_Move___gt__) (defBody s_Move___gt__) (defScope s_Move___gt__) .none kV_Move___gt__ dc_Move___gt__ pm_Move___gt__ an_Move___gt__ cd_Move___gt__ ct_Move___gt__), sl_Move___gt__⟩) (c_Move___gt__ : PySem.W.codeIn K cd_Move___gt__ "Move.__gt__" = true) (k_Move___gt__ : PySem.W.keepIn K (.ref f_Move___gt__) = true)
    {f0 : Addr} {od0 an0 : Option Addr} {sl0 : Array (Option Value)} {oc0 kV0 dc0 pm0 cd0 ct0 : Value}
    (a0 : PySem.W.nsIn K mainGlobals "is_tree" = some (some (.ref f0))) (l0 : K.lookup f0 = some ⟨oc0, od0, .func (PySem.W.fnOf "is_tree" "is_tree" (defArgs s_is_tree) (defBody s_is_tree) (defScope s_is_tree) .none kV0 dc0 pm0 an0 cd0 ct0), sl0⟩) (c0 : PySem.W.codeIn K cd0 "is_tree" = true) (k0 : PySem.W.keepIn K (.ref f0) = true)
    {f1 : Addr} {od1 an1 : Option Addr} {sl1 : Array (Option Value)} {oc1 kV1 dc1 pm1 cd1 ct1 : Value}
    (a1 : PySem.W.nsIn K mainGlobals "is_address" = some (some (.ref f1))) (l1 : K.lookup f1 = some ⟨oc1, od1, .func (PySem.W.fnOf "is_address" "is_address" (defArgs s_is_address) (defBody s_is_address) (defScope s_is_address) .none kV1 dc1 pm1 an1 cd1 ct1), sl1⟩) (c1 : PySem.W.codeIn K cd1 "is_address" = true) (k1 : PySem.W.keepIn K (.ref f1) = true)
    {f2 : Addr} {od2 an2 : Option Addr} {sl2 : Array (Option Value)} {oc2 kV2 dc2 pm2 cd2 ct2 : Value}
    (a2 : PySem.W.nsIn K mainGlobals "check_tree" = some (some (.ref f2))) (l2 : K.lookup f2 = some ⟨oc2, od2, .func (PySem.W.fnOf "check_tree" "check_tree" (defArgs s_check_tree) (defBody s_check_tree) (defScope s_check_tree) .none kV2 dc2 pm2 an2 cd2 ct2), sl2⟩) (c2 : PySem.W.codeIn K cd2 "check_tree" = true) (k2 : PySem.W.keepIn K (.ref f2) = true)
    {f3 : Addr} {od3 an3 : Option Addr} {sl3 : Array (Option Value)} {oc3 kV3 dc3 pm3 cd3 ct3 : Value}
    (a3 : PySem.W.nsIn K mainGlobals "size" = some (some (.ref f3))) (l3 : K.lookup f3 = some ⟨oc3, od3, .func (PySem.W.fnOf "size" "size" (defArgs s_size) (defBody s_size) (defScope s_size) .none kV3 dc3 pm3 an3 cd3 ct3), sl3⟩) (c3 : PySem.W.codeIn K cd3 "size" = true) (k3 : PySem.W.keepIn K (.ref f3) = true)
    {f4 : Addr} {od4 an4 : Option Addr} {sl4 : Array (Option Value)} {oc4 kV4 dc4 pm4 cd4 ct4 : Value}
    (a4 : PySem.W.nsIn K mainGlobals "ends" = some (some (.ref f4))) (l4 : K.lookup f4 = some ⟨oc4, od4, .func (PySem.W.fnOf "ends" "ends" (defArgs s_ends) (defBody s_ends) (defScope s_ends) .none kV4 dc4 pm4 an4 cd4 ct4), sl4⟩) (c4 : PySem.W.codeIn K cd4 "ends" = true) (k4 : PySem.W.keepIn K (.ref f4) = true)
    {f5 : Addr} {od5 an5 : Option Addr} {sl5 : Array (Option Value)} {oc5 kV5 dc5 pm5 cd5 ct5 : Value}
    (a5 : PySem.W.nsIn K mainGlobals "addressed" = some (some (.ref f5))) (l5 : K.lookup f5 = some ⟨oc5, od5, .func (PySem.W.fnOf "addressed" "addressed" (defArgs s_addressed) (defBody s_addressed) (defScope s_addressed) .none kV5 dc5 pm5 an5 cd5 ct5), sl5⟩) (c5 : PySem.W.codeIn K cd5 "addressed" = true) (k5 : PySem.W.keepIn K (.ref f5) = true)
    {f6 : Addr} {od6 an6 : Option Addr} {sl6 : Array (Option Value)} {oc6 kV6 dc6 pm6 cd6 ct6 : Value}
    (a6 : PySem.W.nsIn K mainGlobals "leaves" = some (some (.ref f6))) (l6 : K.lookup f6 = some ⟨oc6, od6, .func (PySem.W.fnOf "leaves" "leaves" (defArgs s_leaves) (defBody s_leaves) (defScope s_leaves) .none kV6 dc6 pm6 an6 cd6 ct6), sl6⟩) (c6 : PySem.W.codeIn K cd6 "leaves" = true) (k6 : PySem.W.keepIn K (.ref f6) = true)
    {f7 : Addr} {od7 an7 : Option Addr} {sl7 : Array (Option Value)} {oc7 kV7 dc7 pm7 cd7 ct7 : Value}
    (a7 : PySem.W.nsIn K mainGlobals "from_leaves" = some (some (.ref f7))) (l7 : K.lookup f7 = some ⟨oc7, od7, .func (PySem.W.fnOf "from_leaves" "from_leaves" (defArgs s_from_leaves) (defBody s_from_leaves) (defScope s_from_leaves) .none kV7 dc7 pm7 an7 cd7 ct7), sl7⟩) (c7 : PySem.W.codeIn K cd7 "from_leaves" = true) (k7 : PySem.W.keepIn K (.ref f7) = true)
    {f8 : Addr} {od8 an8 : Option Addr} {sl8 : Array (Option Value)} {oc8 kV8 dc8 pm8 cd8 ct8 : Value}
    (a8 : PySem.W.nsIn K mainGlobals "check_hung" = some (some (.ref f8))) (l8 : K.lookup f8 = some ⟨oc8, od8, .func (PySem.W.fnOf "check_hung" "check_hung" (defArgs s_check_hung) (defBody s_check_hung) (defScope s_check_hung) .none kV8 dc8 pm8 an8 cd8 ct8), sl8⟩) (c8 : PySem.W.codeIn K cd8 "check_hung" = true) (k8 : PySem.W.keepIn K (.ref f8) = true)
    {f9 : Addr} {od9 an9 : Option Addr} {sl9 : Array (Option Value)} {oc9 kV9 dc9 pm9 cd9 ct9 : Value}
    (a9 : PySem.W.nsIn K mainGlobals "grown" = some (some (.ref f9))) (l9 : K.lookup f9 = some ⟨oc9, od9, .func (PySem.W.fnOf "grown" "grown" (defArgs s_grown) (defBody s_grown) (defScope s_grown) .none kV9 dc9 pm9 an9 cd9 ct9), sl9⟩) (c9 : PySem.W.codeIn K cd9 "grown" = true) (k9 : PySem.W.keepIn K (.ref f9) = true)
    {f10 : Addr} {od10 an10 : Option Addr} {sl10 : Array (Option Value)} {oc10 kV10 dc10 pm10 cd10 ct10 : Value}
    (a10 : PySem.W.nsIn K mainGlobals "hung" = some (some (.ref f10))) (l10 : K.lookup f10 = some ⟨oc10, od10, .func (PySem.W.fnOf "hung" "hung" (defArgs s_hung) (defBody s_hung) (defScope s_hung) .none kV10 dc10 pm10 an10 cd10 ct10), sl10⟩) (c10 : PySem.W.codeIn K cd10 "hung" = true) (k10 : PySem.W.keepIn K (.ref f10) = true)
    {f11 : Addr} {od11 an11 : Option Addr} {sl11 : Array (Option Value)} {oc11 kV11 dc11 pm11 cd11 ct11 : Value}
    (a11 : PySem.W.nsIn K mainGlobals "joined" = some (some (.ref f11))) (l11 : K.lookup f11 = some ⟨oc11, od11, .func (PySem.W.fnOf "joined" "joined" (defArgs s_joined) (defBody s_joined) (defScope s_joined) .none kV11 dc11 pm11 an11 cd11 ct11), sl11⟩) (c11 : PySem.W.codeIn K cd11 "joined" = true) (k11 : PySem.W.keepIn K (.ref f11) = true)
    {f12 : Addr} {od12 an12 : Option Addr} {sl12 : Array (Option Value)} {oc12 kV12 dc12 pm12 cd12 ct12 : Value}
    (a12 : PySem.W.nsIn K mainGlobals "shared" = some (some (.ref f12))) (l12 : K.lookup f12 = some ⟨oc12, od12, .func (PySem.W.fnOf "shared" "shared" (defArgs s_shared) (defBody s_shared) (defScope s_shared) .none kV12 dc12 pm12 an12 cd12 ct12), sl12⟩) (c12 : PySem.W.codeIn K cd12 "shared" = true) (k12 : PySem.W.keepIn K (.ref f12) = true)
    {f13 : Addr} {od13 an13 : Option Addr} {sl13 : Array (Option Value)} {oc13 kV13 dc13 pm13 cd13 ct13 : Value}
    (a13 : PySem.W.nsIn K mainGlobals "is_step" = some (some (.ref f13))) (l13 : K.lookup f13 = some ⟨oc13, od13, .func (PySem.W.fnOf "is_step" "is_step" (defArgs s_is_step) (defBody s_is_step) (defScope s_is_step) .none kV13 dc13 pm13 an13 cd13 ct13), sl13⟩) (c13 : PySem.W.codeIn K cd13 "is_step" = true) (k13 : PySem.W.keepIn K (.ref f13) = true)
    {f14 : Addr} {od14 an14 : Option Addr} {sl14 : Array (Option Value)} {oc14 kV14 dc14 pm14 cd14 ct14 : Value}
    (a14 : PySem.W.nsIn K mainGlobals "checked_script" = some (some (.ref f14))) (l14 : K.lookup f14 = some ⟨oc14, od14, .func (PySem.W.fnOf "checked_script" "checked_script" (defArgs s_checked_script) (defBody s_checked_script) (defScope s_checked_script) .none kV14 dc14 pm14 an14 cd14 ct14), sl14⟩) (c14 : PySem.W.codeIn K cd14 "checked_script" = true) (k14 : PySem.W.keepIn K (.ref f14) = true)
    {f15 : Addr} {od15 an15 : Option Addr} {sl15 : Array (Option Value)} {oc15 kV15 dc15 pm15 cd15 ct15 : Value}
    (a15 : PySem.W.nsIn K mainGlobals "written" = some (some (.ref f15))) (l15 : K.lookup f15 = some ⟨oc15, od15, .func (PySem.W.fnOf "written" "written" (defArgs s_written) (defBody s_written) (defScope s_written) .none kV15 dc15 pm15 an15 cd15 ct15), sl15⟩) (c15 : PySem.W.codeIn K cd15 "written" = true) (k15 : PySem.W.keepIn K (.ref f15) = true)
    {f16 : Addr} {od16 an16 : Option Addr} {sl16 : Array (Option Value)} {oc16 kV16 dc16 pm16 cd16 ct16 : Value}
    (a16 : PySem.W.nsIn K mainGlobals "pair_of" = some (some (.ref f16))) (l16 : K.lookup f16 = some ⟨oc16, od16, .func (PySem.W.fnOf "pair_of" "pair_of" (defArgs s_pair_of) (defBody s_pair_of) (defScope s_pair_of) .none kV16 dc16 pm16 an16 cd16 ct16), sl16⟩) (c16 : PySem.W.codeIn K cd16 "pair_of" = true) (k16 : PySem.W.keepIn K (.ref f16) = true)
    {f17 : Addr} {od17 an17 : Option Addr} {sl17 : Array (Option Value)} {oc17 kV17 dc17 pm17 cd17 ct17 : Value}
    (a17 : PySem.W.nsIn K mainGlobals "opposite" = some (some (.ref f17))) (l17 : K.lookup f17 = some ⟨oc17, od17, .func (PySem.W.fnOf "opposite" "opposite" (defArgs s_opposite) (defBody s_opposite) (defScope s_opposite) .none kV17 dc17 pm17 an17 cd17 ct17), sl17⟩) (c17 : PySem.W.codeIn K cd17 "opposite" = true) (k17 : PySem.W.keepIn K (.ref f17) = true)
    {f18 : Addr} {od18 an18 : Option Addr} {sl18 : Array (Option Value)} {oc18 kV18 dc18 pm18 cd18 ct18 : Value}
    (a18 : PySem.W.nsIn K mainGlobals "moved" = some (some (.ref f18))) (l18 : K.lookup f18 = some ⟨oc18, od18, .func (PySem.W.fnOf "moved" "moved" (defArgs s_moved) (defBody s_moved) (defScope s_moved) .none kV18 dc18 pm18 an18 cd18 ct18), sl18⟩) (c18 : PySem.W.codeIn K cd18 "moved" = true) (k18 : PySem.W.keepIn K (.ref f18) = true)
    {f19 : Addr} {od19 an19 : Option Addr} {sl19 : Array (Option Value)} {oc19 kV19 dc19 pm19 cd19 ct19 : Value}
    (a19 : PySem.W.nsIn K mainGlobals "check_move" = some (some (.ref f19))) (l19 : K.lookup f19 = some ⟨oc19, od19, .func (PySem.W.fnOf "check_move" "check_move" (defArgs s_check_move) (defBody s_check_move) (defScope s_check_move) .none kV19 dc19 pm19 an19 cd19 ct19), sl19⟩) (c19 : PySem.W.codeIn K cd19 "check_move" = true) (k19 : PySem.W.keepIn K (.ref f19) = true)
    {f20 : Addr} {od20 an20 : Option Addr} {sl20 : Array (Option Value)} {oc20 kV20 dc20 pm20 cd20 ct20 : Value}
    (a20 : PySem.W.nsIn K mainGlobals "left_beside" = some (some (.ref f20))) (l20 : K.lookup f20 = some ⟨oc20, od20, .func (PySem.W.fnOf "left_beside" "left_beside" (defArgs s_left_beside) (defBody s_left_beside) (defScope s_left_beside) .none kV20 dc20 pm20 an20 cd20 ct20), sl20⟩) (c20 : PySem.W.codeIn K cd20 "left_beside" = true) (k20 : PySem.W.keepIn K (.ref f20) = true)
    {f21 : Addr} {od21 an21 : Option Addr} {sl21 : Array (Option Value)} {oc21 kV21 dc21 pm21 cd21 ct21 : Value}
    (a21 : PySem.W.nsIn K mainGlobals "paired" = some (some (.ref f21))) (l21 : K.lookup f21 = some ⟨oc21, od21, .func (PySem.W.fnOf "paired" "paired" (defArgs s_paired) (defBody s_paired) (defScope s_paired) .none kV21 dc21 pm21 an21 cd21 ct21), sl21⟩) (c21 : PySem.W.codeIn K cd21 "paired" = true) (k21 : PySem.W.keepIn K (.ref f21) = true)
    {f22 : Addr} {od22 an22 : Option Addr} {sl22 : Array (Option Value)} {oc22 kV22 dc22 pm22 cd22 ct22 : Value}
    (a22 : PySem.W.nsIn K mainGlobals "widest" = some (some (.ref f22))) (l22 : K.lookup f22 = some ⟨oc22, od22, .func (PySem.W.fnOf "widest" "widest" (defArgs s_widest) (defBody s_widest) (defScope s_widest) .none kV22 dc22 pm22 an22 cd22 ct22), sl22⟩) (c22 : PySem.W.codeIn K cd22 "widest" = true) (k22 : PySem.W.keepIn K (.ref f22) = true)
    {f23 : Addr} {od23 an23 : Option Addr} {sl23 : Array (Option Value)} {oc23 kV23 dc23 pm23 cd23 ct23 : Value}
    (a23 : PySem.W.nsIn K mainGlobals "begun_off_arm" = some (some (.ref f23))) (l23 : K.lookup f23 = some ⟨oc23, od23, .func (PySem.W.fnOf "begun_off_arm" "begun_off_arm" (defArgs s_begun_off_arm) (defBody s_begun_off_arm) (defScope s_begun_off_arm) .none kV23 dc23 pm23 an23 cd23 ct23), sl23⟩) (c23 : PySem.W.codeIn K cd23 "begun_off_arm" = true) (k23 : PySem.W.keepIn K (.ref f23) = true)
    {f24 : Addr} {od24 an24 : Option Addr} {sl24 : Array (Option Value)} {oc24 kV24 dc24 pm24 cd24 ct24 : Value}
    (a24 : PySem.W.nsIn K mainGlobals "counts" = some (some (.ref f24))) (l24 : K.lookup f24 = some ⟨oc24, od24, .func (PySem.W.fnOf "counts" "counts" (defArgs s_counts) (defBody s_counts) (defScope s_counts) .none kV24 dc24 pm24 an24 cd24 ct24), sl24⟩) (c24 : PySem.W.codeIn K cd24 "counts" = true) (k24 : PySem.W.keepIn K (.ref f24) = true)
    {f25 : Addr} {od25 an25 : Option Addr} {sl25 : Array (Option Value)} {oc25 kV25 dc25 pm25 cd25 ct25 : Value}
    (a25 : PySem.W.nsIn K mainGlobals "arm_steps" = some (some (.ref f25))) (l25 : K.lookup f25 = some ⟨oc25, od25, .func (PySem.W.fnOf "arm_steps" "arm_steps" (defArgs s_arm_steps) (defBody s_arm_steps) (defScope s_arm_steps) .none kV25 dc25 pm25 an25 cd25 ct25), sl25⟩) (c25 : PySem.W.codeIn K cd25 "arm_steps" = true) (k25 : PySem.W.keepIn K (.ref f25) = true)
    {f26 : Addr} {od26 an26 : Option Addr} {sl26 : Array (Option Value)} {oc26 kV26 dc26 pm26 cd26 ct26 : Value}
    (a26 : PySem.W.nsIn K mainGlobals "arm_script" = some (some (.ref f26))) (l26 : K.lookup f26 = some ⟨oc26, od26, .func (PySem.W.fnOf "arm_script" "arm_script" (defArgs s_arm_script) (defBody s_arm_script) (defScope s_arm_script) .none kV26 dc26 pm26 an26 cd26 ct26), sl26⟩) (c26 : PySem.W.codeIn K cd26 "arm_script" = true) (k26 : PySem.W.keepIn K (.ref f26) = true)
    {f27 : Addr} {od27 an27 : Option Addr} {sl27 : Array (Option Value)} {oc27 kV27 dc27 pm27 cd27 ct27 : Value}
    (a27 : PySem.W.nsIn K mainGlobals "check_both" = some (some (.ref f27))) (l27 : K.lookup f27 = some ⟨oc27, od27, .func (PySem.W.fnOf "check_both" "check_both" (defArgs s_check_both) (defBody s_check_both) (defScope s_check_both) .none kV27 dc27 pm27 an27 cd27 ct27), sl27⟩) (c27 : PySem.W.codeIn K cd27 "check_both" = true) (k27 : PySem.W.keepIn K (.ref f27) = true)
    {f28 : Addr} {od28 an28 : Option Addr} {sl28 : Array (Option Value)} {oc28 kV28 dc28 pm28 cd28 ct28 : Value}
    (a28 : PySem.W.nsIn K mainGlobals "arm_way" = some (some (.ref f28))) (l28 : K.lookup f28 = some ⟨oc28, od28, .func (PySem.W.fnOf "arm_way" "arm_way" (defArgs s_arm_way) (defBody s_arm_way) (defScope s_arm_way) .none kV28 dc28 pm28 an28 cd28 ct28), sl28⟩) (c28 : PySem.W.codeIn K cd28 "arm_way" = true) (k28 : PySem.W.keepIn K (.ref f28) = true)
    {f29 : Addr} {od29 an29 : Option Addr} {sl29 : Array (Option Value)} {oc29 kV29 dc29 pm29 cd29 ct29 : Value}
    (a29 : PySem.W.nsIn K mainGlobals "_law_mixed" = some (some (.ref f29))) (l29 : K.lookup f29 = some ⟨oc29, od29, .func (PySem.W.fnOf "_law_mixed" "_law_mixed" (defArgs s_law_mixed) (defBody s_law_mixed) (defScope s_law_mixed) .none kV29 dc29 pm29 an29 cd29 ct29), sl29⟩) (c29 : PySem.W.codeIn K cd29 "_law_mixed" = true) (k29 : PySem.W.keepIn K (.ref f29) = true)
    {f30 : Addr} {od30 an30 : Option Addr} {sl30 : Array (Option Value)} {oc30 kV30 dc30 pm30 cd30 ct30 : Value}
    (a30 : PySem.W.nsIn K mainGlobals "_law_purse" = some (some (.ref f30))) (l30 : K.lookup f30 = some ⟨oc30, od30, .func (PySem.W.fnOf "_law_purse" "_law_purse" (defArgs s_law_purse) (defBody s_law_purse) (defScope s_law_purse) .none kV30 dc30 pm30 an30 cd30 ct30), sl30⟩) (c30 : PySem.W.codeIn K cd30 "_law_purse" = true) (k30 : PySem.W.keepIn K (.ref f30) = true)
    {f31 : Addr} {od31 an31 : Option Addr} {sl31 : Array (Option Value)} {oc31 kV31 dc31 pm31 cd31 ct31 : Value}
    (a31 : PySem.W.nsIn K mainGlobals "_law_draw" = some (some (.ref f31))) (l31 : K.lookup f31 = some ⟨oc31, od31, .func (PySem.W.fnOf "_law_draw" "_law_draw" (defArgs s_law_draw) (defBody s_law_draw) (defScope s_law_draw) .none kV31 dc31 pm31 an31 cd31 ct31), sl31⟩) (c31 : PySem.W.codeIn K cd31 "_law_draw" = true) (k31 : PySem.W.keepIn K (.ref f31) = true)
    {f32 : Addr} {od32 an32 : Option Addr} {sl32 : Array (Option Value)} {oc32 kV32 dc32 pm32 cd32 ct32 : Value}
    (a32 : PySem.W.nsIn K mainGlobals "_law_nest" = some (some (.ref f32))) (l32 : K.lookup f32 = some ⟨oc32, od32, .func (PySem.W.fnOf "_law_nest" "_law_nest" (defArgs s_law_nest) (defBody s_law_nest) (defScope s_law_nest) .none kV32 dc32 pm32 an32 cd32 ct32), sl32⟩) (c32 : PySem.W.codeIn K cd32 "_law_nest" = true) (k32 : PySem.W.keepIn K (.ref f32) = true)
    {f33 : Addr} {od33 an33 : Option Addr} {sl33 : Array (Option Value)} {oc33 kV33 dc33 pm33 cd33 ct33 : Value}
    (a33 : PySem.W.nsIn K mainGlobals "_law_text" = some (some (.ref f33))) (l33 : K.lookup f33 = some ⟨oc33, od33, .func (PySem.W.fnOf "_law_text" "_law_text" (defArgs s_law_text) (defBody s_law_text) (defScope s_law_text) .none kV33 dc33 pm33 an33 cd33 ct33), sl33⟩) (c33 : PySem.W.codeIn K cd33 "_law_text" = true) (k33 : PySem.W.keepIn K (.ref f33) = true)
    {f34 : Addr} {od34 an34 : Option Addr} {sl34 : Array (Option Value)} {oc34 kV34 dc34 pm34 cd34 ct34 : Value}
    (a34 : PySem.W.nsIn K mainGlobals "_law_width" = some (some (.ref f34))) (l34 : K.lookup f34 = some ⟨oc34, od34, .func (PySem.W.fnOf "_law_width" "_law_width" (defArgs s_law_width) (defBody s_law_width) (defScope s_law_width) .none kV34 dc34 pm34 an34 cd34 ct34), sl34⟩) (c34 : PySem.W.codeIn K cd34 "_law_width" = true) (k34 : PySem.W.keepIn K (.ref f34) = true)
    {f35 : Addr} {od35 an35 : Option Addr} {sl35 : Array (Option Value)} {oc35 kV35 dc35 pm35 cd35 ct35 : Value}
    (a35 : PySem.W.nsIn K mainGlobals "_law_spins" = some (some (.ref f35))) (l35 : K.lookup f35 = some ⟨oc35, od35, .func (PySem.W.fnOf "_law_spins" "_law_spins" (defArgs s_law_spins) (defBody s_law_spins) (defScope s_law_spins) .none kV35 dc35 pm35 an35 cd35 ct35), sl35⟩) (c35 : PySem.W.codeIn K cd35 "_law_spins" = true) (k35 : PySem.W.keepIn K (.ref f35) = true)
    {f36 : Addr} {od36 an36 : Option Addr} {sl36 : Array (Option Value)} {oc36 kV36 dc36 pm36 cd36 ct36 : Value}
    (a36 : PySem.W.nsIn K mainGlobals "_law_off" = some (some (.ref f36))) (l36 : K.lookup f36 = some ⟨oc36, od36, .func (PySem.W.fnOf "_law_off" "_law_off" (defArgs s_law_off) (defBody s_law_off) (defScope s_law_off) .none kV36 dc36 pm36 an36 cd36 ct36), sl36⟩) (c36 : PySem.W.codeIn K cd36 "_law_off" = true) (k36 : PySem.W.keepIn K (.ref f36) = true)
    {f37 : Addr} {od37 an37 : Option Addr} {sl37 : Array (Option Value)} {oc37 kV37 dc37 pm37 cd37 ct37 : Value}
    (a37 : PySem.W.nsIn K mainGlobals "_law_twins" = some (some (.ref f37))) (l37 : K.lookup f37 = some ⟨oc37, od37, .func (PySem.W.fnOf "_law_twins" "_law_twins" (defArgs s_law_twins) (defBody s_law_twins) (defScope s_law_twins) .none kV37 dc37 pm37 an37 cd37 ct37), sl37⟩) (c37 : PySem.W.codeIn K cd37 "_law_twins" = true) (k37 : PySem.W.keepIn K (.ref f37) = true)
    {f38 : Addr} {od38 an38 : Option Addr} {sl38 : Array (Option Value)} {oc38 kV38 dc38 pm38 cd38 ct38 : Value}
    (a38 : PySem.W.nsIn K mainGlobals "_law_cut" = some (some (.ref f38))) (l38 : K.lookup f38 = some ⟨oc38, od38, .func (PySem.W.fnOf "_law_cut" "_law_cut" (defArgs s_law_cut) (defBody s_law_cut) (defScope s_law_cut) .none kV38 dc38 pm38 an38 cd38 ct38), sl38⟩) (c38 : PySem.W.codeIn K cd38 "_law_cut" = true) (k38 : PySem.W.keepIn K (.ref f38) = true)
    {f39 : Addr} {od39 an39 : Option Addr} {sl39 : Array (Option Value)} {oc39 kV39 dc39 pm39 cd39 ct39 : Value}
    (a39 : PySem.W.nsIn K mainGlobals "_law_least" = some (some (.ref f39))) (l39 : K.lookup f39 = some ⟨oc39, od39, .func (PySem.W.fnOf "_law_least" "_law_least" (defArgs s_law_least) (defBody s_law_least) (defScope s_law_least) .none kV39 dc39 pm39 an39 cd39 ct39), sl39⟩) (c39 : PySem.W.codeIn K cd39 "_law_least" = true) (k39 : PySem.W.keepIn K (.ref f39) = true)
    {f40 : Addr} {od40 an40 : Option Addr} {sl40 : Array (Option Value)} {oc40 kV40 dc40 pm40 cd40 ct40 : Value}
    (a40 : PySem.W.nsIn K mainGlobals "_law_led" = some (some (.ref f40))) (l40 : K.lookup f40 = some ⟨oc40, od40, .func (PySem.W.fnOf "_law_led" "_law_led" (defArgs s_law_led) (defBody s_law_led) (defScope s_law_led) .none kV40 dc40 pm40 an40 cd40 ct40), sl40⟩) (c40 : PySem.W.codeIn K cd40 "_law_led" = true) (k40 : PySem.W.keepIn K (.ref f40) = true)
    {f41 : Addr} {od41 an41 : Option Addr} {sl41 : Array (Option Value)} {oc41 kV41 dc41 pm41 cd41 ct41 : Value}
    (a41 : PySem.W.nsIn K mainGlobals "_law_arm" = some (some (.ref f41))) (l41 : K.lookup f41 = some ⟨oc41, od41, .func (PySem.W.fnOf "_law_arm" "_law_arm" (defArgs s_law_arm) (defBody s_law_arm) (defScope s_law_arm) .none kV41 dc41 pm41 an41 cd41 ct41), sl41⟩) (c41 : PySem.W.codeIn K cd41 "_law_arm" = true) (k41 : PySem.W.keepIn K (.ref f41) = true)
    {f42 : Addr} {od42 an42 : Option Addr} {sl42 : Array (Option Value)} {oc42 kV42 dc42 pm42 cd42 ct42 : Value}
    (a42 : PySem.W.nsIn K mainGlobals "law" = some (some (.ref f42))) (l42 : K.lookup f42 = some ⟨oc42, od42, .func (PySem.W.fnOf "law" "law" (defArgs s_law) (defBody s_law) (defScope s_law) .none kV42 dc42 pm42 an42 cd42 ct42), sl42⟩) (c42 : PySem.W.codeIn K cd42 "law" = true) (k42 : PySem.W.keepIn K (.ref f42) = true)
    (z_isinstance : PySem.W.nsIn K mainGlobals "isinstance" = some none)
    (z_str : PySem.W.nsIn K mainGlobals "str" = some none)
    (z_len : PySem.W.nsIn K mainGlobals "len" = some none)
    (z_list : PySem.W.nsIn K mainGlobals "list" = some none)
    (z_int : PySem.W.nsIn K mainGlobals "int" = some none)
    (z_max : PySem.W.nsIn K mainGlobals "max" = some none)
    (z_range : PySem.W.nsIn K mainGlobals "range" = some none)
    (z_tuple : PySem.W.nsIn K mainGlobals "tuple" = some none)
    (z_all : PySem.W.nsIn K mainGlobals "all" = some none)
    (z_enumerate : PySem.W.nsIn K mainGlobals "enumerate" = some none)
    (z_zip : PySem.W.nsIn K mainGlobals "zip" = some none)
    (z_repr : PySem.W.nsIn K mainGlobals "repr" = some none)
    (z_bool : PySem.W.nsIn K mainGlobals "bool" = some none)
    (z_sum : PySem.W.nsIn K mainGlobals "sum" = some none)
    : ∃ fd : FuncData, (∀ (s : Shared) (v : Value), BindsTo s fd ⟨[v], []⟩ [("_law_script", v)]) ∧ ∀ base : Heap, K.In base → base.Ns mainGlobals mg → FnDG l.prog w K mg base CX0 206 100 fa fd ["_law_script"] (sp_law K) := by
  have e := hfa.symm.trans (PySem.W.mg_of X G a42)
  cases e
  obtain ⟨e_TurnError, x_TurnError⟩ := cls_mk l_TurnError rfl ga_TurnError gg_TurnError ha_TurnError hn ht
  obtain ⟨e_InvalidTree, x_InvalidTree⟩ := cls_mk l_InvalidTree rfl ga_InvalidTree gg_InvalidTree ha_InvalidTree hn ht
  have o_InvalidTree := own_InvalidTree X G m_InvalidTree (oex_mk l_InvalidTree rfl sa_InvalidTree kC_InvalidTree e_InvalidTree) no_InvalidTree iC_InvalidTree (fty lf_InvalidTree) (fund_mk lf_InvalidTree cf_InvalidTree lT_InvalidTree)
  obtain ⟨e_InvalidList, x_InvalidList⟩ := cls_mk l_InvalidList rfl ga_InvalidList gg_InvalidList ha_InvalidList hn ht
  have o_InvalidList := own_InvalidList X G m_InvalidList (oex_mk l_InvalidList rfl sa_InvalidList kC_InvalidList e_InvalidList) no_InvalidList iC_InvalidList (fty lf_InvalidList) (fund_mk lf_InvalidList cf_InvalidList lT_InvalidList)
  obtain ⟨e_InvalidScript, x_InvalidScript⟩ := cls_mk l_InvalidScript rfl ga_InvalidScript gg_InvalidScript ha_InvalidScript hn ht
  have o_InvalidScript := own_InvalidScript X G m_InvalidScript (oex_mk l_InvalidScript rfl sa_InvalidScript kC_InvalidScript e_InvalidScript) no_InvalidScript iC_InvalidScript (fty lf_InvalidScript) (fund_mk lf_InvalidScript cf_InvalidScript lT_InvalidScript)
  obtain ⟨e_InvalidMove, x_InvalidMove⟩ := cls_mk l_InvalidMove rfl ga_InvalidMove gg_InvalidMove ha_InvalidMove hn ht
  have o_InvalidMove := own_InvalidMove X G m_InvalidMove (oex_mk l_InvalidMove rfl sa_InvalidMove kC_InvalidMove e_InvalidMove) no_InvalidMove iC_InvalidMove (fty lf_InvalidMove) (fund_mk lf_InvalidMove cf_InvalidMove lT_InvalidMove)
  obtain ⟨e_CannotMove, x_CannotMove⟩ := cls_mk l_CannotMove rfl ga_CannotMove gg_CannotMove ha_CannotMove hn ht
  have o_CannotMove := own_CannotMove X G m_CannotMove (oex_mk l_CannotMove rfl sa_CannotMove kC_CannotMove e_CannotMove) no_CannotMove iC_CannotMove (fty lf_CannotMove) (fund_mk lf_CannotMove cf_CannotMove lT_CannotMove)
  have F_Growth___init__ := fun_mk (st := s_Growth___init__) l_Growth___init__ c_Growth___init__ k_Growth___init__
  have b_Growth___init__ := F_Growth___init__.binds (ps := ["self"]) fun _ _ _ _ _ _ us hl => match us, hl with | [_], _ => rfl
  have F_Growth_unfold := fun_mk (st := s_Growth_unfold) l_Growth_unfold c_Growth_unfold k_Growth_unfold
  have b_Growth_unfold := F_Growth_unfold.binds (ps := ["self", "number"]) fun _ _ _ _ _ _ us hl => match us, hl with | [_, _], _ => rfl
  have F_Growth_sides := fun_mk (st := s_Growth_sides) l_Growth_sides c_Growth_sides k_Growth_sides
  have b_Growth_sides := F_Growth_sides.binds (ps := ["self", "number"]) fun _ _ _ _ _ _ us hl => match us, hl with | [_, _], _ => rfl
  have F_Growth_turn := fun_mk (st := s_Growth_turn) l_Growth_turn c_Growth_turn k_Growth_turn
  have b_Growth_turn := F_Growth_turn.binds (ps := ["self", "word", "address"]) fun _ _ _ _ _ _ us hl => match us, hl with | [_, _, _], _ => rfl
  have F_Move___init__ := fun_mk (st := s_Move___init__) l_Move___init__ c_Move___init__ k_Move___init__
  have b_Move___init__ := F_Move___init__.binds (ps := ["self", "before", "after"]) fun _ _ _ _ _ _ us hl => match us, hl with | [_, _, _], _ => rfl
  have F_Move_of := fun_mk (st := s_Move_of) l_Move_of c_Move_of k_Move_of
  have b_Move_of := F_Move_of.binds (ps := ["steps"]) fun _ _ _ _ _ _ us hl => match us, hl with | [_], _ => rfl
  have F_Move_before := fun_mk (st := s_Move_before) l_Move_before c_Move_before k_Move_before
  have b_Move_before := F_Move_before.binds (ps := ["self"]) fun _ _ _ _ _ _ us hl => match us, hl with | [_], _ => rfl
  have F_Move_after := fun_mk (st := s_Move_after) l_Move_after c_Move_after k_Move_after
  have b_Move_after := F_Move_after.binds (ps := ["self"]) fun _ _ _ _ _ _ us hl => match us, hl with | [_], _ => rfl
  have F_Move___call__ := fun_mk (st := s_Move___call__) l_Move___call__ c_Move___call__ k_Move___call__
  have b_Move___call__ := F_Move___call__.binds (ps := ["self", "tree"]) fun _ _ _ _ _ _ us hl => match us, hl with | [_, _], _ => rfl
  have F_Move_can := fun_mk (st := s_Move_can) l_Move_can c_Move_can k_Move_can
  have b_Move_can := F_Move_can.binds (ps := ["self", "tree"]) fun _ _ _ _ _ _ us hl => match us, hl with | [_, _], _ => rfl
  have F_Move___eq__ := fun_mk (st := s_Move___eq__) l_Move___eq__ c_Move___eq__ k_Move___eq__
  have b_Move___eq__ := F_Move___eq__.binds (ps := ["self", "other"]) fun _ _ _ _ _ _ us hl => match us, hl with | [_, _], _ => rfl
  have F_Move___repr__ := fun_mk (st := s_Move___repr__) l_Move___repr__ c_Move___repr__ k_Move___repr__
  have b_Move___repr__ := F_Move___repr__.binds (ps := ["self"]) fun _ _ _ _ _ _ us hl => match us, hl with | [_], _ => rfl
  have F_Move___mul__ := fun_mk (st := s_Move___mul__) l_Move___mul__ c_Move___mul__ k_Move___mul__
  have b_Move___mul__ := F_Move___mul__.binds (ps := ["self", "other"]) fun _ _ _ _ _ _ us hl => match us, hl with | [_, _], _ => rfl
  have F_Move___invert__ := fun_mk (st := s_Move___invert__) l_Move___invert__ c_Move___invert__ k_Move___invert__
  have b_Move___invert__ := F_Move___invert__.binds (ps := ["self"]) fun _ _ _ _ _ _ us hl => match us, hl with | [_], _ => rfl
  have F_Move___le__ := fun_mk (st := s_Move___le__) l_Move___le__ c_Move___le__ k_Move___le__
  have b_Move___le__ := F_Move___le__.binds (ps := ["self", "other"]) fun _ _ _ _ _ _ us hl => match us, hl with | [_, _], _ => rfl
  have F_Move___lt__ := fun_mk (st := s_Move___lt__) l_Move___lt__ c_Move___lt__ k_Move___lt__
  have b_Move___lt__ := F_Move___lt__.binds (ps := ["self", "other"]) fun _ _ _ _ _ _ us hl => match us, hl with | [_, _], _ => rfl
  have F_Move___ge__ := fun_mk (st := s_Move___ge__) l_Move___ge__ c_Move___ge__ k_Move___ge__
  have b_Move___ge__ := F_Move___ge__.binds (ps := ["self", "other"]) fun _ _ _ _ _ _ us hl => match us, hl with | [_, _], _ => rfl
  have F_Move___gt__ := fun_mk (st := s_Move___gt__) l_Move___gt__ c_Move___gt__ k_Move___gt__
  have b_Move___gt__ := F_Move___gt__.binds (ps := ["self", "other"]) fun _ _ _ _ _ _ us hl => match us, hl with | [_, _], _ => rfl
  have F0 := fun_mk (st := s_is_tree) l0 c0 k0
  have b0 := F0.binds (ps := ["value"]) fun _ _ _ _ _ _ us hl => match us, hl with | [_], _ => rfl
  have F1 := fun_mk (st := s_is_address) l1 c1 k1
  have b1 := F1.binds (ps := ["value"]) fun _ _ _ _ _ _ us hl => match us, hl with | [_], _ => rfl
  have F2 := fun_mk (st := s_check_tree) l2 c2 k2
  have b2 := F2.binds (ps := ["value"]) fun _ _ _ _ _ _ us hl => match us, hl with | [_], _ => rfl
  have F3 := fun_mk (st := s_size) l3 c3 k3
  have b3 := F3.binds (ps := ["tree"]) fun _ _ _ _ _ _ us hl => match us, hl with | [_], _ => rfl
  have F4 := fun_mk (st := s_ends) l4 c4 k4
  have b4 := F4.binds (ps := ["tree"]) fun _ _ _ _ _ _ us hl => match us, hl with | [_], _ => rfl
  have F5 := fun_mk (st := s_addressed) l5 c5 k5
  have b5 := F5.binds (ps := ["tree"]) fun _ _ _ _ _ _ us hl => match us, hl with | [_], _ => rfl
  have F6 := fun_mk (st := s_leaves) l6 c6 k6
  have b6 := F6.binds (ps := ["tree"]) fun _ _ _ _ _ _ us hl => match us, hl with | [_], _ => rfl
  have F7 := fun_mk (st := s_from_leaves) l7 c7 k7
  have b7 := F7.binds (ps := ["addresses"]) fun _ _ _ _ _ _ us hl => match us, hl with | [_], _ => rfl
  have F8 := fun_mk (st := s_check_hung) l8 c8 k8
  have b8 := F8.binds (ps := ["tree", "trees"]) fun _ _ _ _ _ _ us hl => match us, hl with | [_, _], _ => rfl
  have F9 := fun_mk (st := s_grown) l9 c9 k9
  have b9 := F9.binds (ps := ["tree", "hung"]) fun _ _ _ _ _ _ us hl => match us, hl with | [_, _], _ => rfl
  have F10 := fun_mk (st := s_hung) l10 c10 k10
  have b10 := F10.binds (ps := ["tree", "top"]) fun _ _ _ _ _ _ us hl => match us, hl with | [_, _], _ => rfl
  have F11 := fun_mk (st := s_joined) l11 c11 k11
  have b11 := F11.binds (ps := ["one", "other"]) fun _ _ _ _ _ _ us hl => match us, hl with | [_, _], _ => rfl
  have F12 := fun_mk (st := s_shared) l12 c12 k12
  have b12 := F12.binds (ps := ["one", "other"]) fun _ _ _ _ _ _ us hl => match us, hl with | [_, _], _ => rfl
  have F13 := fun_mk (st := s_is_step) l13 c13 k13
  have b13 := F13.binds (ps := ["value"]) fun _ _ _ _ _ _ us hl => match us, hl with | [_], _ => rfl
  have F14 := fun_mk (st := s_checked_script) l14 c14 k14
  have b14 := F14.binds (ps := ["steps"]) fun _ _ _ _ _ _ us hl => match us, hl with | [_], _ => rfl
  have F15 := fun_mk (st := s_written) l15 c15 k15
  have b15 := F15.binds (ps := ["pairs"]) fun _ _ _ _ _ _ us hl => match us, hl with | [_], _ => rfl
  have F16 := fun_mk (st := s_pair_of) l16 c16 k16
  have b16 := F16.binds (ps := ["steps"]) fun _ _ _ _ _ _ us hl => match us, hl with | [_], _ => rfl
  have F17 := fun_mk (st := s_opposite) l17 c17 k17
  have b17 := F17.binds (ps := ["steps"]) fun _ _ _ _ _ _ us hl => match us, hl with | [_], _ => rfl
  have F18 := fun_mk (st := s_moved) l18 c18 k18
  have b18 := F18.binds (ps := ["tree", "before", "after"]) fun _ _ _ _ _ _ us hl => match us, hl with | [_, _, _], _ => rfl
  have F19 := fun_mk (st := s_check_move) l19 c19 k19
  have b19 := F19.binds (ps := ["value"]) fun _ _ _ _ _ _ us hl => match us, hl with | [_], _ => rfl
  have F20 := fun_mk (st := s_left_beside) l20 c20 k20
  have b20 := F20.binds (ps := ["address"]) fun _ _ _ _ _ _ us hl => match us, hl with | [_], _ => rfl
  have F21 := fun_mk (st := s_paired) l21 c21 k21
  have b21 := F21.binds (ps := ["move"]) fun _ _ _ _ _ _ us hl => match us, hl with | [_], _ => rfl
  have F22 := fun_mk (st := s_widest) l22 c22 k22
  have b22 := F22.binds (ps := ["move"]) fun _ _ _ _ _ _ us hl => match us, hl with | [_], _ => rfl
  have F23 := fun_mk (st := s_begun_off_arm) l23 c23 k23
  have b23 := F23.binds (ps := ["address"]) fun _ _ _ _ _ _ us hl => match us, hl with | [_], _ => rfl
  have F24 := fun_mk (st := s_counts) l24 c24 k24
  have b24 := F24.binds (ps := ["tree"]) fun _ _ _ _ _ _ us hl => match us, hl with | [_], _ => rfl
  have F25 := fun_mk (st := s_arm_steps) l25 c25 k25
  have b25 := F25.binds (ps := ["numbers"]) fun _ _ _ _ _ _ us hl => match us, hl with | [_], _ => rfl
  have F26 := fun_mk (st := s_arm_script) l26 c26 k26
  have b26 := F26.binds (ps := ["move"]) fun _ _ _ _ _ _ us hl => match us, hl with | [_], _ => rfl
  have F27 := fun_mk (st := s_check_both) l27 c27 k27
  have b27 := F27.binds (ps := ["one", "other"]) fun _ _ _ _ _ _ us hl => match us, hl with | [_, _], _ => rfl
  have F28 := fun_mk (st := s_arm_way) l28 c28 k28
  have b28 := F28.binds (ps := ["one", "other"]) fun _ _ _ _ _ _ us hl => match us, hl with | [_, _], _ => rfl
  have F29 := fun_mk (st := s_law_mixed) l29 c29 k29
  have b29 := F29.binds (ps := ["_law_cell", "_law_k"]) fun _ _ _ _ _ _ us hl => match us, hl with | [_, _], _ => rfl
  have F30 := fun_mk (st := s_law_purse) l30 c30 k30
  have b30 := F30.binds (ps := ["_law_script", "_law_at"]) fun _ _ _ _ _ _ us hl => match us, hl with | [_, _], _ => rfl
  have F31 := fun_mk (st := s_law_draw) l31 c31 k31
  have b31 := F31.binds (ps := ["_law_purse_here", "_law_out_of"]) fun _ _ _ _ _ _ us hl => match us, hl with | [_, _], _ => rfl
  have F32 := fun_mk (st := s_law_nest) l32 c32 k32
  have b32 := F32.binds (ps := ["_law_purse_here", "_law_count"]) fun _ _ _ _ _ _ us hl => match us, hl with | [_, _], _ => rfl
  have F33 := fun_mk (st := s_law_text) l33 c33 k33
  have b33 := F33.binds (ps := ["_law_nest_here"]) fun _ _ _ _ _ _ us hl => match us, hl with | [_], _ => rfl
  have F34 := fun_mk (st := s_law_width) l34 c34 k34
  have b34 := F34.binds (ps := ["_law_nest_here"]) fun _ _ _ _ _ _ us hl => match us, hl with | [_], _ => rfl
  have F35 := fun_mk (st := s_law_spins) l35 c35 k35
  have b35 := F35.binds (ps := ["_law_nest_here", "_law_address"]) fun _ _ _ _ _ _ us hl => match us, hl with | [_, _], _ => rfl
  have F36 := fun_mk (st := s_law_off) l36 c36 k36
  have b36 := F36.binds (ps := ["_law_nest_here", "_law_on"]) fun _ _ _ _ _ _ us hl => match us, hl with | [_, _], _ => rfl
  have F37 := fun_mk (st := s_law_twins) l37 c37 k37
  have b37 := F37.binds (ps := ["_law_nest_here", "_law_start"]) fun _ _ _ _ _ _ us hl => match us, hl with | [_, _], _ => rfl
  have F38 := fun_mk (st := s_law_cut) l38 c38 k38
  have b38 := F38.binds (ps := ["_law_nest_here", "_law_start", "_law_found"]) fun _ _ _ _ _ _ us hl => match us, hl with | [_, _, _], _ => rfl
  have F39 := fun_mk (st := s_law_least) l39 c39 k39
  have b39 := F39.binds (ps := ["_law_one", "_law_other"]) fun _ _ _ _ _ _ us hl => match us, hl with | [_, _], _ => rfl
  have F40 := fun_mk (st := s_law_led) l40 c40 k40
  have b40 := F40.binds (ps := ["_law_nest_here", "_law_script"]) fun _ _ _ _ _ _ us hl => match us, hl with | [_, _], _ => rfl
  have F41 := fun_mk (st := s_law_arm) l41 c41 k41
  have b41 := F41.binds (ps := ["_law_nest_here"]) fun _ _ _ _ _ _ us hl => match us, hl with | [_], _ => rfl
  have F42 := fun_mk (st := s_law) l42 c42 k42
  have b42 := F42.binds (ps := ["_law_script"]) fun _ _ _ _ _ _ us hl => match us, hl with | [_], _ => rfl
  refine ⟨PySem.W.fnOf "law" "law" (defArgs s_law) (defBody s_law) (defScope s_law) .none kV42 dc42 pm42 an42 cd42 ct42, fun s v => .of_eq rfl, fun base _ _ => ?_⟩
  exact ok_law { c_TurnError := _, g_TurnError := PySem.W.mg_of X G m_TurnError, e_TurnError := e_TurnError, c_InvalidTree := _, g_InvalidTree := PySem.W.mg_of X G m_InvalidTree, e_InvalidTree := e_InvalidTree, o_InvalidTree := o_InvalidTree, x_InvalidTree := x_InvalidTree, n_InvalidTree := no_InvalidTree, c_InvalidList := _, g_InvalidList := PySem.W.mg_of X G m_InvalidList, e_InvalidList := e_InvalidList, o_InvalidList := o_InvalidList, x_InvalidList := x_InvalidList, n_InvalidList := no_InvalidList, c_InvalidScript := _, g_InvalidScript := PySem.W.mg_of X G m_InvalidScript, e_InvalidScript := e_InvalidScript, o_InvalidScript := o_InvalidScript, x_InvalidScript := x_InvalidScript, n_InvalidScript := no_InvalidScript, c_InvalidMove := _, g_InvalidMove := PySem.W.mg_of X G m_InvalidMove, e_InvalidMove := e_InvalidMove, o_InvalidMove := o_InvalidMove, x_InvalidMove := x_InvalidMove, n_InvalidMove := no_InvalidMove, c_CannotMove := _, g_CannotMove := PySem.W.mg_of X G m_CannotMove, e_CannotMove := e_CannotMove, o_CannotMove := o_CannotMove, x_CannotMove := x_CannotMove, n_CannotMove := no_CannotMove, nd := nd, d_OTHER_WORD := D_OTHER_WORD, m_OTHER_WORD := PySem.W.mg_of X G m_OTHER_WORD, k_OTHER_WORD := TD.kd_mk2 l_OTHER_WORD e1_OTHER_WORD e2_OTHER_WORD lo_OTHER_WORD, a_Growth___init__ := _, fd_Growth___init__ := _, F_Growth___init__ := F_Growth___init__, b_Growth___init__ := b_Growth___init__, k_Growth := ⟨mk_Growth, at_Growth___init__, is_Growth___init__, kc_Growth⟩, a_Growth_unfold := _, fd_Growth_unfold := _, F_Growth_unfold := F_Growth_unfold, b_Growth_unfold := b_Growth_unfold, t_Growth_unfold := ⟨at_Growth_unfold, is_Growth_unfold, k_Growth_unfold⟩, a_Growth_sides := _, fd_Growth_sides := _, F_Growth_sides := F_Growth_sides, b_Growth_sides := b_Growth_sides, t_Growth_sides := ⟨at_Growth_sides, is_Growth_sides, k_Growth_sides⟩, a_Growth_turn := _, fd_Growth_turn := _, F_Growth_turn := F_Growth_turn, b_Growth_turn := b_Growth_turn, t_Growth_turn := ⟨at_Growth_turn, is_Growth_turn, k_Growth_turn⟩, a_Move___init__ := _, fd_Move___init__ := _, F_Move___init__ := F_Move___init__, b_Move___init__ := b_Move___init__, k_Move := ⟨mk_Move, at_Move___init__, is_Move___init__, kc_Move⟩, a_Move_of := _, fd_Move_of := _, F_Move_of := F_Move_of, b_Move_of := b_Move_of, pa_Move_of := _, s_Move_of := ⟨at_Move_of, ⟨_, pr_Move_of⟩, k_Move_of⟩, a_Move_before := _, fd_Move_before := _, F_Move_before := F_Move_before, b_Move_before := b_Move_before, pa_Move_before := _, p_Move_before := ⟨at_Move_before, pg_Move_before, pt_Move_before, ⟨_, pr_Move_before⟩⟩, a_Move_after := _, fd_Move_after := _, F_Move_after := F_Move_after, b_Move_after := b_Move_after, pa_Move_after := _, p_Move_after := ⟨at_Move_after, pg_Move_after, pt_Move_after, ⟨_, pr_Move_after⟩⟩, a_Move___call__ := _, fd_Move___call__ := _, F_Move___call__ := F_Move___call__, b_Move___call__ := b_Move___call__, q_Move := ⟨at_Move___call__, is_Move___call__, fi_Move___call__⟩, a_Move_can := _, fd_Move_can := _, F_Move_can := F_Move_can, b_Move_can := b_Move_can, t_Move_can := ⟨at_Move_can, is_Move_can, k_Move_can⟩, a_Move___eq__ := _, fd_Move___eq__ := _, F_Move___eq__ := F_Move___eq__, b_Move___eq__ := b_Move___eq__, o_Move___eq__ := ⟨at_Move___eq__, is_Move___eq__⟩, a_Move___repr__ := _, fd_Move___repr__ := _, F_Move___repr__ := F_Move___repr__, b_Move___repr__ := b_Move___repr__, o_Move___repr__ := ⟨at_Move___repr__, is_Move___repr__⟩, a_Move___mul__ := _, fd_Move___mul__ := _, F_Move___mul__ := F_Move___mul__, b_Move___mul__ := b_Move___mul__, o_Move___mul__ := ⟨at_Move___mul__, is_Move___mul__⟩, a_Move___invert__ := _, fd_Move___invert__ := _, F_Move___invert__ := F_Move___invert__, b_Move___invert__ := b_Move___invert__, o_Move___invert__ := ⟨at_Move___invert__, is_Move___invert__⟩, a_Move___le__ := _, fd_Move___le__ := _, F_Move___le__ := F_Move___le__, b_Move___le__ := b_Move___le__, o_Move___le__ := ⟨at_Move___le__, is_Move___le__⟩, a_Move___lt__ := _, fd_Move___lt__ := _, F_Move___lt__ := F_Move___lt__, b_Move___lt__ := b_Move___lt__, o_Move___lt__ := ⟨at_Move___lt__, is_Move___lt__⟩, a_Move___ge__ := _, fd_Move___ge__ := _, F_Move___ge__ := F_Move___ge__, b_Move___ge__ := b_Move___ge__, o_Move___ge__ := ⟨at_Move___ge__, is_Move___ge__⟩, a_Move___gt__ := _, fd_Move___gt__ := _, F_Move___gt__ := F_Move___gt__, b_Move___gt__ := b_Move___gt__, o_Move___gt__ := ⟨at_Move___gt__, is_Move___gt__⟩, c_Growth := C_Growth, g_Growth := PySem.W.mg_of X G m_Growth, l_Growth := ⟨pg_Growth, hd_Growth, po_Growth, sa_Growth⟩, n_Growth_origin := na_Growth_origin, n_Growth_current := na_Growth_current, n_Growth_many := na_Growth_many, c_Move := C_Move, g_Move := PySem.W.mg_of X G m_Move, l_Move := ⟨pg_Move, hd_Move, po_Move, sa_Move⟩, mc_Move := mc_Move, r_Move := ⟨rd_Move, ga_Move⟩, sf_Move := sf_Move, ne_Move := ⟨ob_Move, nx_Move⟩, y_Move := ⟨ha_Move, hn, ht, ob_Move⟩, n_Move__before := na_Move__before, n_Move__after := na_Move__after, a_is_tree := _, fd_is_tree := _, F_is_tree := F0, b_is_tree := b0, m_is_tree := PySem.W.mg_of X G a0, a_is_address := _, fd_is_address := _, F_is_address := F1, b_is_address := b1, m_is_address := PySem.W.mg_of X G a1, a_check_tree := _, fd_check_tree := _, F_check_tree := F2, b_check_tree := b2, m_check_tree := PySem.W.mg_of X G a2, a_size := _, fd_size := _, F_size := F3, b_size := b3, m_size := PySem.W.mg_of X G a3, a_ends := _, fd_ends := _, F_ends := F4, b_ends := b4, m_ends := PySem.W.mg_of X G a4, a_addressed := _, fd_addressed := _, F_addressed := F5, b_addressed := b5, m_addressed := PySem.W.mg_of X G a5, a_leaves := _, fd_leaves := _, F_leaves := F6, b_leaves := b6, m_leaves := PySem.W.mg_of X G a6, a_from_leaves := _, fd_from_leaves := _, F_from_leaves := F7, b_from_leaves := b7, m_from_leaves := PySem.W.mg_of X G a7, a_check_hung := _, fd_check_hung := _, F_check_hung := F8, b_check_hung := b8, m_check_hung := PySem.W.mg_of X G a8, a_grown := _, fd_grown := _, F_grown := F9, b_grown := b9, m_grown := PySem.W.mg_of X G a9, a_hung := _, fd_hung := _, F_hung := F10, b_hung := b10, m_hung := PySem.W.mg_of X G a10, a_joined := _, fd_joined := _, F_joined := F11, b_joined := b11, m_joined := PySem.W.mg_of X G a11, a_shared := _, fd_shared := _, F_shared := F12, b_shared := b12, m_shared := PySem.W.mg_of X G a12, a_is_step := _, fd_is_step := _, F_is_step := F13, b_is_step := b13, m_is_step := PySem.W.mg_of X G a13, a_checked_script := _, fd_checked_script := _, F_checked_script := F14, b_checked_script := b14, m_checked_script := PySem.W.mg_of X G a14, a_written := _, fd_written := _, F_written := F15, b_written := b15, m_written := PySem.W.mg_of X G a15, a_pair_of := _, fd_pair_of := _, F_pair_of := F16, b_pair_of := b16, m_pair_of := PySem.W.mg_of X G a16, a_opposite := _, fd_opposite := _, F_opposite := F17, b_opposite := b17, m_opposite := PySem.W.mg_of X G a17, a_moved := _, fd_moved := _, F_moved := F18, b_moved := b18, m_moved := PySem.W.mg_of X G a18, a_check_move := _, fd_check_move := _, F_check_move := F19, b_check_move := b19, m_check_move := PySem.W.mg_of X G a19, a_left_beside := _, fd_left_beside := _, F_left_beside := F20, b_left_beside := b20, m_left_beside := PySem.W.mg_of X G a20, a_paired := _, fd_paired := _, F_paired := F21, b_paired := b21, m_paired := PySem.W.mg_of X G a21, a_widest := _, fd_widest := _, F_widest := F22, b_widest := b22, m_widest := PySem.W.mg_of X G a22, a_begun_off_arm := _, fd_begun_off_arm := _, F_begun_off_arm := F23, b_begun_off_arm := b23, m_begun_off_arm := PySem.W.mg_of X G a23, a_counts := _, fd_counts := _, F_counts := F24, b_counts := b24, m_counts := PySem.W.mg_of X G a24, a_arm_steps := _, fd_arm_steps := _, F_arm_steps := F25, b_arm_steps := b25, m_arm_steps := PySem.W.mg_of X G a25, a_arm_script := _, fd_arm_script := _, F_arm_script := F26, b_arm_script := b26, m_arm_script := PySem.W.mg_of X G a26, a_check_both := _, fd_check_both := _, F_check_both := F27, b_check_both := b27, m_check_both := PySem.W.mg_of X G a27, a_arm_way := _, fd_arm_way := _, F_arm_way := F28, b_arm_way := b28, m_arm_way := PySem.W.mg_of X G a28, a_law_mixed := _, fd_law_mixed := _, F_law_mixed := F29, b_law_mixed := b29, m_law_mixed := PySem.W.mg_of X G a29, a_law_purse := _, fd_law_purse := _, F_law_purse := F30, b_law_purse := b30, m_law_purse := PySem.W.mg_of X G a30, a_law_draw := _, fd_law_draw := _, F_law_draw := F31, b_law_draw := b31, m_law_draw := PySem.W.mg_of X G a31, a_law_nest := _, fd_law_nest := _, F_law_nest := F32, b_law_nest := b32, m_law_nest := PySem.W.mg_of X G a32, a_law_text := _, fd_law_text := _, F_law_text := F33, b_law_text := b33, m_law_text := PySem.W.mg_of X G a33, a_law_width := _, fd_law_width := _, F_law_width := F34, b_law_width := b34, m_law_width := PySem.W.mg_of X G a34, a_law_spins := _, fd_law_spins := _, F_law_spins := F35, b_law_spins := b35, m_law_spins := PySem.W.mg_of X G a35, a_law_off := _, fd_law_off := _, F_law_off := F36, b_law_off := b36, m_law_off := PySem.W.mg_of X G a36, a_law_twins := _, fd_law_twins := _, F_law_twins := F37, b_law_twins := b37, m_law_twins := PySem.W.mg_of X G a37, a_law_cut := _, fd_law_cut := _, F_law_cut := F38, b_law_cut := b38, m_law_cut := PySem.W.mg_of X G a38, a_law_least := _, fd_law_least := _, F_law_least := F39, b_law_least := b39, m_law_least := PySem.W.mg_of X G a39, a_law_led := _, fd_law_led := _, F_law_led := F40, b_law_led := b40, m_law_led := PySem.W.mg_of X G a40, a_law_arm := _, fd_law_arm := _, F_law_arm := F41, b_law_arm := b41, m_law_arm := PySem.W.mg_of X G a41, a_law := _, fd_law := _, F_law := F42, b_law := b42, m_law := PySem.W.mg_of X G a42, z_isinstance := PySem.W.mg_none_of X G z_isinstance, z_str := PySem.W.mg_none_of X G z_str, z_len := PySem.W.mg_none_of X G z_len, z_list := PySem.W.mg_none_of X G z_list, z_int := PySem.W.mg_none_of X G z_int, z_max := PySem.W.mg_none_of X G z_max, z_range := PySem.W.mg_none_of X G z_range, z_tuple := PySem.W.mg_none_of X G z_tuple, z_all := PySem.W.mg_none_of X G z_all, z_enumerate := PySem.W.mg_none_of X G z_enumerate, z_zip := PySem.W.mg_none_of X G z_zip, z_repr := PySem.W.mg_none_of X G z_repr, z_bool := PySem.W.mg_none_of X G z_bool, z_sum := PySem.W.mg_none_of X G z_sum }
theorem walk {l : PySem.W.OpenLaw} {q : Program} {loose : List Str} {XP : (Str → Option Value) → Heap → Prop} {YP : World → Heap → Prop} {d : DefRec} {K : Params → PySem.W.Frag} (hn : l.most = some 63) (hdf : d.params.defaults = [])
    (hY : ∀ (w : World) (h : Heap), YP w h → (K w.params).In h)
    (F : ∀ (w : World) (mg : Str → Option Value) (fa : Addr) (h : Heap), (K w.params).In h → h.Ns mainGlobals mg → mg d.name = some (.ref fa) →
      ∃ fd : FuncData, (∀ (s : Shared) (u : Value), BindsTo s fd ⟨[u], []⟩ [("_law_script", u)]) ∧ ∀ base : Heap, (K w.params).In base → base.Ns mainGlobals mg → FnDG l.prog w (K w.params) mg base CX0 206 100 fa fd ["_law_script"] (sp_law (K w.params))) :
    PySem.W.WalkO q loose XP YP l.row.toRowW d [] (fun f vs => PySem.call f vs) :=
  walkGD (n := 63) (m := 206) (k := 100) (x := "_law_script") (sp := fun w => sp_law (K w.params)) hn (by decide) hdf ⟨rfl, by decide, by decide⟩ hY F (fun _ _ a ns hl _ hS => ⟨a, ns, rfl, hS, hl, fun _ => rfl⟩)
end Toy

open PySem PySem.W PyProof.Rows in
set_option maxRecDepth 100000 in
set_option maxHeartbeats 0 in
theorem PySem.Challenge.cw_treeturns_k74_ways_by_the_arm_holds : PySem.Challenge.rw_treeturns_k74_ways_by_the_arm.Holds := by
  w_on; o_law; k_head; (case hw => w_witness2)
  k_fill
  refine Toy.walk (l := PySem.Challenge.rw_treeturns_k74_ways_by_the_arm) rfl rfl (fun w h Y => PySem.W.kIn_of Y) ?F
  case F =>
    intro w mg fa h KX G hmg
    refine' Toy.all_mk KX G hmg ?hn ?ht ?m_TurnError ?l_TurnError ?ga_TurnError ?gg_TurnError ?ha_TurnError ?m_InvalidTree ?l_InvalidTree ?ga_InvalidTree ?gg_InvalidTree ?ha_InvalidTree ?sa_InvalidTree ?kC_InvalidTree ?no_InvalidTree ?iC_InvalidTree ?lf_InvalidTree ?cf_InvalidTree ?lT_InvalidTree ?m_InvalidList ?l_InvalidList ?ga_InvalidList ?gg_InvalidList ?ha_InvalidList ?sa_InvalidList ?kC_InvalidList ?no_InvalidList ?iC_InvalidList ?lf_InvalidList ?cf_InvalidList ?lT_InvalidList ?m_InvalidScript ?l_InvalidScript ?ga_InvalidScript ?gg_InvalidScript ?ha_InvalidScript ?sa_InvalidScript ?kC_InvalidScript ?no_InvalidScript ?iC_InvalidScript ?lf_InvalidScript ?cf_InvalidScript ?lT_InvalidScript ?m_InvalidMove ?l_InvalidMove ?ga_InvalidMove ?gg_InvalidMove ?ha_InvalidMove ?sa_InvalidMove ?kC_InvalidMove ?no_InvalidMove ?iC_InvalidMove ?lf_InvalidMove ?cf_InvalidMove ?lT_InvalidMove ?m_CannotMove ?l_CannotMove ?ga_CannotMove ?gg_CannotMove ?ha_CannotMove ?sa_CannotMove ?kC_CannotMove ?no_CannotMove ?iC_CannotMove ?lf_CannotMove ?cf_CannotMove ?lT_CannotMove ?nd ?m_OTHER_WORD ?l_OTHER_WORD ?e1_OTHER_WORD ?e2_OTHER_WORD ?lo_OTHER_WORD ?m_Growth ?pg_Growth ?hd_Growth ?po_Growth ?sa_Growth ?mk_Growth ?kc_Growth ?na_Growth_origin ?na_Growth_current ?na_Growth_many ?at_Growth___init__ ?is_Growth___init__ ?l_Growth___init__ ?c_Growth___init__ ?k_Growth___init__ ?at_Growth_unfold ?is_Growth_unfold ?l_Growth_unfold ?c_Growth_unfold ?k_Growth_unfold ?at_Growth_sides ?is_Growth_sides ?l_Growth_sides ?c_Growth_sides ?k_Growth_sides ?at_Growth_turn ?is_Growth_turn ?l_Growth_turn ?c_Growth_turn ?k_Growth_turn ?m_Move ?pg_Move ?hd_Move ?po_Move ?sa_Move ?mk_Move ?kc_Move ?ty_Move ?rd_Move ?ga_Move ?sf_Move ?ob_Move ?nx_Move ?ha_Move ?na_Move__before ?na_Move__after ?at_Move___init__ ?is_Move___init__ ?l_Move___init__ ?c_Move___init__ ?k_Move___init__ ?at_Move_of ?pr_Move_of ?is_Move_of ?l_Move_of ?c_Move_of ?k_Move_of ?at_Move_before ?pg_Move_before ?pt_Move_before ?pr_Move_before ?is_Move_before ?l_Move_before ?c_Move_before ?k_Move_before ?at_Move_after ?pg_Move_after ?pt_Move_after ?pr_Move_after ?is_Move_after ?l_Move_after ?c_Move_after ?k_Move_after ?at_Move___call__ ?is_Move___call__ ?l_Move___call__ ?c_Move___call__ ?k_Move___call__ ?fi_Move___call__ ?at_Move_can ?is_Move_can ?l_Move_can ?c_Move_can ?k_Move_can ?at_Move___eq__ ?is_Move___eq__ ?l_Move___eq__ ?c_Move___eq__ ?k_Move___eq__ ?at_Move___repr__ ?is_Move___repr__ ?l_Move___repr__ ?c_Move___repr__ ?k_Move___repr__ ?at_Move___mul__ ?is_Move___mul__ ?l_Move___mul__ ?c_Move___mul__ ?k_Move___mul__ ?at_Move___invert__ ?is_Move___invert__ ?l_Move___invert__ ?c_Move___invert__ ?k_Move___invert__ ?at_Move___le__ ?is_Move___le__ ?l_Move___le__ ?c_Move___le__ ?k_Move___le__ ?at_Move___lt__ ?is_Move___lt__ ?l_Move___lt__ ?c_Move___lt__ ?k_Move___lt__ ?at_Move___ge__ ?is_Move___ge__ ?l_Move___ge__ ?c_Move___ge__ ?k_Move___ge__ ?at_Move___gt__ ?is_Move___gt__ ?l_Move___gt__ ?c_Move___gt__ ?k_Move___gt__ ?a0 ?l0 ?c0 ?k0 ?a1 ?l1 ?c1 ?k1 ?a2 ?l2 ?c2 ?k2 ?a3 ?l3 ?c3 ?k3 ?a4 ?l4 ?c4 ?k4 ?a5 ?l5 ?c5 ?k5 ?a6 ?l6 ?c6 ?k6 ?a7 ?l7 ?c7 ?k7 ?a8 ?l8 ?c8 ?k8 ?a9 ?l9 ?c9 ?k9 ?a10 ?l10 ?c10 ?k10 ?a11 ?l11 ?c11 ?k11 ?a12 ?l12 ?c12 ?k12 ?a13 ?l13 ?c13 ?k13 ?a14 ?l14 ?c14 ?k14 ?a15 ?l15 ?c15 ?k15 ?a16 ?l16 ?c16 ?k16 ?a17 ?l17 ?c17 ?k17 ?a18 ?l18 ?c18 ?k18 ?a19 ?l19 ?c19 ?k19 ?a20 ?l20 ?c20 ?k20 ?a21 ?l21 ?c21 ?k21 ?a22 ?l22 ?c22 ?k22 ?a23 ?l23 ?c23 ?k23 ?a24 ?l24 ?c24 ?k24 ?a25 ?l25 ?c25 ?k25 ?a26 ?l26 ?c26 ?k26 ?a27 ?l27 ?c27 ?k27 ?a28 ?l28 ?c28 ?k28 ?a29 ?l29 ?c29 ?k29 ?a30 ?l30 ?c30 ?k30 ?a31 ?l31 ?c31 ?k31 ?a32 ?l32 ?c32 ?k32 ?a33 ?l33 ?c33 ?k33 ?a34 ?l34 ?c34 ?k34 ?a35 ?l35 ?c35 ?k35 ?a36 ?l36 ?c36 ?k36 ?a37 ?l37 ?c37 ?k37 ?a38 ?l38 ?c38 ?k38 ?a39 ?l39 ?c39 ?k39 ?a40 ?l40 ?c40 ?k40 ?a41 ?l41 ?c41 ?k41 ?a42 ?l42 ?c42 ?k42 ?z_isinstance ?z_str ?z_len ?z_list ?z_int ?z_max ?z_range ?z_tuple ?z_all ?z_enumerate ?z_zip ?z_repr ?z_bool ?z_sum
    (case hn => k_is)
    (case ht => k_is)
    (case m_TurnError => k_is)
    (case l_TurnError => k_is)
    (case ga_TurnError => k_is)
    (case gg_TurnError => k_is)
    (case ha_TurnError => k_is)
    (case m_InvalidTree => k_is)
    (case l_InvalidTree => k_is)
    (case ga_InvalidTree => k_is)
    (case gg_InvalidTree => k_is)
    (case ha_InvalidTree => k_is)
    (case sa_InvalidTree => k_is)
    (case kC_InvalidTree => k_is)
    (case no_InvalidTree => k_is)
    (case iC_InvalidTree => k_is)
    (case lf_InvalidTree => k_is)
    (case cf_InvalidTree => k_is)
    (case lT_InvalidTree => k_is)
    (case m_InvalidList => k_is)
    (case l_InvalidList => k_is)
    (case ga_InvalidList => k_is)
    (case gg_InvalidList => k_is)
    (case ha_InvalidList => k_is)
    (case sa_InvalidList => k_is)
    (case kC_InvalidList => k_is)
    (case no_InvalidList => k_is)
    (case iC_InvalidList => k_is)
    (case lf_InvalidList => k_is)
    (case cf_InvalidList => k_is)
    (case lT_InvalidList => k_is)
    (case m_InvalidScript => k_is)
    (case l_InvalidScript => k_is)
    (case ga_InvalidScript => k_is)
    (case gg_InvalidScript => k_is)
    (case ha_InvalidScript => k_is)
    (case sa_InvalidScript => k_is)
    (case kC_InvalidScript => k_is)
    (case no_InvalidScript => k_is)
    (case iC_InvalidScript => k_is)
    (case lf_InvalidScript => k_is)
    (case cf_InvalidScript => k_is)
    (case lT_InvalidScript => k_is)
    (case m_InvalidMove => k_is)
    (case l_InvalidMove => k_is)
    (case ga_InvalidMove => k_is)
    (case gg_InvalidMove => k_is)
    (case ha_InvalidMove => k_is)
    (case sa_InvalidMove => k_is)
    (case kC_InvalidMove => k_is)
    (case no_InvalidMove => k_is)
    (case iC_InvalidMove => k_is)
    (case lf_InvalidMove => k_is)
    (case cf_InvalidMove => k_is)
    (case lT_InvalidMove => k_is)
    (case m_CannotMove => k_is)
    (case l_CannotMove => k_is)
    (case ga_CannotMove => k_is)
    (case gg_CannotMove => k_is)
    (case ha_CannotMove => k_is)
    (case sa_CannotMove => k_is)
    (case kC_CannotMove => k_is)
    (case no_CannotMove => k_is)
    (case iC_CannotMove => k_is)
    (case lf_CannotMove => k_is)
    (case cf_CannotMove => k_is)
    (case lT_CannotMove => k_is)
    (case nd => decide)
    (case m_OTHER_WORD => k_is)
    (case l_OTHER_WORD => k_is)
    (case e1_OTHER_WORD => rfl)
    (case e2_OTHER_WORD => rfl)
    (case lo_OTHER_WORD => rfl)
    (case m_Growth => k_is)
    (case pg_Growth => k_is)
    (case hd_Growth => k_is)
    (case po_Growth => k_is)
    (case sa_Growth => k_is)
    (case mk_Growth => k_is)
    (case kc_Growth => k_is)
    (case na_Growth_origin => k_is)
    (case na_Growth_current => k_is)
    (case na_Growth_many => k_is)
    (case at_Growth___init__ => k_is)
    (case is_Growth___init__ => k_is)
    (case l_Growth___init__ => k_is)
    (case c_Growth___init__ => k_is)
    (case k_Growth___init__ => k_is)
    (case at_Growth_unfold => k_is)
    (case is_Growth_unfold => k_is)
    (case l_Growth_unfold => k_is)
    (case c_Growth_unfold => k_is)
    (case k_Growth_unfold => k_is)
    (case at_Growth_sides => k_is)
    (case is_Growth_sides => k_is)
    (case l_Growth_sides => k_is)
    (case c_Growth_sides => k_is)
    (case k_Growth_sides => k_is)
    (case at_Growth_turn => k_is)
    (case is_Growth_turn => k_is)
    (case l_Growth_turn => k_is)
    (case c_Growth_turn => k_is)
    (case k_Growth_turn => k_is)
    (case m_Move => k_is)
    (case pg_Move => k_is)
    (case hd_Move => k_is)
    (case po_Move => k_is)
    (case sa_Move => k_is)
    (case mk_Move => k_is)
    (case kc_Move => k_is)
    (case ty_Move => k_is)
    (case rd_Move => k_is)
    (case ga_Move => k_is)
    (case sf_Move => k_is)
    (case ob_Move => k_is)
    (case nx_Move => k_is)
    (case ha_Move => k_is)
    (case na_Move__before => k_is)
    (case na_Move__after => k_is)
    (case at_Move___init__ => k_is)
    (case is_Move___init__ => k_is)
    (case l_Move___init__ => k_is)
    (case c_Move___init__ => k_is)
    (case k_Move___init__ => k_is)
    (case at_Move_of => k_is)
    (case pr_Move_of => k_is)
    (case is_Move_of => k_is)
    (case l_Move_of => k_is)
    (case c_Move_of => k_is)
    (case k_Move_of => k_is)
    (case at_Move_before => k_is)
    (case pg_Move_before => k_is)
    (case pt_Move_before => k_is)
    (case pr_Move_before => k_is)
    (case is_Move_before => k_is)
    (case l_Move_before => k_is)
    (case c_Move_before => k_is)
    (case k_Move_before => k_is)
    (case at_Move_after => k_is)
    (case pg_Move_after => k_is)
    (case pt_Move_after => k_is)
    (case pr_Move_after => k_is)
    (case is_Move_after => k_is)
    (case l_Move_after => k_is)
    (case c_Move_after => k_is)
    (case k_Move_after => k_is)
    (case at_Move___call__ => k_is)
    (case is_Move___call__ => k_is)
    (case l_Move___call__ => k_is)
    (case c_Move___call__ => k_is)
    (case k_Move___call__ => k_is)
    (case fi_Move___call__ => k_is)
    (case at_Move_can => k_is)
    (case is_Move_can => k_is)
    (case l_Move_can => k_is)
    (case c_Move_can => k_is)
    (case k_Move_can => k_is)
    (case at_Move___eq__ => k_is)
    (case is_Move___eq__ => k_is)
    (case l_Move___eq__ => k_is)
    (case c_Move___eq__ => k_is)
    (case k_Move___eq__ => k_is)
    (case at_Move___repr__ => k_is)
    (case is_Move___repr__ => k_is)
    (case l_Move___repr__ => k_is)
    (case c_Move___repr__ => k_is)
    (case k_Move___repr__ => k_is)
    (case at_Move___mul__ => k_is)
    (case is_Move___mul__ => k_is)
    (case l_Move___mul__ => k_is)
    (case c_Move___mul__ => k_is)
    (case k_Move___mul__ => k_is)
    (case at_Move___invert__ => k_is)
    (case is_Move___invert__ => k_is)
    (case l_Move___invert__ => k_is)
    (case c_Move___invert__ => k_is)
    (case k_Move___invert__ => k_is)
    (case at_Move___le__ => k_is)
    (case is_Move___le__ => k_is)
    (case l_Move___le__ => k_is)
    (case c_Move___le__ => k_is)
    (case k_Move___le__ => k_is)
    (case at_Move___lt__ => k_is)
    (case is_Move___lt__ => k_is)
    (case l_Move___lt__ => k_is)
    (case c_Move___lt__ => k_is)
    (case k_Move___lt__ => k_is)
    (case at_Move___ge__ => k_is)
    (case is_Move___ge__ => k_is)
    (case l_Move___ge__ => k_is)
    (case c_Move___ge__ => k_is)
    (case k_Move___ge__ => k_is)
    (case at_Move___gt__ => k_is)
    (case is_Move___gt__ => k_is)
    (case l_Move___gt__ => k_is)
    (case c_Move___gt__ => k_is)
    (case k_Move___gt__ => k_is)
    (case a0 => k_is)
    (case l0 => k_is)
    (case c0 => k_is)
    (case k0 => k_is)
    (case a1 => k_is)
    (case l1 => k_is)
    (case c1 => k_is)
    (case k1 => k_is)
    (case a2 => k_is)
    (case l2 => k_is)
    (case c2 => k_is)
    (case k2 => k_is)
    (case a3 => k_is)
    (case l3 => k_is)
    (case c3 => k_is)
    (case k3 => k_is)
    (case a4 => k_is)
    (case l4 => k_is)
    (case c4 => k_is)
    (case k4 => k_is)
    (case a5 => k_is)
    (case l5 => k_is)
    (case c5 => k_is)
    (case k5 => k_is)
    (case a6 => k_is)
    (case l6 => k_is)
    (case c6 => k_is)
    (case k6 => k_is)
    (case a7 => k_is)
    (case l7 => k_is)
    (case c7 => k_is)
    (case k7 => k_is)
    (case a8 => k_is)
    (case l8 => k_is)
    (case c8 => k_is)
    (case k8 => k_is)
    (case a9 => k_is)
    (case l9 => k_is)
    (case c9 => k_is)
    (case k9 => k_is)
    (case a10 => k_is)
    (case l10 => k_is)
    (case c10 => k_is)
    (case k10 => k_is)
    (case a11 => k_is)
    (case l11 => k_is)
    (case c11 => k_is)
    (case k11 => k_is)
    (case a12 => k_is)
    (case l12 => k_is)
    (case c12 => k_is)
    (case k12 => k_is)
    (case a13 => k_is)
    (case l13 => k_is)
    (case c13 => k_is)
    (case k13 => k_is)
    (case a14 => k_is)
    (case l14 => k_is)
    (case c14 => k_is)
    (case k14 => k_is)
    (case a15 => k_is)
    (case l15 => k_is)
    (case c15 => k_is)
    (case k15 => k_is)
    (case a16 => k_is)
    (case l16 => k_is)
    (case c16 => k_is)
    (case k16 => k_is)
    (case a17 => k_is)
    (case l17 => k_is)
    (case c17 => k_is)
    (case k17 => k_is)
    (case a18 => k_is)
    (case l18 => k_is)
    (case c18 => k_is)
    (case k18 => k_is)
    (case a19 => k_is)
    (case l19 => k_is)
    (case c19 => k_is)
    (case k19 => k_is)
    (case a20 => k_is)
    (case l20 => k_is)
    (case c20 => k_is)
    (case k20 => k_is)
    (case a21 => k_is)
    (case l21 => k_is)
    (case c21 => k_is)
    (case k21 => k_is)
    (case a22 => k_is)
    (case l22 => k_is)
    (case c22 => k_is)
    (case k22 => k_is)
    (case a23 => k_is)
    (case l23 => k_is)
    (case c23 => k_is)
    (case k23 => k_is)
    (case a24 => k_is)
    (case l24 => k_is)
    (case c24 => k_is)
    (case k24 => k_is)
    (case a25 => k_is)
    (case l25 => k_is)
    (case c25 => k_is)
    (case k25 => k_is)
    (case a26 => k_is)
    (case l26 => k_is)
    (case c26 => k_is)
    (case k26 => k_is)
    (case a27 => k_is)
    (case l27 => k_is)
    (case c27 => k_is)
    (case k27 => k_is)
    (case a28 => k_is)
    (case l28 => k_is)
    (case c28 => k_is)
    (case k28 => k_is)
    (case a29 => k_is)
    (case l29 => k_is)
    (case c29 => k_is)
    (case k29 => k_is)
    (case a30 => k_is)
    (case l30 => k_is)
    (case c30 => k_is)
    (case k30 => k_is)
    (case a31 => k_is)
    (case l31 => k_is)
    (case c31 => k_is)
    (case k31 => k_is)
    (case a32 => k_is)
    (case l32 => k_is)
    (case c32 => k_is)
    (case k32 => k_is)
    (case a33 => k_is)
    (case l33 => k_is)
    (case c33 => k_is)
    (case k33 => k_is)
    (case a34 => k_is)
    (case l34 => k_is)
    (case c34 => k_is)
    (case k34 => k_is)
    (case a35 => k_is)
    (case l35 => k_is)
    (case c35 => k_is)
    (case k35 => k_is)
    (case a36 => k_is)
    (case l36 => k_is)
    (case c36 => k_is)
    (case k36 => k_is)
    (case a37 => k_is)
    (case l37 => k_is)
    (case c37 => k_is)
    (case k37 => k_is)
    (case a38 => k_is)
    (case l38 => k_is)
    (case c38 => k_is)
    (case k38 => k_is)
    (case a39 => k_is)
    (case l39 => k_is)
    (case c39 => k_is)
    (case k39 => k_is)
    (case a40 => k_is)
    (case l40 => k_is)
    (case c40 => k_is)
    (case k40 => k_is)
    (case a41 => k_is)
    (case l41 => k_is)
    (case c41 => k_is)
    (case k41 => k_is)
    (case a42 => k_is)
    (case l42 => k_is)
    (case c42 => k_is)
    (case k42 => k_is)
    (case z_isinstance => k_is)
    (case z_str => k_is)
    (case z_len => k_is)
    (case z_list => k_is)
    (case z_int => k_is)
    (case z_max => k_is)
    (case z_range => k_is)
    (case z_tuple => k_is)
    (case z_all => k_is)
    (case z_enumerate => k_is)
    (case z_zip => k_is)
    (case z_repr => k_is)
    (case z_bool => k_is)
    (case z_sum => k_is)
