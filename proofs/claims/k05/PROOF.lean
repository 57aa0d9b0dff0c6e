import PyProof.Rows.All
import Wide.All
import OpenK.AllK
import Wide.FinOn
import PySem.Challenge.RW_weightset_k05_answers_by_hand
import HandS.ForMost
import HandS.Sort
import HandS.SortOrd
import HandS.SortRule
import HandS.SortInts
import HandS.SortKw
import HandS.Strs
import HandS.Set
import HandS.SetFor
import HandS.IsInst
import HandS.Evl
import HandS.Walk
import HandS.Style
import HandS.WideBits
import HandS.EndBits
import HandS.AnyAll
import HandS.Nested
import HandS.EndTab
import HandS.EndOwn
import HandS.CallRecv
import HandS.Dict
import HandS.Iter
import HandS.Zip
set_option Elab.async false
set_option linter.all false
set_option maxRecDepth 100000
set_option maxHeartbeats 4000000
/-! ### the mathematics of sets of weights; no program here -/
namespace Wt
abbrev leI (a b : Int) : Bool := decide (a ≤ b)
/-- in order -/
def srt (l : List Int) : List Int := l.mergeSort leI
theorem srt_perm (l : List Int) : (srt l).Perm l := List.mergeSort_perm l _
theorem srt_ord (l : List Int) : (srt l).Pairwise (· ≤ ·) := by
  have h := List.pairwise_mergeSort (le := leI) (fun a b c h1 h2 => by
    have h1 := of_decide_eq_true h1
    have h2 := of_decide_eq_true h2
    exact decide_eq_true (Int.le_trans h1 h2)) (fun a b => by
    rcases Int.le_total a b with h | h
    · rw [show leI a b = true from decide_eq_true h, Bool.true_or]
    · rw [show leI b a = true from decide_eq_true h, Bool.or_true]) l
  exact h.imp fun h => of_decide_eq_true h
theorem srt_of {l m : List Int} (p : m.Perm l) (s : m.Pairwise (· ≤ ·)) : m = srt l :=
  List.Perm.eq_of_pairwise (fun _ _ _ _ h1 h2 => Int.le_antisymm h1 h2) s (srt_ord l) (p.trans (srt_perm l).symm)
theorem srt_congr {l m : List Int} (p : l.Perm m) : srt l = srt m := srt_of ((srt_perm l).trans p) (srt_ord l)
/-- from g on, over weights in order: where it stops -/
def gapF : Int → List Int → Int
  | g, [] => g
  | g, w :: r => if g < w then g else gapF (g + w) r
def gap (ws : List Int) : Int := gapF 1 (srt ws)
theorem gap_congr {l m : List Int} (p : l.Perm m) : gap l = gap m := by
  unfold gap
  rw [srt_congr p]
abbrev Pos (ws : List Int) : Prop := ∀ w ∈ ws, (1 : Int) ≤ w
/-- n is the sum of some of them -/
def Sub : List Int → Int → Prop
  | [], n => n = 0
  | w :: r, n => Sub r n ∨ Sub r (n - w)
theorem Sub.cast {ws : List Int} {n m : Int} (h : Sub ws n) (e : n = m) : Sub ws m := e ▸ h
theorem sub_zero : ∀ ws : List Int, Sub ws 0
  | [] => rfl
  | _ :: r => .inl (sub_zero r)
theorem sub_perm {l m : List Int} (p : l.Perm m) : ∀ n, Sub l n ↔ Sub m n := by
  induction p with
  | nil => exact fun _ => Iff.rfl
  | cons x _ ih => exact fun n => or_congr (ih n) (ih _)
  | swap x y r =>
    intro n
    have e : n - y - x = n - x - y := by omega
    constructor
    · rintro ((h | h) | (h | h))
      · exact .inl (.inl h)
      · exact .inr (.inl h)
      · exact .inl (.inr h)
      · exact .inr (.inr (h.cast e))
    · rintro ((h | h) | (h | h))
      · exact .inl (.inl h)
      · exact .inr (.inl h)
      · exact .inl (.inr h)
      · exact .inr (.inr (h.cast e.symm))
  | trans _ _ h1 h2 => exact fun n => (h1 n).trans (h2 n)
theorem sub_app : ∀ {xs ys : List Int} {n m : Int}, Sub xs n → Sub ys m → Sub (xs ++ ys) (n + m)
  | [], ys, n, m, h, k => by
    have e : n = 0 := h
    exact k.cast (by omega)
  | x :: xs, ys, n, m, .inl h, k => .inl (sub_app h k)
  | x :: xs, ys, n, m, .inr h, k => .inr ((sub_app h k).cast (by omega))
theorem sub_left {xs : List Int} (ys : List Int) {n : Int} (h : Sub xs n) : Sub (xs ++ ys) n := (sub_app h (sub_zero ys)).cast (by omega)
theorem sub_right (xs : List Int) {ys : List Int} {n : Int} (h : Sub ys n) : Sub (xs ++ ys) n := (sub_app (sub_zero xs) h).cast (by omega)
theorem sub_of_app : ∀ {xs ys : List Int} {n : Int}, Sub (xs ++ ys) n → ∃ m, Sub xs m ∧ Sub ys (n - m)
  | [], ys, n, h => ⟨0, rfl, h.cast (by omega)⟩
  | x :: xs, ys, n, h => by
    rcases h with h | h
    · obtain ⟨m, a, b⟩ := sub_of_app (xs := xs) h
      exact ⟨m, .inl a, b⟩
    · obtain ⟨m, a, b⟩ := sub_of_app (xs := xs) h
      exact ⟨m + x, .inr (a.cast (by omega)), b.cast (by omega)⟩
theorem sub_snoc {ws : List Int} {w n : Int} : Sub (ws ++ [w]) n ↔ Sub ws n ∨ Sub ws (n - w) := by
  have p : (ws ++ [w]).Perm (w :: ws) := List.perm_append_singleton w ws
  exact sub_perm p n
/-- all of them no lighter than b: none, or b at the least -/
theorem sub_ge {b : Int} (hb : 0 ≤ b) : ∀ {ws : List Int} {n : Int}, (∀ w ∈ ws, b ≤ w) → Sub ws n → n = 0 ∨ b ≤ n
  | [], n, _, h => .inl h
  | w :: r, n, hw, h => by
    have h0 := hw w List.mem_cons_self
    have hr : ∀ x ∈ r, b ≤ x := fun x hx => hw x (List.mem_cons_of_mem _ hx)
    rcases h with h | h
    · exact sub_ge hb hr h
    · rcases sub_ge hb hr h with e | e
      · exact .inr (by omega)
      · exact .inr (by omega)
theorem sub_nonneg {ws : List Int} {n : Int} (p : Pos ws) (h : Sub ws n) : 0 ≤ n := by
  rcases sub_ge (b := 1) (by omega) p h with e | e <;> omega
theorem gapF_ge : ∀ {s : List Int} {g : Int}, Pos s → g ≤ gapF g s
  | [], g, _ => Int.le_refl g
  | w :: r, g, p => by
    show g ≤ (if g < w then g else gapF (g + w) r)
    split
    · exact Int.le_refl g
    · have h1 := gapF_ge (s := r) (g := g + w) fun x hx => p x (List.mem_cons_of_mem _ hx)
      have h2 := p w List.mem_cons_self
      omega
theorem gapF_sub : ∀ {s : List Int} {g n : Int}, 1 ≤ g → Pos s → 0 ≤ n → n < gapF g s → ∃ a, 0 ≤ a ∧ a < g ∧ Sub s (n - a)
  | [], g, n, _, _, h0, h1 => ⟨n, h0, h1, by show n - n = 0; omega⟩
  | w :: r, g, n, hg, p, h0, h1 => by
    have hw := p w List.mem_cons_self
    have h1' : n < (if g < w then g else gapF (g + w) r) := h1
    split at h1'
    · exact ⟨n, h0, h1', (sub_zero (w :: r)).cast (by omega)⟩
    · obtain ⟨a, a0, a1, hs⟩ := gapF_sub (s := r) (g := g + w) (by omega) (fun x hx => p x (List.mem_cons_of_mem _ hx)) h0 h1'
      by_cases ha : a < g
      · exact ⟨a, a0, ha, .inl hs⟩
      · exact ⟨a - w, by omega, by omega, .inr (hs.cast (by omega))⟩
theorem gapF_not : ∀ {s : List Int} {g a : Int}, 1 ≤ g → Pos s → s.Pairwise (· ≤ ·) → 0 ≤ a → a < g → ¬ Sub s (gapF g s - a)
  | [], g, a, _, _, _, h0, h1 => fun h => by
    have e : g - a = 0 := h
    omega
  | w :: r, g, a, hg, p, o, h0, h1 => by
    obtain ⟨o1, o2⟩ := List.pairwise_cons.mp o
    have hw := p w List.mem_cons_self
    show ¬ Sub (w :: r) ((if g < w then g else gapF (g + w) r) - a)
    split
    · intro h
      have hall : ∀ x ∈ w :: r, w ≤ x := fun x hx => by
        rcases List.mem_cons.mp hx with e | hx
        · rw [e]; exact Int.le_refl _
        · exact o1 x hx
      rcases sub_ge (b := w) (by omega) hall h with e | e <;> omega
    · have pr : Pos r := fun x hx => p x (List.mem_cons_of_mem _ hx)
      rintro (h | h)
      · exact gapF_not (s := r) (g := g + w) (a := a) (by omega) pr o2 h0 (by omega) h
      · exact gapF_not (s := r) (g := g + w) (a := a + w) (by omega) pr o2 (by omega) (by omega) (h.cast (by omega))
theorem pos_srt {ws : List Int} (p : Pos ws) : Pos (srt ws) := fun w hw => p w ((srt_perm ws).mem_iff.mp hw)
theorem gap_ge {ws : List Int} (p : Pos ws) : 1 ≤ gap ws := gapF_ge (pos_srt p)
theorem gap_sub {ws : List Int} (p : Pos ws) {n : Int} (h0 : 0 ≤ n) (h1 : n < gap ws) : Sub ws n := by
  obtain ⟨a, a0, a1, h⟩ := gapF_sub (g := 1) (by omega) (pos_srt p) h0 h1
  exact (sub_perm (srt_perm ws) n).mp (h.cast (by omega))
theorem gap_not {ws : List Int} (p : Pos ws) : ¬ Sub ws (gap ws) := fun h =>
  gapF_not (g := 1) (a := 0) (by omega) (pos_srt p) (srt_ord ws) (by omega) (by omega) (((sub_perm (srt_perm ws) _).mpr h).cast (show gap ws = gap ws - 0 by omega))
/-- it is the least number above none that is no sum -/
theorem gap_le {ws : List Int} (p : Pos ws) {n : Int} (h0 : 0 ≤ n) (h : ¬ Sub ws n) : gap ws ≤ n := by
  by_cases hn : gap ws ≤ n
  · exact hn
  · exact absurd (gap_sub p h0 (by omega)) h
theorem le_gap {ws : List Int} (p : Pos ws) {g : Int} (h : ∀ n, 0 ≤ n → n < g → Sub ws n) : g ≤ gap ws := by
  by_cases hn : g ≤ gap ws
  · exact hn
  · have h1 := gap_ge p
    exact absurd (h (gap ws) (by omega) (by omega)) (gap_not p)
theorem gap_is {ws : List Int} (p : Pos ws) {g : Int} (h0 : 0 ≤ g) (h : ∀ n, 0 ≤ n → n < g → Sub ws n) (hn : ¬ Sub ws g) : gap ws = g :=
  Int.le_antisymm (gap_le p h0 hn) (le_gap p h)
theorem pos_app {xs ys : List Int} (a : Pos xs) (b : Pos ys) : Pos (xs ++ ys) := fun w hw => by
  rcases List.mem_append.mp hw with h | h
  · exact a w h
  · exact b w h
theorem pos_one {w : Int} (h : 1 ≤ w) : Pos [w] := fun x hx => by
  rw [List.mem_singleton.mp hx]
  exact h
/-! what becomes of it -/
theorem gap_app {xs ys : List Int} (a : Pos xs) (b : Pos ys) : gap xs + gap ys - 1 ≤ gap (xs ++ ys) := by
  have h1 := gap_ge a
  have h2 := gap_ge b
  refine le_gap (pos_app a b) fun n h0 hn => ?_
  by_cases h : n < gap xs
  · exact sub_left ys (gap_sub a h0 h)
  · exact (sub_app (gap_sub a (n := gap xs - 1) (by omega) (by omega)) (gap_sub b (n := n - (gap xs - 1)) (by omega) (by omega))).cast (by omega)
theorem gap_left {xs ys : List Int} (a : Pos xs) (b : Pos ys) : gap xs ≤ gap (xs ++ ys) := le_gap (pos_app a b) fun _ h0 hn => sub_left ys (gap_sub a h0 hn)
theorem gap_right {xs ys : List Int} (a : Pos xs) (b : Pos ys) : gap ys ≤ gap (xs ++ ys) := le_gap (pos_app a b) fun _ h0 hn => sub_right xs (gap_sub b h0 hn)
/-- one more that is no heavier than the gap -/
theorem gap_put {ws : List Int} {w : Int} (p : Pos ws) (h1 : 1 ≤ w) (h : w ≤ gap ws) : gap ws + w ≤ gap (ws ++ [w]) := by
  have h2 := gap_ge p
  refine le_gap (pos_app p (pos_one h1)) fun n h0 hn => sub_snoc.mpr ?_
  by_cases q : n < gap ws
  · exact .inl (gap_sub p h0 q)
  · exact .inr (gap_sub p (by omega) (by omega))
theorem gap_heavy {ws : List Int} {w : Int} (p : Pos ws) (h : gap ws < w) : gap (ws ++ [w]) = gap ws := by
  have h2 := gap_ge p
  refine gap_is (pos_app p (pos_one (by omega))) (by omega) (fun n h0 hn => sub_snoc.mpr (.inl (gap_sub p h0 hn))) fun q => ?_
  rcases sub_snoc.mp q with q | q
  · exact gap_not p q
  · have := sub_nonneg p q
    omega
theorem gap_less {ws : List Int} (p : Pos ws) (i : Nat) : gap (ws.take i ++ ws.drop (i + 1)) ≤ gap ws := by
  have pt : Pos (ws.take i) := fun w hw => p w (List.mem_of_mem_take hw)
  have pd : Pos (ws.drop (i + 1)) := fun w hw => p w (List.mem_of_mem_drop hw)
  by_cases h : i < ws.length
  · have e : ws = ws.take i ++ ws[i] :: ws.drop (i + 1) := by
      rw [List.getElem_cons_drop, List.take_append_drop]
    have q : ws.Perm ((ws.take i ++ ws.drop (i + 1)) ++ [ws[i]]) :=
      (List.Perm.of_eq e).trans (List.perm_middle.trans (List.perm_append_singleton _ _).symm)
    have h2 := gap_left (pos_app pt pd) (pos_one (p _ (List.getElem_mem h)))
    rw [gap_congr q]
    exact h2
  · rw [List.take_of_length_le (by omega), List.drop_of_length_le (by omega), List.append_nil]
    exact Int.le_refl _
theorem srt_nil : srt [] = [] := List.mergeSort_nil
theorem gap_nil : gap [] = 1 := by
  unfold gap
  rw [srt_nil]
  rfl

/-! ### taken from the heaviest on -/
theorem gapF_snoc : ∀ {s : List Int} {g w : Int}, (s ++ [w]).Pairwise (· ≤ ·) → gapF g (s ++ [w]) = if gapF g s < w then gapF g s else gapF g s + w
  | [], g, w, _ => rfl
  | x :: s, g, w, o => by
    obtain ⟨o1, o2⟩ := List.pairwise_cons.mp o
    have hx : x ≤ w := o1 w (List.mem_append_right _ List.mem_cons_self)
    show (if g < x then g else gapF (g + x) (s ++ [w])) = if (if g < x then g else gapF (g + x) s) < w then (if g < x then g else gapF (g + x) s) else (if g < x then g else gapF (g + x) s) + w
    by_cases h : g < x
    · rw [if_pos h, if_pos h, if_pos (by omega)]
    · rw [if_neg h, if_neg h]
      exact gapF_snoc o2
/-- what is left of n; the places that are taken; pairs of a weight and its place -/
def left : Int → List (Int × Int) → Int
  | n, [] => n
  | n, x :: r => if x.1 ≤ n then left (n - x.1) r else left n r
def took : Int → List (Int × Int) → List Int
  | _, [] => []
  | n, x :: r => if x.1 ≤ n then x.2 :: took (n - x.1) r else took n r
theorem left_zero : ∀ (m : Nat) {d : List (Int × Int)} {n : Int}, d.length = m → Pos (d.map (·.1)) → (d.map (·.1)).reverse.Pairwise (· ≤ ·) → 0 ≤ n → n < gapF 1 (d.map (·.1)).reverse → left n d = 0
  | 0, d, n, hm, _, _, h0, h1 => by
    obtain rfl := List.eq_nil_of_length_eq_zero hm
    have h1' : n < 1 := h1
    show n = 0
    omega
  | m + 1, [], n, hm, _, _, _, _ => by simp at hm
  | m + 1, x :: r, n, hm, p, o, h0, h1 => by
    have e : ((x :: r).map (·.1)).reverse = (r.map (·.1)).reverse ++ [x.1] := by rw [List.map_cons, List.reverse_cons]
    rw [e] at o h1
    rw [gapF_snoc o] at h1
    have hp : 1 ≤ x.1 := p x.1 List.mem_cons_self
    have pr : Pos (r.map (·.1)) := fun w hw => p w (List.mem_cons_of_mem _ hw)
    have o2 : (r.map (·.1)).reverse.Pairwise (· ≤ ·) := (List.pairwise_append.mp o).1
    have hl : r.length = m := by simpa using hm
    show (if x.1 ≤ n then left (n - x.1) r else left n r) = 0
    split
    · rename_i h
      refine left_zero m hl pr o2 (by omega) ?_
      split at h1 <;> omega
    · rename_i h
      refine left_zero m hl pr o2 h0 ?_
      split at h1 <;> omega
theorem took_sub : ∀ (n : Int) (d : List (Int × Int)), (took n d).Sublist (d.map (·.2))
  | _, [] => .slnil
  | n, x :: r => by
    show (if x.1 ≤ n then x.2 :: took (n - x.1) r else took n r).Sublist (x.2 :: r.map (·.2))
    split
    · exact (took_sub _ r).cons_cons _
    · exact (took_sub n r).cons _
theorem took_sum {f : Int → Int} : ∀ (n : Int) (d : List (Int × Int)), (∀ x ∈ d, f x.2 = x.1) → ((took n d).map f).sum = n - left n d
  | n, [], _ => by show (0 : Int) = n - n; omega
  | n, x :: r, h => by
    have hx := h x List.mem_cons_self
    have hr : ∀ y ∈ r, f y.2 = y.1 := fun y hy => h y (List.mem_cons_of_mem _ hy)
    show ((if x.1 ≤ n then x.2 :: took (n - x.1) r else took n r).map f).sum = n - (if x.1 ≤ n then left (n - x.1) r else left n r)
    split
    · rw [List.map_cons, List.sum_cons, took_sum _ r hr, hx]
      omega
    · exact took_sum n r hr
/-- pairs of a weight and its place, the heaviest ahead -/
def pairsF : Int → List Int → List (Int × Int)
  | _, [] => []
  | i, w :: r => (w, i) :: pairsF (i + 1) r
def gePP (a b : Int × Int) : Bool := decide (b.1 < a.1 ∨ b.1 = a.1 ∧ b.2 ≤ a.2)
def down (ws : List Int) : List (Int × Int) := (pairsF 0 ws).mergeSort gePP
theorem gePP_iff {a b : Int × Int} : gePP a b = true ↔ (b.1 < a.1 ∨ b.1 = a.1 ∧ b.2 ≤ a.2) := by
  unfold gePP
  exact decide_eq_true_iff
theorem down_perm (ws : List Int) : (down ws).Perm (pairsF 0 ws) := List.mergeSort_perm _ _
theorem down_ord (ws : List Int) : (down ws).Pairwise fun a b => gePP a b = true :=
  List.pairwise_mergeSort (fun a b c h1 h2 => by
    have h1 := gePP_iff.mp h1
    have h2 := gePP_iff.mp h2
    exact gePP_iff.mpr (by omega)) (fun a b => by
    rw [Bool.or_eq_true, gePP_iff, gePP_iff]
    omega) _
theorem down_of {ws : List Int} {d : List (Int × Int)} (p : d.Perm (pairsF 0 ws)) (o : d.Pairwise fun a b => gePP a b = true) : d = down ws :=
  List.Perm.eq_of_pairwise (fun a b _ _ h1 h2 => by
    have h1 := gePP_iff.mp h1
    have h2 := gePP_iff.mp h2
    have e1 : a.1 = b.1 := by omega
    have e2 : a.2 = b.2 := by omega
    exact Prod.ext e1 e2) o (down_ord ws) (p.trans (down_perm ws).symm)
theorem pairsF_fst : ∀ (ws : List Int) (i : Int), (pairsF i ws).map (·.1) = ws
  | [], _ => rfl
  | w :: r, i => congrArg (w :: ·) (pairsF_fst r (i + 1))
theorem pairsF_len : ∀ (ws : List Int) (i : Int), (pairsF i ws).length = ws.length
  | [], _ => rfl
  | _ :: r, i => congrArg (· + 1) (pairsF_len r (i + 1))
theorem pairsF_get : ∀ {ws : List Int} {i : Int} {j : Nat} {w : Int}, ws[j]? = some w → (pairsF i ws)[j]? = some (w, i + (j : Int))
  | [], i, j, w, h => by simp at h
  | x :: r, i, 0, w, h => by
    have e : x = w := Option.some.inj h
    subst e
    show some (x, i) = some (x, i + ((0 : Nat) : Int))
    rw [Int.natCast_zero, Int.add_zero]
  | x :: r, i, j + 1, w, h => by
    have h' : r[j]? = some w := h
    have q := pairsF_get (i := i + 1) h'
    show (pairsF (i + 1) r)[j]? = some (w, i + ((j + 1 : Nat) : Int))
    rw [q, show i + 1 + (j : Int) = i + ((j + 1 : Nat) : Int) by omega]
theorem pairsF_mem : ∀ {ws : List Int} {i : Int} {x : Int × Int}, x ∈ pairsF i ws → ∃ j : Nat, x.2 = i + (j : Int) ∧ ws[j]? = some x.1
  | [], i, x, h => by cases h
  | w :: r, i, x, h => by
    rcases List.mem_cons.mp h with e | h
    · subst e
      exact ⟨0, by show i = i + ((0 : Nat) : Int); omega, rfl⟩
    · obtain ⟨j, e1, e2⟩ := pairsF_mem h
      exact ⟨j + 1, by omega, e2⟩
theorem pairsF_nodup : ∀ (ws : List Int) (i : Int), ((pairsF i ws).map (·.2)).Nodup
  | [], _ => List.nodup_nil
  | w :: r, i => by
    show (i :: (pairsF (i + 1) r).map (·.2)).Nodup
    refine List.nodup_cons.mpr ⟨fun h => ?_, pairsF_nodup r (i + 1)⟩
    obtain ⟨x, hx, e⟩ := List.mem_map.mp h
    obtain ⟨j, e1, _⟩ := pairsF_mem hx
    omega
/-- the places told -/
def weigh (ws : List Int) (n : Int) : List Int := srt (took n (down ws))
theorem lt_of_le_nodup : ∀ {l : List Int}, l.Pairwise (· ≤ ·) → l.Nodup → l.Pairwise (· < ·)
  | [], _, _ => .nil
  | x :: r, h, n => by
    obtain ⟨h1, h2⟩ := List.pairwise_cons.mp h
    obtain ⟨n1, n2⟩ := List.nodup_cons.mp n
    refine List.pairwise_cons.mpr ⟨fun y hy => ?_, lt_of_le_nodup h2 n2⟩
    have h3 := h1 y hy
    have h4 : x ≠ y := fun e => n1 (e ▸ hy)
    omega
theorem weigh_rise (ws : List Int) (n : Int) : (weigh ws n).Pairwise (· < ·) := by
  refine lt_of_le_nodup (srt_ord _) ?_
  refine (srt_perm _).nodup_iff.mpr ?_
  refine (took_sub n (down ws)).nodup ?_
  exact ((down_perm ws).map (·.2)).nodup_iff.mpr (pairsF_nodup ws 0)
theorem weigh_place {ws : List Int} {n p : Int} (h : p ∈ weigh ws n) : 0 ≤ p ∧ p < (ws.length : Int) := by
  have h1 := (srt_perm _).mem_iff.mp h
  have h2 := (took_sub n (down ws)).subset h1
  have h3 := ((down_perm ws).map (·.2)).mem_iff.mp h2
  obtain ⟨x, hx, e⟩ := List.mem_map.mp h3
  obtain ⟨j, e1, e2⟩ := pairsF_mem hx
  have := (List.getElem?_eq_some_iff.mp e2).1
  omega
theorem perm_sum {l m : List Int} (p : l.Perm m) : l.sum = m.sum := by
  induction p with
  | nil => rfl
  | cons x _ ih => rw [List.sum_cons, List.sum_cons, ih]
  | swap x y r => simp only [List.sum_cons]; omega
  | trans _ _ h1 h2 => exact h1.trans h2
theorem weigh_sum {ws : List Int} {n : Int} (p : Pos ws) (h0 : 0 ≤ n) (h1 : n < gap ws) : ((weigh ws n).map fun i => ws.getD i.toNat 0).sum = n := by
  have q : ((weigh ws n).map fun i => ws.getD i.toNat 0).sum = ((took n (down ws)).map fun i => ws.getD i.toNat 0).sum := perm_sum ((srt_perm _).map _)
  have e : (down ws).map (·.1) |>.Perm ws := by
    have := (down_perm ws).map (·.1)
    rw [pairsF_fst] at this
    exact this
  have o : ((down ws).map (·.1)).reverse.Pairwise (· ≤ ·) := by
    rw [List.pairwise_reverse, List.pairwise_map]
    exact (down_ord ws).imp fun h => by
      have := gePP_iff.mp h
      omega
  have es : ((down ws).map (·.1)).reverse = srt ws := srt_of ((List.reverse_perm _).trans e) o
  rw [q, took_sum n (down ws) fun x hx => ?_, left_zero _ rfl (fun w hw => p w (e.mem_iff.mp hw)) o h0 (by rw [es]; exact h1)]
  · omega
  · obtain ⟨j, e1, e2⟩ := pairsF_mem ((down_perm ws).mem_iff.mp hx)
    show ws.getD x.2.toNat 0 = x.1
    rw [show x.2.toNat = j by omega, List.getD_eq_getElem?_getD, e2] <;> rfl
theorem weigh_nil (n : Int) : weigh [] n = [] := by
  unfold weigh down
  rw [show pairsF 0 [] = [] from rfl, List.mergeSort_nil]
  exact srt_nil
theorem took_len (n : Int) (d : List (Int × Int)) : (took n d).length ≤ d.length := by
  have := (took_sub n d).length_le
  rw [List.length_map] at this
  exact this
theorem weigh_len (ws : List Int) (n : Int) : (weigh ws n).length ≤ ws.length := by
  have h1 := took_len n (down ws)
  have h2 := (down_perm ws).length_eq
  rw [pairsF_len] at h2
  have h3 := (srt_perm (took n (down ws))).length_eq
  unfold weigh
  omega
end Wt
/-! ### answers: what is told of a set and a number; no program here -/
namespace Wt
theorem le_mul1 {g b : Int} (hg : 1 ≤ g) (hb : 0 ≤ b) : b ≤ g * b := by
  have := Int.mul_le_mul_of_nonneg_right hg hb
  rwa [Int.one_mul] at this
/-- a gap that shows itself -/
def lowSum (n : Int) (ws : List Int) : Int := (ws.filter fun w => decide (w < n)).sum
def leftOut (n : Int) (ws : List Int) : Bool := !ws.contains n && decide (lowSum n ws < n)
def gapOk (n : Int) (ws : List Int) (m : Int) : Bool := decide (1 ≤ n) && decide (n ≤ m) && leftOut n ws
/-- misses, as the program looks: t together so far, rs the weights in order not yet counted -/
def eat (x : Int) : Int → List Int → Int × List Int
  | t, [] => (t, [])
  | t, w :: r => if w < x then eat x (t + w) r else (t, w :: r)
def missF (m : Int) : Int → List Int → List Int → Bool
  | _, _, [] => true
  | t, rs, x :: xs => !(eat x t rs).2.head?.any (· == x) && (decide (1 ≤ x) && decide (x ≤ m) && decide (x = (eat x t rs).1 + 1)) && missF m ((eat x t rs).1 + x) (eat x t rs).2 xs
def bestOk (as ms ws : List Int) (m : Int) : Bool :=
  decide (as.length = ms.length) && (as.all fun n => decide (1 ≤ n)) && missF m 0 (srt ws) ms && decide (m < gap (ws ++ as))
/-- misses, as the statement looks: whole of the weights eaten, ahead of the misses -/
def dueF (m : Int) : Int → Int → List Int → List Int → Bool
  | _, _, _, [] => true
  | wh, ah, rs, x :: xs => (decide (ah < x) && decide (x ≤ m)) && (!(eat x wh rs).2.head?.any (· == x) && decide ((eat x wh rs).1 + ah = x - 1)) && dueF m (eat x wh rs).1 (ah + x) (eat x wh rs).2 xs
theorem eat_add (x t d : Int) : ∀ rs : List Int, eat x (t + d) rs = ((eat x t rs).1 + d, (eat x t rs).2)
  | [] => rfl
  | w :: r => by
    show (if w < x then eat x (t + d + w) r else (t + d, w :: r)) = ((if w < x then eat x (t + w) r else (t, w :: r)).1 + d, (if w < x then eat x (t + w) r else (t, w :: r)).2)
    by_cases h : w < x
    · rw [if_pos h, if_pos h, show t + d + w = (t + w) + d by omega]
      have := eat_add x (t + w) d r
      rw [show t + w + d = (t + w) + d by omega, this]
    · rw [if_neg h, if_neg h]
termination_by rs => rs.length
theorem eat_ge {x : Int} : ∀ {rs : List Int} {t : Int}, Pos rs → t ≤ (eat x t rs).1
  | [], t, _ => Int.le_refl t
  | w :: r, t, p => by
    show t ≤ (if w < x then eat x (t + w) r else (t, w :: r)).1
    by_cases h : w < x
    · rw [if_pos h]
      have := eat_ge (x := x) (rs := r) (t := t + w) fun z hz => p z (List.mem_cons_of_mem _ hz)
      have := p w List.mem_cons_self
      omega
    · rw [if_neg h]
      exact Int.le_refl t
theorem eat_pos {x : Int} : ∀ {rs : List Int} {t : Int}, Pos rs → Pos (eat x t rs).2
  | [], _, _ => fun _ h => nomatch h
  | w :: r, t, p => by
    show Pos (if w < x then eat x (t + w) r else (t, w :: r)).2
    by_cases h : w < x
    · rw [if_pos h]
      exact eat_pos fun z hz => p z (List.mem_cons_of_mem _ hz)
    · rw [if_neg h]
      exact p
theorem miss_due (m : Int) : ∀ (ms : List Int) (wh ah : Int) (rs : List Int), 0 ≤ wh → 0 ≤ ah → Pos rs → missF m (wh + ah) rs ms = dueF m wh ah rs ms
  | [], _, _, _, _, _, _ => rfl
  | x :: xs, wh, ah, rs, h1, h2, p => by
    have g := eat_ge (x := x) (t := wh) p
    have pp := eat_pos (x := x) (t := wh) p
    rw [missF, dueF, eat_add]
    by_cases hx : x = (eat x wh rs).1 + ah + 1
    · have ih := miss_due m xs (eat x wh rs).1 (ah + x) (eat x wh rs).2 (by omega) (by omega) pp
      rw [show (eat x wh rs).1 + ah + x = (eat x wh rs).1 + (ah + x) by omega, ih]
      rw [decide_eq_true (show (1 : Int) ≤ x by omega), decide_eq_true hx, decide_eq_true (show ah < x by omega),
        decide_eq_true (show (eat x wh rs).1 + ah = x - 1 by omega)]
      cases (eat x wh rs).2.head?.any (· == x) <;> cases decide (x ≤ m) <;> rfl
    · rw [decide_eq_false hx, decide_eq_false (show ¬ (eat x wh rs).1 + ah = x - 1 by omega)]
      cases (eat x wh rs).2.head?.any (· == x) <;> cases decide (x ≤ m) <;> cases decide (1 ≤ x) <;> cases decide (ah < x) <;> rfl
/-! the first gap shows itself -/
theorem gapF_shows : ∀ {s : List Int} {g : Int}, 1 ≤ g → Pos s → s.Pairwise (· ≤ ·) →
    gapF g s ∉ s ∧ g + (s.filter fun w => decide (w < gapF g s)).sum = gapF g s
  | [], g, _, _, _ => ⟨(fun h => nomatch h), by show g + 0 = g; omega⟩
  | w :: r, g, hg, p, o => by
    obtain ⟨o1, o2⟩ := List.pairwise_cons.mp o
    have hw := p w List.mem_cons_self
    have pr : Pos r := fun x hx => p x (List.mem_cons_of_mem _ hx)
    have e : gapF g (w :: r) = if g < w then g else gapF (g + w) r := rfl
    by_cases h : g < w
    · rw [e, if_pos h]
      have all : ∀ x ∈ w :: r, g < x := fun x hx => by
        rcases List.mem_cons.mp hx with z | hx
        · omega
        · have := o1 x hx
          omega
      refine ⟨fun hm => absurd (all g hm) (Int.lt_irrefl _), ?_⟩
      have : (w :: r).filter (fun x => decide (x < g)) = [] := by
        rw [List.filter_eq_nil_iff]
        intro x hx
        have := all x hx
        simp
        omega
      rw [this]
      show g + 0 = g
      omega
    · rw [e, if_neg h]
      obtain ⟨h1, h2⟩ := gapF_shows (s := r) (g := g + w) (by omega) pr o2
      have ge := gapF_ge (s := r) (g := g + w) pr
      refine ⟨fun hm => ?_, ?_⟩
      · rcases List.mem_cons.mp hm with z | z
        · omega
        · exact h1 z
      · rw [List.filter_cons, if_pos (decide_eq_true (show w < gapF (g + w) r by omega)), List.sum_cons]
        omega
theorem gap_shows {ws : List Int} (p : Pos ws) : leftOut (gap ws) ws = true := by
  obtain ⟨h1, h2⟩ := gapF_shows (g := 1) (by omega) (pos_srt p) (srt_ord ws)
  have hn : gap ws ∉ ws := fun hm => h1 ((srt_perm ws).mem_iff.mpr hm)
  have hs : lowSum (gap ws) ws = ((srt ws).filter fun w => decide (w < gap ws)).sum :=
    (perm_sum ((srt_perm ws).filter _)).symm
  unfold leftOut
  rw [Bool.and_eq_true]
  refine ⟨by simpa using hn, decide_eq_true ?_⟩
  have h2 : 1 + ((srt ws).filter fun w => decide (w < gap ws)).sum = gap ws := h2
  omega
theorem gap_ok {ws : List Int} {m : Int} (p : Pos ws) (h : gap ws ≤ m) : gapOk (gap ws) ws m = true := by
  unfold gapOk
  rw [gap_shows p, decide_eq_true (gap_ge p), decide_eq_true h]
  rfl
/-! the gaps that are closed, one by one -/
def fillF : Nat → Int → Int → Int → List Int × Int
  | 0, g, _, _ => ([], g)
  | k + 1, g, w, m => if g < w ∧ g ≤ m then (g :: (fillF k (g + g) w m).1, (fillF k (g + g) w m).2) else ([], g)
def closeL (N : Nat) (m : Int) : Int → List Int → List Int
  | _, [] => []
  | g, w :: r => (fillF N g w m).1 ++ closeL N m ((fillF N g w m).2 + w) r
/-- all of them; a thousand doublings are beyond the number -/
def gapsC (ws : List Int) (m : Int) : List Int := closeL 1000 m 1 (srt ws ++ [m + 1])
theorem fill_stop {k : Nat} {g w m : Int} (h : ¬ (g < w ∧ g ≤ m)) : fillF k g w m = ([], g) := by
  cases k with
  | zero => rfl
  | succ k => exact if_neg h
theorem fill_go {k : Nat} {g w m : Int} (h : g < w ∧ g ≤ m) : fillF (k + 1) g w m = (g :: (fillF k (g + g) w m).1, (fillF k (g + g) w m).2) := if_pos h
/-- the end of a filling: at the weight or beyond the number -/
theorem fill_end {m w : Int} : ∀ {k : Nat} {g : Int}, 1 ≤ g → m < g * 2 ^ k → g ≤ (fillF k g w m).2 ∧ ¬ ((fillF k g w m).2 < w ∧ (fillF k g w m).2 ≤ m)
  | 0, g, _, h => ⟨Int.le_refl _, fun z => by
    have z2 : g ≤ m := z.2
    rw [Int.pow_zero, Int.mul_one] at h
    omega⟩
  | k + 1, g, hg, h => by
    by_cases c : g < w ∧ g ≤ m
    · rw [fill_go c]
      have e : g * 2 ^ (k + 1) = (g + g) * 2 ^ k := by
        rw [Int.pow_succ, Int.mul_comm (2 ^ k) 2, ← Int.mul_assoc, show g * 2 = g + g by omega]
      obtain ⟨a, b⟩ := fill_end (w := w) (k := k) (g := g + g) (by omega) (by rw [← e]; exact h)
      exact ⟨by show g ≤ (fillF k (g + g) w m).2; omega, b⟩
    · rw [fill_stop c]
      exact ⟨Int.le_refl _, c⟩
theorem fill_ge {m w : Int} : ∀ {k : Nat} {g : Int}, 1 ≤ g → (∀ x ∈ (fillF k g w m).1, g ≤ x) ∧ g ≤ (fillF k g w m).2
  | 0, g, _ => ⟨(fun _ h => nomatch h), Int.le_refl g⟩
  | k + 1, g, hg => by
    by_cases c : g < w ∧ g ≤ m
    · rw [fill_go c]
      obtain ⟨a, b⟩ := fill_ge (m := m) (w := w) (k := k) (g := g + g) (by omega)
      refine ⟨fun x hx => ?_, by show g ≤ (fillF k (g + g) w m).2; omega⟩
      rcases List.mem_cons.mp hx with z | z
      · omega
      · have := a x z
        omega
    · rw [fill_stop c]
      exact ⟨(fun _ h => nomatch h), Int.le_refl g⟩
theorem close_ge {N : Nat} {m : Int} : ∀ {l : List Int} {g : Int}, 1 ≤ g → Pos l → Pos (closeL N m g l)
  | [], _, _, _ => fun _ h => nomatch h
  | w :: r, g, hg, p => by
    obtain ⟨a, b⟩ := fill_ge (m := m) (w := w) (k := N) hg
    have hw := p w List.mem_cons_self
    refine pos_app (fun x hx => ?_) (close_ge (by omega) fun x hx => p x (List.mem_cons_of_mem _ hx))
    have := a x hx
    omega
/-- weights that are all lighter are eaten -/
theorem eat_all {x : Int} : ∀ {done rs : List Int} {t : Int}, (∀ w ∈ done, w < x) → eat x t (done ++ rs) = eat x (t + done.sum) rs
  | [], rs, t, _ => by
    show eat x t rs = eat x (t + 0) rs
    rw [Int.add_zero]
  | w :: r, rs, t, h => by
    show (if w < x then eat x (t + w) (r ++ rs) else _) = _
    rw [if_pos (h w List.mem_cons_self), eat_all fun z hz => h z (List.mem_cons_of_mem _ hz), List.sum_cons, Int.add_assoc]
theorem eat_none {x t : Int} {rs : List Int} (h : ∀ w ∈ rs, x < w) : eat x t rs = (t, rs) := by
  cases rs with
  | nil => rfl
  | cons w r =>
    have := h w List.mem_cons_self
    exact if_neg (by omega)
theorem head_no {x : Int} {rs : List Int} (h : ∀ w ∈ rs, x < w) : rs.head?.any (· == x) = false := by
  cases rs with
  | nil => rfl
  | cons w r =>
    have := h w List.mem_cons_self
    show (w == x) = false
    simp
    omega
/-- one miss that is right -/
theorem miss_step {m t g : Int} {done rs xs : List Int} (hd : ∀ w ∈ done, w < g) (hr : ∀ w ∈ rs, g < w) (h1 : 1 ≤ g) (h2 : g ≤ m) (ht : t + done.sum + 1 = g)
    (k : missF m (g + g - 1) rs xs = true) : missF m t (done ++ rs) (g :: xs) = true := by
  rw [missF, eat_all hd, eat_none hr]
  rw [head_no hr, decide_eq_true h1, decide_eq_true h2, decide_eq_true (show g = t + done.sum + 1 by omega), show t + done.sum + g = g + g - 1 by omega, k]
  rfl
theorem fill_miss {m w : Int} {rs xs : List Int} (hr : ∀ z ∈ rs, w ≤ z) : ∀ {k : Nat} {g t : Int} {done : List Int}, 1 ≤ g → (∀ z ∈ done, z < g) → t + done.sum + 1 = g →
    (∀ (g' t' : Int) (done' : List Int), g ≤ g' → g' = (fillF k g w m).2 → (∀ z ∈ done', z < g') → t' + done'.sum + 1 = g' → missF m t' (done' ++ rs) xs = true) →
    missF m t (done ++ rs) ((fillF k g w m).1 ++ xs) = true
  | 0, g, t, done, hg, hd, ht, h => h g t done (Int.le_refl g) rfl hd ht
  | k + 1, g, t, done, hg, hd, ht, h => by
    by_cases c : g < w ∧ g ≤ m
    · rw [fill_go c] at h ⊢
      refine miss_step hd (fun z hz => by have := hr z hz; omega) hg c.2 ht ?_
      have := fill_miss (m := m) hr (xs := xs) (k := k) (g := g + g) (t := g + g - 1) (done := []) (by omega) (fun _ z => absurd z List.not_mem_nil) (by show g + g - 1 + 0 + 1 = g + g; omega)
        fun g' t' done' a b c d => h g' t' done' (by omega) b c d
      exact this
    · rw [fill_stop c] at h ⊢
      exact h g t done (Int.le_refl g) rfl hd ht
theorem close_miss {N : Nat} {m : Int} : ∀ (rs : List Int) (g t : Int) (done : List Int), 1 ≤ g → Pos rs → rs.Pairwise (· ≤ ·) → (∀ z ∈ done, z < g) → t + done.sum + 1 = g →
    missF m t (done ++ rs) (closeL N m g (rs ++ [m + 1])) = true
  | [], g, t, done, hg, _, _, hd, ht => by
    show missF m t (done ++ []) ((fillF N g (m + 1) m).1 ++ []) = true
    exact fill_miss (fun _ z => absurd z List.not_mem_nil) hg hd ht fun _ _ _ _ _ _ _ => rfl
  | w :: r, g, t, done, hg, p, o, hd, ht => by
    obtain ⟨o1, o2⟩ := List.pairwise_cons.mp o
    have hw := p w List.mem_cons_self
    show missF m t (done ++ (w :: r)) ((fillF N g w m).1 ++ closeL N m ((fillF N g w m).2 + w) (r ++ [m + 1])) = true
    refine fill_miss (w := w) (fun z hz => ?_) hg hd ht fun g' t' done' hg' e hd' ht' => ?_
    · rcases List.mem_cons.mp hz with q | hz
      · omega
      · exact o1 z hz
    · rw [← e]
      have := close_miss (N := N) (m := m) r (g' + w) t' (done' ++ [w]) (by omega) (fun x hx => p x (List.mem_cons_of_mem _ hx)) o2
        (fun z hz => by
          rcases List.mem_append.mp hz with q | q
          · have := hd' z q
            omega
          · have := List.mem_singleton.mp q
            omega) (by rw [List.sum_append]; show t' + (done'.sum + (w + 0)) + 1 = g' + w; omega)
      rw [List.append_assoc] at this
      exact this
/-- with the gaps put to it all up to the number is some sum -/
theorem fill_sub {m w : Int} : ∀ {k : Nat} {g : Int} {acc : List Int}, 1 ≤ g → (∀ n, 0 ≤ n → n < g → n ≤ m → Sub acc n) → ∀ n, 0 ≤ n → n < (fillF k g w m).2 → n ≤ m → Sub (acc ++ (fillF k g w m).1) n
  | 0, g, acc, _, h, n, h0, h1, h2 => sub_left _ (h n h0 h1 h2)
  | k + 1, g, acc, hg, h, n, h0, h1, h2 => by
    by_cases c : g < w ∧ g ≤ m
    · rw [fill_go c] at h1 ⊢
      have := fill_sub (m := m) (w := w) (k := k) (g := g + g) (acc := acc ++ [g]) (by omega) (fun n h0 h1 h2 => sub_snoc.mpr (by
        by_cases q : n < g
        · exact .inl (h n h0 q h2)
        · exact .inr (h (n - g) (by omega) (by omega) (by omega)))) n h0 h1 h2
      rw [List.append_assoc] at this
      exact this
    · rw [fill_stop c] at h1 ⊢
      exact sub_left _ (h n h0 h1 h2)
theorem close_sub {N : Nat} {m : Int} (hN : m < 2 ^ N) : ∀ (rs : List Int) (g : Int) (acc : List Int), 1 ≤ g → Pos rs → (∀ n, 0 ≤ n → n < g → n ≤ m → Sub acc n) →
    ∀ n, 0 ≤ n → n ≤ m → Sub (acc ++ (rs ++ closeL N m g (rs ++ [m + 1]))) n
  | [], g, acc, hg, _, h, n, h0, h2 => by
    have big : m < g * 2 ^ N := Int.lt_of_lt_of_le hN (le_mul1 hg (Int.le_of_lt (Int.pow_pos (by omega))))
    obtain ⟨_, e2⟩ := fill_end (w := m + 1) (k := N) hg big
    have s := fill_sub (m := m) (w := m + 1) (k := N) hg h n h0 (by omega) h2
    show Sub (acc ++ ((fillF N g (m + 1) m).1 ++ [])) n
    rw [List.append_nil]
    exact s
  | w :: r, g, acc, hg, p, h, n, h0, h2 => by
    have hw := p w List.mem_cons_self
    have big : m < g * 2 ^ N := Int.lt_of_lt_of_le hN (le_mul1 hg (Int.le_of_lt (Int.pow_pos (by omega))))
    obtain ⟨e1, e2⟩ := fill_end (w := w) (k := N) hg big
    have s := fill_sub (m := m) (w := w) (k := N) hg h
    have := close_sub hN r ((fillF N g w m).2 + w) (acc ++ (fillF N g w m).1 ++ [w]) (by omega) (fun x hx => p x (List.mem_cons_of_mem _ hx)) (fun n h0 h1 h2 => sub_snoc.mpr (by
      by_cases q : n < (fillF N g w m).2
      · exact .inl (s n h0 q h2)
      · exact .inr (s (n - w) (by omega) (by omega) (by omega)))) n h0 h2
    refine (sub_perm ?_ n).mp this
    show ((acc ++ (fillF N g w m).1 ++ [w]) ++ (r ++ closeL N m ((fillF N g w m).2 + w) (r ++ [m + 1]))).Perm (acc ++ ((w :: r) ++ ((fillF N g w m).1 ++ closeL N m ((fillF N g w m).2 + w) (r ++ [m + 1]))))
    rw [List.append_assoc, List.append_assoc]
    refine List.Perm.append_left acc ?_
    have q1 : ((fillF N g w m).1 ++ ([w] ++ (r ++ closeL N m ((fillF N g w m).2 + w) (r ++ [m + 1])))).Perm (([w] ++ r) ++ ((fillF N g w m).1 ++ closeL N m ((fillF N g w m).2 + w) (r ++ [m + 1]))) := by
      rw [← List.append_assoc [w] r, ← List.append_assoc, ← List.append_assoc ([w] ++ r)]
      exact List.Perm.append_right _ List.perm_append_comm
    exact q1
theorem gapsC_pos {ws : List Int} {m : Int} (p : Pos ws) (hm : 0 ≤ m) : Pos (gapsC ws m) :=
  close_ge (by omega) (pos_app (pos_srt p) (pos_one (by omega)))
theorem gapsC_best {ws : List Int} {m : Int} (p : Pos ws) (hm : 0 ≤ m) (hN : m < 2 ^ 1000) : bestOk (gapsC ws m) (gapsC ws m) ws m = true := by
  have hp := gapsC_pos p hm
  have h1 : missF m 0 (srt ws) (gapsC ws m) = true := close_miss (srt ws) 1 0 [] (by omega) (pos_srt p) (srt_ord ws) (fun _ h => nomatch h) rfl
  have h2 : m < gap (ws ++ gapsC ws m) := by
    have := le_gap (pos_app p hp) (g := m + 1) fun n h0 hn => by
      have := close_sub hN (srt ws) 1 [] (by omega) (pos_srt p) (fun n h0 h1 _ => by
        have e : n = 0 := by omega
        rw [e]
        exact sub_zero _) n h0 (by omega)
      exact (sub_perm ((srt_perm ws).append_right _) n).mp this
    omega
  unfold bestOk
  rw [h1, decide_eq_true h2, decide_eq_true rfl, show ((gapsC ws m).all fun n => decide (1 ≤ n)) = true from List.all_eq_true.mpr fun x hx => decide_eq_true (hp x hx)]
  rfl
/-! sorting that the kernel can do -/
def ins1 (x : Int) : List Int → List Int
  | [] => [x]
  | y :: r => if x ≤ y then x :: y :: r else y :: ins1 x r
def isrt : List Int → List Int
  | [] => []
  | x :: r => ins1 x (isrt r)
theorem ins1_perm (x : Int) : ∀ l : List Int, (ins1 x l).Perm (x :: l)
  | [] => List.Perm.refl _
  | y :: r => by
    unfold ins1
    split
    · exact List.Perm.refl _
    · exact ((ins1_perm x r).cons y).trans (List.Perm.swap x y r)
theorem ins1_ord {x : Int} : ∀ {l : List Int}, l.Pairwise (· ≤ ·) → (ins1 x l).Pairwise (· ≤ ·)
  | [], _ => List.pairwise_singleton _ _
  | y :: r, o => by
    obtain ⟨o1, o2⟩ := List.pairwise_cons.mp o
    unfold ins1
    split
    · rename_i h
      refine List.pairwise_cons.mpr ⟨fun z hz => ?_, o⟩
      rcases List.mem_cons.mp hz with e | hz
      · omega
      · have := o1 z hz
        omega
    · rename_i h
      refine List.pairwise_cons.mpr ⟨fun z hz => ?_, ins1_ord o2⟩
      rcases List.mem_cons.mp ((ins1_perm x r).mem_iff.mp hz) with e | hz
      · omega
      · exact o1 z hz
theorem isrt_perm : ∀ l : List Int, (isrt l).Perm l
  | [] => List.Perm.refl _
  | x :: r => (ins1_perm x _).trans ((isrt_perm r).cons x)
theorem isrt_ord : ∀ l : List Int, (isrt l).Pairwise (· ≤ ·)
  | [] => .nil
  | _ :: r => ins1_ord (isrt_ord r)
theorem srt_is (l : List Int) : srt l = isrt l := (srt_of (isrt_perm l) (isrt_ord l)).symm
theorem gap_is_F (l : List Int) : gap l = gapF 1 (isrt l) := by
  unfold gap
  rw [srt_is]
end Wt
/-! ### rules that the bundles lack: sorted of pairs by reverse=True, set(list of ints), sorted of such a set of any size, list + list that is read -/
namespace Wt
open PySem PySem.Spec PyProof.Rows L2
abbrev eset (w : World) : Obj := { cls := .type "set", dict := none, data := .set #[] 0 (.fresh 0 0 (!w.params.followText "set-order")) }
section
variable {P : Program} {w : World} {A : Around} {E : Value → Shared → Prop} {s : Shared}
set_option maxHeartbeats 3200000 in
theorem setL_call {l : Addr} {us : Array Value} (ns : List Int) {Q : Value → Shared → Prop}
    (nh : A.handled = none) (isl : s.heap.IsList l us) (ui : IntsAre us.toList ns) (room : ns.length + 1 < scanBound)
    (k : ∀ (h' : Heap) (tk c : Nat), SetR w h' s.heap.objs.size (fun j => decide (j ∈ ns)) c → c ≤ ns.length →
      (∀ b o, s.heap.get? b = some o → h'.get? b = some o) → Q (.ref s.heap.objs.size) { s with heap := h', toks := tk }) :
    wpAny (model P w) A (call (.type "set") [.ref l]) Q E s := by
  have un : us.size = ns.length := (Array.length_toList (xs := us)).symm.trans (IntsAre.length ui)
  obtain ⟨mc, mt, mro⟩ := F.called_set.mro
  have f1 := F.called_set.made
  have f2 := F.called_set.sub
  have f3 := F.called_set.notType
  have f4 := F.called_set.canCreate
  have f5 := F.typeCall_set_1 (.ref l)
  refine wpAny_call (codeAny_of_tree ?_)
  show wpAny (model P w) _ (callAny (.type "set") _) _ _ _
  refine wpAny_pure ⟨Code.quiet_builtin _ (by decide +kernel), codeAny_builtin F.entry_type_call ?_⟩
  rw [Around.under_plain (weight_type_call_type "set" [.ref l] []) rfl]
  repeat (any_goals (first | assumption | wp_step))

  refine codeAny_mono (code_set_led1 (.ref l) (E := E) (Q₁ := fun v s1 => v = .ref s.heap.objs.size ∧ s1 = { s with heap := s.heap.push (eset w) }) ⟨rfl, rfl⟩) fun r s1 hr => ?_
  cases r with
  | error e => exact hr
  | ok fl =>
    cases fl with
    | ret v =>
      obtain ⟨rfl, rfl⟩ := hr
      have at0 : (s.heap.push (eset w)).get? s.heap.objs.size = some (eset w) := Heap.get?_push_size _ rfl
      have ty0 : Shared.TypeIs { s with heap := s.heap.push (eset w) } (.ref s.heap.objs.size) "set" := ⟨_, at0, rfl⟩
      have i1 := F.called_set.init.lookup
      have i2 := F.called_set.init.bind (.ref s.heap.objs.size)
      repeat (any_goals (first | assumption | wp_step))

      refine codeAny_mono (codeAny_call_builtin (R := wants (fun r s2 => r = .none ∧ ∃ h' tk c, s2 = { s with heap := h', toks := tk } ∧
          SetR w h' s.heap.objs.size (fun j => decide (j ∈ ns)) c ∧ c ≤ ns.length ∧ (∀ b o, s.heap.get? b = some o → h'.get? b = some o)) E)
          F.called_set.init.plain F.entry_set_init (check_set_init_1 ty0 ?_)) fun r2 s2 hr2 => ?_
      · obtain ⟨ob, obl, obc, nb, obd⟩ := isl
        obtain ⟨qc, qd, qt, qs⟩ := ob
        simp only at obc obd
        subst obc; subst obd
        have atl : (s.heap.push (eset w)).get? l = some { cls := .type "list", dict := qd, data := .seq us nb, slots := qs } := Heap.get?_push_of_some _ obl
        have g1 := F.sub_list_set
        have g2 := F.sub_list_frozenset
        have g3 : (Value.type "list" == Value.type "dict") = false := by decide
        have isl1 : (s.heap.push (eset w)).IsList l us := ⟨_, atl, rfl, nb, rfl⟩
        unfold Builtin.«set.__init__» noKeywords Builtin.Frozenset.updateFrom
        generalize hIt : pyIter = It
        wp_walk
        subst hIt

        refine wpAny_pyIter_list isl1 ?_
        refine wpAny_bind (wpAny_runValue ?_)
        have lS : l < s.heap.objs.size := Heap.lt_size obl
        have nh3 : A.in1.in1.in1.handled = none := by simp [nh]
        have sz1 : (s.heap.push (eset w)).objs.size = s.heap.objs.size + 1 := Heap.size_push ..
        have lI : l ≠ (s.heap.push (eset w)).objs.size := sz1 ▸ Nat.ne_of_lt (Nat.lt_succ_of_lt lS)
        have Sf : s.heap.objs.size ∉ [(s.heap.push (eset w)).objs.size, l] := by
          rw [sz1]
          intro z
          rcases List.mem_cons.mp z with z | z
          · exact Nat.ne_of_lt (Nat.lt_succ_self _) z
          · exact Nat.ne_of_lt lS (List.mem_singleton.mp z).symm
        have vals : ∀ (i : Nat) (v : Value), us[i]? = some v → ∃ z t, ns[i]? = some z ∧ v = .int z t := fun i v hv => by
          have hi : i < ns.length := un ▸ (Array.getElem?_eq_some_iff.mp hv).1
          obtain ⟨t, e⟩ := PyProof.Rows.IntsAre.int_at ui i v ((Array.getElem?_toList).trans hv)
          refine ⟨ns[i], t, List.getElem?_eq_getElem hi, e.trans ?_⟩
          rw [List.getD_eq_getElem?_getD, List.getElem?_eq_getElem hi]
          rfl
        refine set_update_ints ((Walks.list nh3 _ l lI us).toS) s.heap.objs.size Sf ns un room vals (us.size - 0) 0 _ (by omega) (Nat.zero_le _)
          ⟨⟨_, Heap.get?_push_size _ rfl, rfl, rfl⟩, (isl1.push _)⟩ ?start ?fin
        case start =>
          exact ⟨0, Nat.le_refl 0, setR_new_at (Heap.get?_push_of_some _ at0)⟩
        case fin =>
          intro s3 c3 mv hc3 R3
          obtain ⟨h3, g3', d3, t3, o3⟩ := s3
          obtain rfl : g3' = s.gens := mv.gens
          obtain rfl : d3 = s.drawn := mv.drawn
          obtain rfl : o3 = s.os := mv.os
          show wpAny (model P w) _ _ _ _ _
          refine wpAny_pure ?_
          show wpAny (model P w) _ (ret Value.none) _ _ _
          refine wpAny_pure ⟨rfl, h3, t3, c3, rfl, R3, by omega, fun b o e => ?_⟩
          have lb := Heap.lt_size e
          refine mv.heap b o (fun z => ?_) (Heap.get?_push_of_some _ (Heap.get?_push_of_some _ e))
          rcases List.mem_cons.mp z with z | z
          · exact Nat.ne_of_lt lb z
          · exact Nat.ne_of_lt (Nat.lt_succ_of_lt lb) ((List.mem_singleton.mp z).trans sz1)

      · cases r2 with
        | error e => exact hr2
        | ok fl2 =>
          cases fl2 with
          | ret r =>
            obtain ⟨rfl, h3, t3, c3, rfl, R3, hc3, hk3⟩ := hr2
            repeat (any_goals (first | assumption | wp_step))
            exact k _ _ _ R3 hc3 hk3
          | _ => exact hr2.elim
    | _ => exact hr.elim

/-- sorted of a set of ints, of any size below the scan's bound -/
theorem sortedSet_call {a : Addr} {S : Int → Bool} {n : Nat} {Q : Value → Shared → Prop} (R : SetR w s.heap a S n) (nh : A.handled = none)
    (k : ∀ s' p (out : List Value) (c : Nat) (ns : List Int), (∀ b o, s.heap.get? b = some o → s'.heap.get? b = some o) → s'.gens = s.gens → s'.os = s.os → s.heap.objs.size ≤ p →
      s'.heap.get? p = some (seqObj "list" out.toArray c) → IntsAre out ns → ns.Pairwise (· < ·) → (∀ j, j ∈ ns ↔ S j = true) → ns.length = n → Q (.ref p) s') :
    wpAny (model P w) A (call (.builtin "sorted") [.ref a]) Q E s := by
  obtain ⟨ob, es, ep, t, at0, ex, dt, good, nd, mem, bd, ft, sz, ris, led⟩ := R
  refine Calls.call_function_entry kind_sorted plain_sorted entry_sorted (args_sorted1 _) ?_
  unfold Builtin.«sorted»
  refine wpAny_bind (m := checkCount "sorted" 1 1 _) (wpAny_pure ?_)
  refine wpAny_bind (collect_set (A := A.in1) nh ⟨ob, at0, ex.1, dt⟩ ft bd ris led fun s1 us k1 z1 g1 o1 pm => ?_)
  have ul : us.length = n := pm.length_eq.trans ((List.length_map _).trans ((Array.length_toList).trans sz))
  have ui : IntsAre us (us.map SrtO.iv) := SrtO.ints_iv fun v hv => by
    obtain ⟨e, he, q⟩ := List.mem_map.mp (pm.mem_iff.mp hv)
    obtain ⟨z, tk, e1, _⟩ := good e he
    exact ⟨z, tk, q ▸ e1⟩
  have pk : (us.map SrtO.iv).Perm (es.toList.map keyOf) := by
    refine (pm.map SrtO.iv).trans (List.Perm.of_eq ?_)
    rw [List.map_map]
    refine List.map_congr_left fun e he => ?_
    obtain ⟨z, tk, e1, _⟩ := good e he
    show SrtO.iv e.2 = keyOf e
    unfold keyOf
    rw [e1]
    rfl
  have fits : us.length ≤ sizeLine := by
    have h4 : scanBound = 4096 := rfl
    rw [ul, ← sz]
    exact Nat.le_trans (Nat.le_of_lt bd) (by decide)
  refine wpAny_bind (wpAny_newList ?_ fits)
  have atL : (s1.heap.push (seqObj "list" us.toArray 0)).get? s1.heap.objs.size = some (seqObj "list" us.toArray 0) := Heap.get?_push_size _ rfl
  refine wpAny_bind (wpAny_holding (wpAny_call_entry slot_list_sort ⟨_, atL, rfl⟩ entry_list_sort
    (SrtO.list_sort_ord SrtO.swo_int atL fits (fun h2 => SrtO.ints_sortable ui h2) fun out h1 h2 => ⟨_, rfl, ?_⟩) (args_list_sort _)))
  obtain ⟨c, atC⟩ := sortedHeap_at (vs := us) (out := out.toArray) atL
  obtain ⟨j1, j2, j3⟩ := SrtO.ints_out ui h1 h2
  have pn := j2.trans pk
  refine wpAny_pure ⟨_, rfl, k _ s1.heap.objs.size out c (out.map SrtO.iv) (fun b u e => ?_) g1 o1 z1 atC j1 (L2.lt_of_le_nodup _ j3 (pn.nodup_iff.mpr nd)) (fun j => by rw [pn.mem_iff, ← mem j]) ?_⟩
  · have e1 := k1 b u e
    have lb := Heap.lt_size e1
    refine (sortedHeap_old (Nat.ne_of_lt lb) ?_).trans (Heap.get?_push_of_some _ e1)
    rw [size_push']
    exact Nat.lt_succ_of_lt lb
  · exact pn.length_eq.trans ((List.length_map _).trans ((Array.length_toList).trans sz))
end
section
variable {X : Cx}
/-- set(xs), xs a list of ints -/
def rSetI (K : PySem.W.Frag) (w : World) : List V → Hp → VK → Prop := fun vs H Q => ∃ (l : Addr) (ns : List Int), vs = [V.ref l] ∧ SqL K H l (ns.map V.int) ∧ ns.length < 4000 ∧
  ∀ a c, H a = none → Q (.ref a) (upd H a (SetO w a (fun j => decide (j ∈ ns)) c))
theorem cr_setI (calm : X.calm = true) : CallR X (.type "set") (rSetI X.K X.w) := by
  intro ps st sl H vs us Q I r h
  obtain ⟨l, ns, rfl, hl, hn, q⟩ := h
  obtain ⟨us', rv, pl, hz⟩ := I.list hl
  rw [Vals.ref1 r]
  have h4 : scanBound = 4096 := rfl
  refine setL_call ns (I.ok.hd calm) pl.isList (by simpa using rv.ints) (by omega) fun h' tk c R _ kp => ?_
  exact ⟨.ref _, upd H st.heap.objs.size (SetO X.w st.heap.objs.size (fun j => decide (j ∈ ns)) c), I.laid (t' := tk) kp (Nat.le_refl _) (setO_new R), rfl, q _ c (I.hok.fresh (Nat.le_refl _))⟩
/-- sorted(s), s a set of ints of any size -/
def rSortedS2 (w : World) : List V → Hp → VK → Prop := fun vs H Q => ∃ (a : Addr) (S : Int → Bool) (n : Nat), vs = [V.ref a] ∧ H a = some (SetO w a S n) ∧
  ∀ (ns : List Int) (p : Addr), ns.Pairwise (· < ·) → (∀ j : Int, j ∈ ns ↔ S j = true) → H p = none → Q (.ref p) (upd H p (.lst (ns.map V.int)))
theorem cr_sortedS2 (calm : X.calm = true) : CallR X (.builtin "sorted") (rSortedS2 X.w) := by
  intro ps st sl H vs us Q I r h
  obtain ⟨a, S, n, rfl, ha, q⟩ := h
  have R := setO_get I ha
  have hn4 : n < scanBound := by
    obtain ⟨_, _, _, _, _, _, _, _, _, _, bd, _, sz, _⟩ := R
    omega
  rw [Vals.ref1 r]
  refine sortedSet_call R (I.ok.hd calm) fun s' p out c ns kp g o hp atp hi rise mem hl => ?_
  have hz : (ns.map V.int).length ≤ sizeLine := by
    rw [List.length_map, hl]
    exact Nat.le_trans (Nat.le_of_lt hn4) (by decide)
  have hnew : H p = none := I.hok.fresh hp
  have J : Inv X ps sl (upd H p (.lst (ns.map V.int))) { st with heap := s'.heap, gens := s'.gens, drawn := s'.drawn, toks := s'.toks } :=
    I.call (ch := []) (Un.laid kp hp hnew) (I.hok.laid kp hp ⟨hz, out, c, vals_of_ints hi, atp⟩) (by rw [g]; exact I.bare) (fun _ z => nomatch z)
  obtain ⟨h1, g1, d1, t1, o1⟩ := s'
  obtain rfl : o1 = st.os := o
  exact ⟨.ref p, _, J, rfl, q ns p rise mem hnew⟩
/-- sorted(xs, reverse=True), xs a list of pairs of ints -/
def rSortedDn (K : PySem.W.Frag) : List V → List V → Hp → VK → Prop := fun vs zs H Q => ∃ (a : Addr) (xs : List V) (f : V → Int × Int), vs = [V.ref a] ∧ zs = [.bl true] ∧ SqL K H a xs ∧
  (∀ x ∈ xs, ∃ t, x = V.ref t ∧ H t = some (.tup [.int (f x).1, .int (f x).2])) ∧
  ∀ ys p, SrtO.Srtd (ltP f) ys.reverse → ys.Perm xs → H p = none → Q (.ref p) (upd H p (.lst ys))
theorem cr_sortedDn : CallRK X (.builtin "sorted") [Str.ofString "reverse"] (rSortedDn X.K) := by
  intro ps st sl H vs zs us ws Q I r rz h
  obtain ⟨a, xs, f, rfl, rfl, hl, hx, q⟩ := h
  obtain rfl := Vals.ref1 r
  obtain ⟨w1, rfl, e0⟩ := vals1 rz
  obtain rfl : w1 = Value.bool true := e0
  obtain ⟨us', rv, pl, hz⟩ := I.list hl
  obtain ⟨b1, b2⟩ := refs_back rv fun x m => (hx x m).elim fun t e => ⟨t, e.1⟩
  have two : ∀ v ∈ us', Srt.IsPair st.heap v (f (backV v)).1 (f (backV v)).2 := fun v hv => by
    obtain ⟨t, rfl⟩ := b2 v hv
    obtain ⟨t', et, ht⟩ := hx (V.ref t) (b1 ▸ List.mem_map.mpr ⟨_, hv, rfl⟩)
    cases et
    obtain ⟨_, its, r2, ob, ho, hc, n, hd⟩ := I.hok _ _ ht
    obtain ⟨v1, v2, rfl, ⟨k1, rfl⟩, ⟨k2, rfl⟩⟩ := vals2 r2
    exact ⟨t, ob, k1, k2, n, rfl, ho, hc, hd⟩
  refine SrtR.sorted_ordK (b := true) (fun _ => rfl) (args_sorted_rev _ _) (fun _ => args_list_sort_rev _ _) (SrtO.swo_lex fun u => f (backV u)) pl.isList (by rw [← rv.length]; exact hz) (fun h2 h1 a1 ha1 kk => ?_) fun out o1 o2 => ?_
  · refine SrtO.pairs_sortableO (s := { st with heap := h1 }) (by omega) (fun v hm => (two v hm).keeps fun b o e _ => (kk b o e).2) fun o e => ?_
    obtain rfl := Option.some.inj (e.symm.trans ha1)
    exact fun c => absurd (Value.type.inj c) (by decide)
  · have op : out.Perm us' := o2.perm.trans (List.reverse_perm _)
    have rf : ∀ u ∈ out.reverse, ∃ a, u = Value.ref a := fun u hu => b2 u (op.mem_iff.mp (List.mem_reverse.mp hu))
    have mp : (out.reverse.map backV).Perm xs := by
      rw [b1]
      exact ((List.reverse_perm out).trans op).map backV
    obtain ⟨ep, he⟩ := sortedAll_at st.heap us' out.reverse.toArray
    have ea : out.toArray.reverse = out.reverse.toArray := by
      apply Array.ext'
      rw [Array.toList_reverse]
    have ls : (out.reverse.map backV).length ≤ sizeLine := by
      rw [mp.length_eq]
      exact hz
    refine ⟨.ref _, upd H (st.heap.objs.size + 1) (.lst (out.reverse.map backV)), I.laid (t' := st.toks) (fun _ _ => sortedAll_old) (Nat.le_succ _) ⟨ls, out.reverse, ep, vals_back rf, ?_⟩, rfl, q _ _ ?_ mp (I.hok.fresh (Nat.le_succ _))⟩
    · rw [if_pos rfl, ea]
      exact he
    · rw [← List.map_reverse, List.reverse_reverse]
      exact SrtO.srtd_map o1
end
end Wt
/-! ### what the rules evaluate to -/
namespace Wt
open PySem PySem.Spec PyProof.Rows L2 Evl
section
variable {K : PySem.W.Frag} {w : World} {σ : L2.St} {H H' : Hp} {ta tb te : TE} {t u : TT} {x y z v : V}
theorem sq_of_ty {a : Addr} {xs : List V} (h : SqL K H a xs) : TyX K H (.ref a) (.type "list") := by
  rcases h with (h | ⟨o, h⟩) | ⟨o, its, n, h, c, _⟩
  · exact .base (.lst h)
  · exact .base (.frz h)
  · exact .kList h c
theorem rc_isiI {n : String} {i : Int} {b : Bool} (h : kitB "int" n = some b) : RC (rIsi K) [.int i, .ty n] H (.bl b) := fun H1 _ _ q =>
  ⟨.int i, .ty n, .type "int", .type n, b, rfl, .ty n, .base (.int i), kit_ty h, q H1 (Ex.refl H1)⟩
theorem rc_isiL {n : String} {a : Addr} {xs : List V} {b : Bool} (hs : SqL K H a xs) (h : kitB "list" n = some b) : RC (rIsi K) [.ref a, .ty n] H (.bl b) := fun H1 e _ q =>
  ⟨.ref a, .ty n, .type "list", .type n, b, rfl, .ty n, sq_of_ty (ex_l e hs), kit_ty h, q H1 (Ex.refl H1)⟩
theorem ev_isiI {n : String} {i : Int} {b : Bool} (h : kitB "int" n = some b) (ha : Ev ta σ H (.int i)) : Ev (tCB (rIsi K) (tCons ta (tCons (tC (.ty n)) tNil))) σ H (.bl b) :=
  ev_cb (ea_cons ha (ea_cons ev_c ea_nil)) (rc_isiI h)
theorem ev_isiL {n : String} {a : Addr} {xs : List V} {b : Bool} (hs : SqL K H a xs) (h : kitB "list" n = some b) (ha : Ev ta σ H (.ref a)) : Ev (tCB (rIsi K) (tCons ta (tCons (tC (.ty n)) tNil))) σ H (.bl b) :=
  ev_cb (ea_cons ha (ea_cons ev_c ea_nil)) (rc_isiL hs h)
theorem rc_sum {a : Addr} {ns : List Int} (hs : SqL K H a (ns.map V.int)) : RC (rSum K) [.ref a] H (.int ns.sum) := fun H1 e _ q => ⟨a, ns, rfl, ex_l e hs, q H1 (Ex.refl H1)⟩
theorem ev_sum {a : Addr} {ns : List Int} (hs : SqL K H a (ns.map V.int)) (ha : Ev ta σ H (.ref a)) : Ev (tCB (rSum K) (tCons ta tNil)) σ H (.int ns.sum) := ev_cb (ea_cons ha ea_nil) (rc_sum hs)
/-- a call on one new list -/
theorem ev_cbN {r : List V → Hp → VK → Prop} {xs : List V} (h : EvL ta σ H xs) (hr : ∀ p H1, H1 p = some (.lst xs) → Ex H H1 → RC r [.ref p] H1 z) : Ev (tCB r (tCons ta tNil)) σ H z := fun H1 e Q q =>
  h H1 e _ fun p H2 _ e2 hp => hr p H2 hp (e.trans e2) H2 (Ex.refl H2) Q fun H3 e3 => q H3 (e2.trans e3)
theorem el_cbN {r : List V → Hp → VK → Prop} {xs ys : List V} (h : EvL ta σ H xs) (hr : ∀ p H1, H1 p = some (.lst xs) → Ex H H1 → RCL r [.ref p] H1 ys) : EvL (tCB r (tCons ta tNil)) σ H ys := fun H1 e Q q =>
  h H1 e _ fun p H2 _ e2 hp => hr p H2 hp (e.trans e2) H2 (Ex.refl H2) Q fun p' H3 hp' e3 h3 => q p' H3 (fresh_back e2 hp') (e2.trans e3) h3
theorem ev_sumN {ns : List Int} {xs : List V} (h : EvL ta σ H xs) (hx : xs = ns.map V.int) : Ev (tCB (rSum K) (tCons ta tNil)) σ H (.int ns.sum) := ev_cbN h fun p H1 hp _ => rc_sum (hx ▸ sq_of hp)
theorem ev_allN {bs : List Bool} {xs : List V} (h : EvL ta σ H xs) (hx : xs = bs.map V.bl) : Ev (tCB (rAll K) (tCons ta tNil)) σ H (.bl (bs.all id)) := ev_cbN h fun p H1 hp _ => fun H2 e _ q => ⟨p, bs, rfl, ex_l e (hx ▸ sq_of hp), q H2 (Ex.refl H2)⟩
theorem rcl_sorted {a : Addr} {ns : List Int} (hs : SqL K H a (ns.map V.int)) : RCL (rSortedI K) [.ref a] H ((srt ns).map V.int) := fun H1 e _ q => ⟨a, ns, rfl, ex_l e hs, fun ns' p pm o hp => by
  obtain rfl := srt_of pm o
  exact q p _ hp (Ex.new hp) upd_same⟩
theorem el_sorted {a : Addr} {ns : List Int} (hs : SqL K H a (ns.map V.int)) (ha : Ev ta σ H (.ref a)) : EvL (tCB (rSortedI K) (tCons ta tNil)) σ H ((srt ns).map V.int) := el_cb (ea_cons ha ea_nil) (rcl_sorted hs)
theorem el_sortedN {ns : List Int} {xs : List V} (h : EvL ta σ H xs) (hx : xs = ns.map V.int) : EvL (tCB (rSortedI K) (tCons ta tNil)) σ H ((srt ns).map V.int) := el_cbN h fun p H1 hp _ => rcl_sorted (hx ▸ sq_of hp)
/-- the members, each once, in order -/
theorem rise_uniq {l m : List Int} (h : ∀ j, j ∈ l ↔ j ∈ m) (a : l.Pairwise (· < ·)) (b : m.Pairwise (· < ·)) : l = m := by
  refine List.Perm.eq_of_pairwise (fun _ _ _ _ h1 h2 => absurd h1 (Int.lt_asymm h2)) a b ?_
  exact (List.perm_ext_iff_of_nodup (a.imp fun h => Int.ne_of_lt h) (b.imp fun h => Int.ne_of_lt h)).mpr h
/-- sorted(set(xs)): the rising list of xs' members -/
theorem el_sortedSet {a : Addr} {ns ms : List Int} (hs : SqL K H a (ns.map V.int)) (hl : ns.length < 4000) (ha : Ev ta σ H (.ref a)) (rise : ms.Pairwise (· < ·)) (mem : ∀ j, j ∈ ms ↔ j ∈ ns) :
    EvL (tCB (rSortedS2 w) (tCons (tCB (rSetI K w) (tCons ta tNil)) tNil)) σ H (ms.map V.int) := fun H1 e Q q =>
  ha H1 e _ fun H2 e2 => ⟨a, ns, rfl, ex_l (e.trans e2) hs, hl, fun s c hn => ⟨s, _, c, rfl, upd_same, fun out p r2 m2 hp => by
    have eo : out = ms := rise_uniq (fun j => (m2 j).trans (decide_eq_true_iff.trans (mem j).symm)) r2 rise
    subst eo
    exact q p _ (fresh_back (e2.trans (Ex.new hn)) hp) ((e2.trans (Ex.new hn)).trans (Ex.new hp)) upd_same⟩⟩
theorem el_sortedSetN {ns ms : List Int} {xs : List V} (h : EvL ta σ H xs) (hx : xs = ns.map V.int) (hl : ns.length < 4000) (rise : ms.Pairwise (· < ·)) (mem : ∀ j, j ∈ ms ↔ j ∈ ns) :
    EvL (tCB (rSortedS2 w) (tCons (tCB (rSetI K w) (tCons ta tNil)) tNil)) σ H (ms.map V.int) := fun H1 e Q q =>
  h H1 e _ fun a H2 _ e2 ha => ⟨a, ns, rfl, hx ▸ sq_of ha, hl, fun s c hn => ⟨s, _, c, rfl, upd_same, fun out p r2 m2 hp => by
    have eo : out = ms := rise_uniq (fun j => (m2 j).trans (decide_eq_true_iff.trans (mem j).symm)) r2 rise
    subst eo
    exact q p _ (fresh_back (e2.trans (Ex.new hn)) hp) ((e2.trans (Ex.new hn)).trans (Ex.new hp)) upd_same⟩⟩
/-- list + list -/
theorem el_cat {a b : Addr} {xs ys : List V} (hx : H a = some (.lst xs)) (hy : H b = some (.lst ys)) (hl : xs.length + ys.length ≤ 100000) (ha : Ev ta σ H (.ref a)) (hb : Ev tb σ H (.ref b)) : EvL (tOp rCat ta tb) σ H (xs ++ ys) := fun H1 e Q q =>
  ha H1 e _ fun H2 e2 => hb H2 (e.trans e2) _ fun H3 e3 => ⟨a, b, xs, ys, rfl, rfl, (e.trans (e2.trans e3)) a _ hx, (e.trans (e2.trans e3)) b _ hy, sz_of hl, fun p hp => q p _ (fresh_back (e2.trans e3) hp) ((e2.trans e3).trans (Ex.new hp)) upd_same⟩
theorem el_catN {a : Addr} {xs ys : List V} (hx : H a = some (.lst xs)) (hl : xs.length + ys.length ≤ 100000) (ha : Ev ta σ H (.ref a)) (hb : EvL tb σ H ys) : EvL (tOp rCat ta tb) σ H (xs ++ ys) := fun H1 e Q q =>
  ha H1 e _ fun H2 e2 => hb H2 (e.trans e2) _ fun b H3 _ e3 hy => ⟨a, b, xs, ys, rfl, rfl, (e.trans (e2.trans e3)) a _ hx, hy, sz_of hl, fun p hp => q p _ (fresh_back (e2.trans e3) hp) ((e2.trans e3).trans (Ex.new hp)) upd_same⟩
theorem el_catNN {xs ys : List V} (hl : xs.length + ys.length ≤ 100000) (ha : EvL ta σ H xs) (hb : EvL tb σ H ys) : EvL (tOp rCat ta tb) σ H (xs ++ ys) := fun H1 e Q q =>
  ha H1 e _ fun a H2 _ e2 hx => hb H2 (e.trans e2) _ fun b H3 _ e3 hy => ⟨a, b, xs, ys, rfl, rfl, e3 a _ hx, hy, sz_of hl, fun p hp => q p _ (fresh_back (e2.trans e3) hp) ((e2.trans e3).trans (Ex.new hp)) upd_same⟩
theorem el_rev {a : Addr} {xs : List V} (hs : SqL K H a xs) (ha : Ev ta σ H (.ref a)) : EvL (tRevL K ta) σ H xs.reverse := fun H1 e Q q =>
  ha H1 e _ fun H2 e2 => ⟨a, xs, rfl, ex_l (e.trans e2) hs, fun p hp => q p _ (fresh_back e2 hp) (e2.trans (Ex.new hp)) upd_same⟩
theorem el_is {xs ys : List V} (h : EvL te σ H xs) (e : xs = ys) : EvL te σ H ys := e ▸ h
/-- the slices as take and drop -/
theorem cut_take (xs : List V) (k : Nat) : cutV xs none (some (k : Int)) = xs.take k := by
  unfold cutV
  rw [HT.sIx_none, HT.sIx_nat, List.drop_zero, Nat.sub_zero]
  by_cases h : k ≤ xs.length
  · rw [Nat.min_eq_left h]
  · rw [Nat.min_eq_right (by omega), List.take_length, List.take_of_length_le (by omega)]
theorem cut_drop (xs : List V) (k : Nat) : cutV xs (some (k : Int)) none = xs.drop k := by
  unfold cutV
  rw [HT.sIx_none, HT.sIx_nat]
  by_cases h : k ≤ xs.length
  · rw [Nat.min_eq_left h]
    exact List.take_of_length_le (by rw [List.length_drop]; exact Nat.le_refl _)
  · rw [Nat.min_eq_right (by omega), Nat.sub_self, List.take_zero, List.drop_of_length_le (by omega)]
theorem el_take {a : Addr} {xs : List V} {k : Nat} (hs : SqL K H a xs) (ha : Ev ta σ H (.ref a)) (hb : Ev tb σ H (.int (k : Int))) : EvL (tSl (rSlL K) ta tNoPart (tPart tb)) σ H (xs.take k) :=
  el_is (el_sl ha eo_none (eo_some hb) hs) (cut_take xs k)
theorem el_drop {a : Addr} {xs : List V} {k : Nat} (hs : SqL K H a xs) (ha : Ev ta σ H (.ref a)) (hb : Ev tb σ H (.int (k : Int))) : EvL (tSl (rSlL K) ta (tPart tb) tNoPart) σ H (xs.drop k) :=
  el_is (el_sl ha (eo_some hb) eo_none hs) (cut_drop xs k)
/-- numbers -/
theorem ev_add {i j : Int} (ha : Ev ta σ H (.int i)) (hb : Ev tb σ H (.int j)) : Ev (tOp (rI0 fun i j => .int (i + j)) ta tb) σ H (.int (i + j)) := ev_op ha hb rv_I0
theorem ev_sub {i j : Int} (ha : Ev ta σ H (.int i)) (hb : Ev tb σ H (.int j)) : Ev (tOp (rI0 fun i j => .int (i - j)) ta tb) σ H (.int (i - j)) := ev_op ha hb rv_I0
theorem ev_mod {i j : Int} (ha : Ev ta σ H (.int i)) (hb : Ev tb σ H (.int j)) (h : 0 < j) : Ev (tOp (rI (fun _ j => 0 < j) fun i j => .int (i % j)) ta tb) σ H (.int (i % j)) := ev_op ha hb (rv_I h)
theorem ev_div {i j : Int} (ha : Ev ta σ H (.int i)) (hb : Ev tb σ H (.int j)) (h : CDivW i j) : Ev (tOp (rI CDivW fun i j => .int (i / j)) ta tb) σ H (.int (i / j)) := ev_op ha hb (rv_I h)
theorem ev_mul {i j : Int} (ha : Ev ta σ H (.int i)) (hb : Ev tb σ H (.int j)) (h : CMulX i j) : Ev (tOp (rI CMulX fun i j => .int (i * j)) ta tb) σ H (.int (i * j)) := ev_op ha hb (rv_I h)
theorem ev_lt {i j : Int} (ha : Ev ta σ H (.int i)) (hb : Ev tb σ H (.int j)) : Ev (tOp (rI0 fun i j => .bl (decide (i < j))) ta tb) σ H (.bl (decide (i < j))) := ev_op ha hb rv_I0
theorem ev_le {i j : Int} (ha : Ev ta σ H (.int i)) (hb : Ev tb σ H (.int j)) : Ev (tOp (rI0 fun i j => .bl (decide (i ≤ j))) ta tb) σ H (.bl (decide (i ≤ j))) := ev_op ha hb rv_I0
theorem ev_gt {i j : Int} (ha : Ev ta σ H (.int i)) (hb : Ev tb σ H (.int j)) : Ev (tOp (rI0 fun i j => .bl (decide (j < i))) ta tb) σ H (.bl (decide (j < i))) := ev_op ha hb rv_I0
theorem ev_ge {i j : Int} (ha : Ev ta σ H (.int i)) (hb : Ev tb σ H (.int j)) : Ev (tOp (rI0 fun i j => .bl (decide (j ≤ i))) ta tb) σ H (.bl (decide (j ≤ i))) := ev_op ha hb rv_I0
theorem dec_vint (i j : Int) : decide (V.int i = V.int j) = decide (i = j) := by
  by_cases h : i = j
  · rw [decide_eq_true h, h, decide_eq_true rfl]
  · rw [decide_eq_false h, decide_eq_false (fun e => h (V.int.inj e))]
theorem ev_eq {i j : Int} (ha : Ev ta σ H (.int i)) (hb : Ev tb σ H (.int j)) : Ev (tOp rEq ta tb) σ H (.bl (decide (i = j))) := ev_is (ev_op ha hb (rv_eq rfl)) (by rw [dec_vint])
theorem ev_ne {i j : Int} (ha : Ev ta σ H (.int i)) (hb : Ev tb σ H (.int j)) : Ev (tOp rNe ta tb) σ H (.bl (!decide (i = j))) := ev_is (ev_op ha hb (rv_ne rfl)) (by rw [dec_vint])
/-- a ≤ b < c -/
theorem ev_chain {i j k : Int} {tc : TE} (ha : Ev ta σ H (.int i)) (hb : Ev tb σ H (.int j)) (hc : Ev tc σ H (.int k)) :
    Ev (tChain (rI0 fun i j => .bl (decide (i ≤ j))) (rI0 fun i j => .bl (decide (i < j))) ta tb tc) σ H (.bl (decide (i ≤ j) && decide (j < k))) := fun H1 e Q q =>
  ha H1 e _ fun H2 e2 => hb H2 (e.trans e2) _ fun H3 e3 => ⟨i, j, rfl, rfl, decide (i ≤ j), rfl, by
    cases hd : decide (i ≤ j) with
    | true =>
      rw [if_pos rfl]
      rw [hd, Bool.true_and] at q
      exact hc H3 (e.trans (e2.trans e3)) _ fun H4 e4 => ⟨j, k, rfl, rfl, q H4 (e2.trans (e3.trans e4))⟩
    | false =>
      rw [if_neg Bool.false_ne_true]
      rw [hd, Bool.false_and] at q
      exact q H3 (e2.trans e3)⟩
/-- lists of ints compared -/
def dI (ns : List Int) : PyData := .list (ns.map PyData.int)
theorem dpI : ∀ ns : List Int, DpAll K H (ns.map V.int) (ns.map PyData.int)
  | [] => .nil
  | n :: r => .cons (.int n) (dpI r)
theorem eqvI : ∀ ns ms : List Int, PyData.eqvAll (ns.map PyData.int) (ms.map PyData.int) = decide (ns = ms)
  | [], [] => rfl
  | [], m :: ms => rfl
  | n :: ns, [] => rfl
  | n :: ns, m :: ms => by
    rw [List.map_cons, List.map_cons, PyData.eqvAll, eqvI ns ms, PyData.eqv, Bool.eq_iff_iff]
    simp
theorem canI : ∀ ns : List Int, PyData.canLayAll0 (ns.map PyData.int) = true
  | [] => by rw [List.map_nil, PyData.canLayAll0]
  | n :: r => by
    rw [List.map_cons, PyData.canLayAll0, canI r, PyData.canLay0]
    rfl
theorem depI : ∀ ns : List Int, PyData.depthAll (ns.map PyData.int) ≤ 1
  | [] => by rw [List.map_nil, PyData.depthAll]; omega
  | n :: r => by
    rw [List.map_cons, PyData.depthAll, PyData.depth]
    have := depI r
    omega
theorem shapeI (ns : List Int) : SeqAt.shaped (dI ns) = true := by
  unfold SeqAt.shaped dI
  rw [PyData.canLay0, canI, PyData.depth, Bool.true_and]
  have := depI ns
  exact decide_eq_true (by omega)
theorem rv_eqL {a b : Addr} {ns ms : List Int} (h1 : SqL K H a (ns.map V.int)) (h2 : SqL K H b (ms.map V.int)) : RV (rEqD K) (.ref a) (.ref b) H (.bl (decide (ns = ms))) := fun H1 e _ q =>
  ⟨dI ns, dI ms, .lst (ex_l e h1) (dpI ns), .lst (ex_l e h2) (dpI ms), shapeI ns, shapeI ms, by
    rw [show PyData.eqv (dI ns) (dI ms) = decide (ns = ms) by unfold dI; rw [PyData.eqv, eqvI]]
    exact q H1 (Ex.refl H1)⟩
theorem rv_neL {a b : Addr} {ns ms : List Int} (h1 : SqL K H a (ns.map V.int)) (h2 : SqL K H b (ms.map V.int)) : RV (rNeD K) (.ref a) (.ref b) H (.bl (!decide (ns = ms))) := fun H1 e _ q =>
  ⟨dI ns, dI ms, .lst (ex_l e h1) (dpI ns), .lst (ex_l e h2) (dpI ms), shapeI ns, shapeI ms, by
    rw [show PyData.eqv (dI ns) (dI ms) = decide (ns = ms) by unfold dI; rw [PyData.eqv, eqvI]]
    exact q H1 (Ex.refl H1)⟩
theorem el_nil : EvL (tLst tNil) σ H (([] : List Int).map V.int) := el_lst ea_nil (Nat.zero_le _)
end
end Wt
/-! ### the program's defs, each by its promise -/
namespace Wt
open PySem PySem.Spec PyProof.Rows L2 Evl
/-- a def of the top: where it stands, how it is bound, that its name is its own -/
structure Own (K : PySem.W.Frag) (mg : Str → Option Value) (x : Str) (ps : List Str) (st : Stmt) (f : Addr) (fd : FuncData) : Prop where
  F : Fun K x x st f fd
  b : Binds K fd ps []
  g : mg x = some (.ref f)
/-- the built-ins are the built-ins still -/
structure Blt (mg : Str → Option Value) : Prop where
  len : mg "len" = none
  sorted : mg "sorted" = none
  sum : mg "sum" = none
  allF : mg "all" = none
  isinstance : mg "isinstance" = none
  range : mg "range" = none
  enumerate : mg "enumerate" = none
  setT : mg "set" = none
  listT : mg "list" = none
  intT : mg "int" = none
  boolT : mg "bool" = none
  anyF : mg "any" = none
  tupleT : mg "tuple" = none
  strT : mg "str" = none
  abs : mg "abs" = none
  zip : mg "zip" = none
/-! lists of numbers as values -/
theorem vget {l : List Int} {i : Nat} {x : V} (h : (l.map V.int)[i]? = some x) : ∃ w, l[i]? = some w ∧ x = .int w := by
  rw [List.getElem?_map] at h
  cases e : l[i]? with
  | none => rw [e] at h; cases h
  | some w => rw [e] at h; exact ⟨w, rfl, (Option.some.inj h).symm⟩
theorem vmap {l : List Int} {i : Nat} {w : Int} (h : l[i]? = some w) : (l.map V.int)[i]? = some (.int w) := by
  rw [List.getElem?_map, h]
  rfl
theorem drop_at {α : Type} {l : List α} {i : Nat} {w : α} (h : l[i]? = some w) : l.drop i = w :: l.drop (i + 1) := by
  obtain ⟨hi, e⟩ := List.getElem?_eq_some_iff.mp h
  rw [List.drop_eq_getElem_cons hi, e]
theorem take_at {α : Type} {l : List α} {i : Nat} {w : α} (h : l[i]? = some w) : l.take (i + 1) = l.take i ++ [w] := by
  rw [List.take_add_one, h]
  rfl
theorem mem_at {α : Type} {l : List α} {i : Nat} {w : α} (h : l[i]? = some w) : w ∈ l := List.mem_of_getElem? h
/-! pairs of numbers in their tuples -/
def Tps (H : Hp) : List V → List (Int × Int) → Prop
  | [], [] => True
  | x :: xs, p :: ps => (∃ t, x = .ref t ∧ H t = some (.tup [.int p.1, .int p.2])) ∧ Tps H xs ps
  | _, _ => False
theorem Tps.imp {H H' : Hp} (k : ∀ t ps, H t = some (.tup ps) → H' t = some (.tup ps)) : ∀ {xs : List V} {ps : List (Int × Int)}, Tps H xs ps → Tps H' xs ps
  | [], [], _ => trivial
  | _ :: _, _ :: _, ⟨⟨t, e, h⟩, r⟩ => ⟨⟨t, e, k _ _ h⟩, Tps.imp k r⟩
  | [], _ :: _, h => h.elim
  | _ :: _, [], h => h.elim
theorem Tps.ex {H H' : Hp} (e : Ex H H') {xs : List V} {ps : List (Int × Int)} (h : Tps H xs ps) : Tps H' xs ps := h.imp fun t _ q => e t _ q
theorem Tps.put {H : Hp} {d : Addr} {ys : List V} {o : HO} (hd : H d = some (.lst ys)) {xs : List V} {ps : List (Int × Int)} (h : Tps H xs ps) : Tps (upd H d o) xs ps := h.imp fun t zs q => by
  rw [upd_ne (ne_of q hd (fun z => by cases z))]
  exact q
theorem Tps.snoc {H : Hp} {t : Addr} {p : Int × Int} (ht : H t = some (.tup [.int p.1, .int p.2])) : ∀ {xs : List V} {ps : List (Int × Int)}, Tps H xs ps → Tps H (xs ++ [.ref t]) (ps ++ [p])
  | [], [], _ => ⟨⟨t, rfl, ht⟩, trivial⟩
  | _ :: _, _ :: _, ⟨a, r⟩ => ⟨a, Tps.snoc ht r⟩
  | [], _ :: _, h => h.elim
  | _ :: _, [], h => h.elim
theorem Tps.len {H : Hp} : ∀ {xs : List V} {ps : List (Int × Int)}, Tps H xs ps → xs.length = ps.length
  | [], [], _ => rfl
  | _ :: _, _ :: _, ⟨_, r⟩ => congrArg (· + 1) (Tps.len r)
  | [], _ :: _, h => h.elim
  | _ :: _, [], h => h.elim
/-- the pair at a value -/
def prOf (H : Hp) : V → Int × Int
  | .ref t => match H t with
    | some (.tup [.int i, .int j]) => (i, j)
    | _ => (0, 0)
  | _ => (0, 0)
theorem prOf_at {H : Hp} {t : Addr} {p : Int × Int} (h : H t = some (.tup [.int p.1, .int p.2])) : prOf H (.ref t) = p := by
  show (match H t with | some (.tup [.int i, .int j]) => (i, j) | _ => ((0, 0) : Int × Int)) = p
  rw [h]
theorem Tps.map {H : Hp} : ∀ {xs : List V} {ps : List (Int × Int)}, Tps H xs ps → xs.map (prOf H) = ps
  | [], [], _ => rfl
  | x :: xs, p :: ps, ⟨⟨t, e, h⟩, r⟩ => by
    rw [List.map_cons, Tps.map r, e, prOf_at h]
  | [], _ :: _, h => h.elim
  | _ :: _, [], h => h.elim
theorem Tps.all {H : Hp} : ∀ {xs : List V} {ps : List (Int × Int)}, Tps H xs ps → ∀ x ∈ xs, ∃ t, x = V.ref t ∧ H t = some (.tup [.int (prOf H x).1, .int (prOf H x).2])
  | [], [], _, x, hx => by cases hx
  | y :: xs, p :: ps, ⟨⟨t, e, h⟩, r⟩, x, hx => by
    rcases List.mem_cons.mp hx with z | hx
    · subst z
      subst e
      exact ⟨t, rfl, by rw [prOf_at h]; exact h⟩
    · exact Tps.all r x hx
  | [], _ :: _, h, _, _ => h.elim
  | _ :: _, [], h, _, _ => h.elim
theorem Tps.of_map {H : Hp} : ∀ {xs : List V}, (∀ x ∈ xs, ∃ t, x = V.ref t ∧ H t = some (.tup [.int (prOf H x).1, .int (prOf H x).2])) → Tps H xs (xs.map (prOf H))
  | [], _ => trivial
  | x :: xs, h => ⟨h x List.mem_cons_self, Tps.of_map fun y hy => h y (List.mem_cons_of_mem _ hy)⟩
theorem Tps.get {H : Hp} : ∀ {xs : List V} {ps : List (Int × Int)} {i : Nat} {x : V}, Tps H xs ps → xs[i]? = some x → ∃ p t, ps[i]? = some p ∧ x = .ref t ∧ H t = some (.tup [.int p.1, .int p.2])
  | [], _, i, x, _, e => by simp at e
  | y :: xs, p :: ps, 0, x, ⟨⟨t, e, h⟩, _⟩, hx => ⟨p, t, rfl, (Option.some.inj hx).symm.trans e, h⟩
  | y :: xs, p :: ps, i + 1, x, ⟨_, r⟩, hx => Tps.get (i := i) r hx
  | y :: xs, [], i, x, h, _ => h.elim
section
variable {K : PySem.W.Frag} {σ : L2.St} {H : Hp} {ta : TE} {z : V}
/-- a call on one new list -/
theorem ev_callN {sp : Sp} {E : XK} {xs : List V} (h : EvL ta σ H xs) (hs : ∀ p H1, H1 p = some (.lst xs) → Ex H H1 → SpV sp [.ref p] H1 z) : Ev (tCall sp [] E (tCons ta tNil)) σ H z := fun H1 e Q q =>
  h H1 e _ fun p H2 _ e2 hp => hs p H2 hp (e.trans e2) H2 (Ex.refl H2) Q (fun H3 e3 => q H3 (e2.trans e3)) E
theorem ev_callN2 {sp : Sp} {E : XK} {xs : List V} {tb : TE} {y : V} (h : EvL ta σ H xs) (hb : Ev tb σ H y) (hs : ∀ p H1, H1 p = some (.lst xs) → Ex H H1 → SpV sp [.ref p, y] H1 z) : Ev (tCall sp [] E (tCons ta (tCons tb tNil))) σ H z := fun H1 e Q q =>
  h H1 e _ fun p H2 _ e2 hp => hb H2 (e.trans e2) _ fun H3 e3 => hs p H3 (e3 p _ hp) (e.trans (e2.trans e3)) H3 (Ex.refl H3) Q (fun H4 e4 => q H4 ((e2.trans e3).trans e4)) E
/-- and on one new list and a number -/
theorem el_callN {sp : Sp} {E : XK} {xs ys : List V} {tb : TE} {y : V} (h : EvL ta σ H xs) (hb : Ev tb σ H y) (hs : ∀ p H1, H1 p = some (.lst xs) → Ex H H1 → SpL sp [.ref p, y] H1 ys) : EvL (tCall sp [] E (tCons ta (tCons tb tNil))) σ H ys := fun H1 e Q q =>
  h H1 e _ fun p H2 _ e2 hp => hb H2 (e.trans e2) _ fun H3 e3 => hs p H3 (e3 p _ hp) (e.trans (e2.trans e3)) H3 (Ex.refl H3) Q (fun p' H4 hp' e4 h4 => q p' H4 (fresh_back (e2.trans e3) hp') ((e2.trans e3).trans e4) h4) E
end
theorem lt_line {n : Nat} (h : n ≤ 40000) : n < sizeLine := Nat.lt_of_le_of_lt h (by decide)
end Wt
/-! ### the statement's own helpers -/
namespace Wt
open PySem PySem.Spec PyProof.Rows L2 Evl
section
variable {K : PySem.W.Frag} {σ : L2.St} {H : Hp} {ta tb : TE} {v : V}
theorem ev_ixU {xs : List V} {i : Int} (ha : EvU ta σ H xs) (hb : Ev tb σ H (.int i)) (h : atI xs i = some v) : Ev (tOp (rIxT K) ta tb) σ H v := fun H1 e Q q =>
  ha H1 e _ fun p H2 _ e2 hp => hb H2 (e.trans e2) _ fun H3 e3 => ⟨p, xs, i, v, rfl, rfl, st_of (e3 p _ hp), h, q H3 (e2.trans e3)⟩
theorem ev_ixL {p : Addr} {xs : List V} {i : Int} (hs : SqL K H p xs) (ha : Ev ta σ H (.ref p)) (hb : Ev tb σ H (.int i)) (h : atI xs i = some v) : Ev (tOp (rIxL K) ta tb) σ H v := ev_op ha hb (rv_ixL hs h)
end
theorem small_mul {i j : Int} {a b : Nat} (hi : i.natAbs < 2 ^ a) (hj : j.natAbs < 2 ^ b) (ha : 0 < a) (hb : 0 < b) (h : a + b ≤ 10000000) : CMulX i j := by
  have k : ∀ (x : Int) (c : Nat), 0 < c → x.natAbs < 2 ^ c → Builtin.Int.intBits x ≤ c := fun x c h0 hx => by
    have := PySem.Flt.log2_lt_of h0 hx
    unfold Builtin.Int.intBits
    split <;> omega
  have h1 := k i a ha hi
  have h2 := k j b hb hj
  unfold CMulX
  omega
theorem div_lit {i j : Int} (h : 0 < j) (h2 : j < 1000000) : CDivW i j := wide_div (b := 20) h (by omega) (by decide) (by decide)
/-- what a comprehension without a test gives -/
theorem given_all {n : Nat} {f : Nat → Int} : given n (fun _ => true) (fun i => V.int (f i)) = ((List.range n).map f).map V.int := by
  unfold given
  rw [List.filter_eq_self.mpr (fun _ _ => rfl), List.map_map]
  rfl
theorem rg_up {i j c : Int} (i0 : 0 ≤ i) (i1 : i < 1000) (j0 : 0 ≤ j) (j1 : j < 1000) (c0 : 0 < c) (c1 : c < 1000) : ∃ n : Nat, RgC i j c n ∧ ∀ k : Nat, k < n → i + (k : Int) * c < j := by
  have e : Builtin.Range.rangeSize i j c = if i < j then (j - i - 1) / c + 1 else 0 := by
    unfold Builtin.Range.rangeSize
    rw [if_pos c0]
  have h1 : i < j → 0 ≤ (j - i - 1) / c := fun h => Int.ediv_nonneg (by omega) (by omega)
  have h2 : i < j → (j - i - 1) / c ≤ j - i - 1 := fun h => Int.ediv_le_self _ (by omega)
  refine ⟨(Builtin.Range.rangeSize i j c).toNat, ⟨by omega, by omega, ?_, ?_⟩, fun k hk => ?_⟩
  · unfold Builtin.Range.small
    rw [e]
    simp only [Builtin.Range.rangeFitsLong, Bool.and_eq_true, Bool.or_eq_true, decide_eq_true_eq, beq_iff_eq]
    by_cases h : i < j
    · have a := h1 h
      have b := h2 h
      rw [if_pos h]
      try simp only [gt_iff_lt, c0, if_true]
      have hm : (j - i - 1) / c * c ≤ j - i - 1 := Int.ediv_mul_le _ (by omega)
      generalize hq : (j - i - 1) / c = q at a b hm
      refine ⟨by omega, .inr ?_⟩
      rw [Bool.and_eq_true, decide_eq_true_eq, decide_eq_true_eq]
      omega
    · rw [if_neg h]
      exact ⟨by omega, .inl rfl⟩
  · rw [e]
    split
    · rename_i h
      have := h1 h
      omega
    · rfl
  · rw [e] at hk
    by_cases h : i < j
    · rw [if_pos h] at hk
      have a := h1 h
      have hm : (j - i - 1) / c * c ≤ j - i - 1 := Int.ediv_mul_le _ (by omega)
      have hk2 : (k : Int) ≤ (j - i - 1) / c := by omega
      have := Int.mul_le_mul_of_nonneg_right hk2 (show 0 ≤ c by omega)
      omega
    · rw [if_neg h] at hk
      exact absurd hk (Nat.not_lt_zero k)
section
variable {K : PySem.W.Frag} {σ : L2.St} {H : Hp} {tl te : TE} {j : Nat} {vs : List Nat}
/-- for i in range(lo, hi, c) -/
theorem q_forR3 {ta : TA} {lo hi c : Int} {n : Nat} {tu tz : TS} {D : Ends} (h : EvA ta σ H [.int lo, .int hi, .int c]) (rg : RgC lo hi c n) (Pv : Nat → L2.St → Hp → Prop) (h0 : ∀ H1, Ex H H1 → Pv 0 σ H1)
    (hs : ∀ (i : Nat) σ' H', i < n → Pv i σ' H' → tu { D with nx := Pv (i + 1), ct := Pv (i + 1), bk := tz D } (σ'.set j (some (.int (lo + (i : Int) * c)))) H') (hd : ∀ σ' H', Pv n σ' H' → tz D σ' H') : tSeq (tFor (iRng3 ta) (gName j) tu) tz D σ H :=
  h H (Ex.refl H) _ fun H1 e => ⟨lo, hi, c, n, rfl, rg, for_rangeC (D := { D with nx := tz D }) Pv (h0 H1 e) hs hd⟩
/-- all([.. for x in xs]), each of them true -/
theorem ev_allLc {a : Addr} {xs : List V} (h : Ev tl σ H (.ref a)) (hx : SqL K H a xs) (hz : xs.length ≤ 40000) (hw : ∀ x, wipe ((wipe σ vs).set j (some x)) vs = wipe σ vs)
    (he : ∀ (i : Nat) (x : V) H1, Ex H H1 → xs[i]? = some x → Ev te ((wipe σ vs).set j (some x)) H1 (.bl true)) : Ev (tCB (rAll K) (tCons (tLc (iList K tl) (gName j) tYes te vs) tNil)) σ H (.bl true) := by
  refine ev_is (ev_allN (bs := (List.range xs.length).map fun _ => true) (el_lcL (fun _ => true) (fun _ => V.bl true) h hx hz hw (fun i x H1 e1 hi => fun H8 e8 Q8 q8 => q8 H8 (Ex.refl H8)) fun i x H1 e1 hi _ => he i x H1 e1 hi) ?_) ?_
  · unfold given
    rw [List.filter_eq_self.mpr (fun _ _ => rfl), List.map_map]
    rfl
  · rw [List.all_map]
    exact congrArg V.bl (List.all_eq_true.mpr fun _ _ => rfl)
/-- [.. for x in xs], a number for each of a list of numbers -/
theorem el_lcI {a : Addr} {ns : List Int} (F : Int → Int) (h : Ev tl σ H (.ref a)) (hx : SqL K H a (ns.map V.int)) (hz : ns.length ≤ 40000) (hw : ∀ x, wipe ((wipe σ vs).set j (some x)) vs = wipe σ vs)
    (he : ∀ (n : Int) H1, Ex H H1 → n ∈ ns → Ev te ((wipe σ vs).set j (some (.int n))) H1 (.int (F n))) : EvL (tLc (iList K tl) (gName j) tYes te vs) σ H ((ns.map F).map V.int) := by
  refine el_is (el_lcL (fun _ => true) (fun i => V.int (F (ns.getD i 0))) h hx (by rw [List.length_map]; exact hz) hw (fun i x H1 e1 hi => fun H8 e8 Q8 q8 => q8 H8 (Ex.refl H8)) fun i x H1 e1 hi _ => ?_) ?_
  · obtain ⟨n, hn, rfl⟩ := vget hi
    rw [show ns.getD i 0 = n by rw [List.getD_eq_getElem?_getD, hn] <;> rfl]
    exact he n H1 e1 (mem_at hn)
  · rw [List.length_map, given_all (f := fun i => F (ns.getD i 0)), List.map_map, List.map_map]
    refine List.ext_getElem (by rw [List.length_map, List.length_map, List.length_range]) fun i h1 h2 => ?_
    rw [List.getElem_map, List.getElem_map, List.getElem_range]
    rw [List.length_map] at h2
    show V.int (F (ns.getD i 0)) = V.int (F ns[i])
    rw [List.getD_eq_getElem?_getD, List.getElem?_eq_getElem h2]
    rfl
theorem el_lcIN {ns : List Int} {xs : List V} (F : Int → Int) (h : EvL tl σ H xs) (hx : xs = ns.map V.int) (hz : ns.length ≤ 40000) (hw : ∀ x, wipe ((wipe σ vs).set j (some x)) vs = wipe σ vs)
    (he : ∀ (n : Int) H1, Ex H H1 → n ∈ ns → Ev te ((wipe σ vs).set j (some (.int n))) H1 (.int (F n))) : EvL (tLc (iList K tl) (gName j) tYes te vs) σ H ((ns.map F).map V.int) := fun H0 e Q q =>
  h H0 e _ fun a H1 ha e1 hp => by
    subst hx
    refine (el_lcI (tl := fun _ H Q => Q (.ref a) H) (σ := σ) (H := H1) (te := te) (vs := vs) (j := j) F (fun H2 e2 Q2 q2 => q2 H2 (Ex.refl H2)) (sq_of hp) hz hw fun n H2 e2 hn => he n H2 (e.trans (e1.trans e2)) hn) H1 (Ex.refl H1) Q fun p H3 hp3 e3 h3 => q p H3 (fresh_back e1 hp3) (e1.trans e3) h3
end

end Wt
/-! ### generator expressions over a list of numbers: sum and all of them; the def's table is held as a thing that may grow -/
namespace Wt
open PySem PySem.Spec PyProof.Rows L2 Evl
/-- the table of a code object stands at P -/
def TabPhi (P : Addr) : Heap → Prop := fun h =>
  ∃ ps : Array Value, h.get? P = some { cls := .none, data := .fields ps }
    ∧ TriplesOk ps.toList
abbrev Tb (H : Hp) (P : Addr) : Prop := H P = some (.ext (TabPhi P))
section
variable {X : Cx} {pins : List (Addr × Obj)} {σ : L2.St} {H : Hp} {s : Shared}
theorem inv_tabX {P : Addr} {h' : Heap} {g' : Array GenState} {d' : Drawn} {t' : Nat} (I : Inv X pins σ H s) (hP : Tb H P)
    (k : ∀ b o, b ≠ P → s.heap.get? b = some o → h'.get? b = some o) (hm : TabPhi P h') (hg : AllBare g') :
    Inv X pins σ H { s with heap := h', gens := g', drawn := d', toks := t' } := by
  have nN : ∀ b, H b = none → b ≠ P := fun b e z => by
    rw [z] at e
    exact nomatch e.symm.trans hP
  have nO : ∀ b a, H b = some (.own a) → b ≠ P := fun b a e z => by
    rw [z] at e
    exact nomatch e.symm.trans hP
  refine I.step (ch := []) (fun b hb => nomatch hb)
    (fun b o _ _ _ e n => k b o (nN b n) e)
    (fun b o _ _ _ e n => ⟨o.slots, k b o (nN b n) e⟩)
    (fun _ _ _ _ n => n) (fun b o _ e => ?_) (fun _ _ e => e) (fun _ _ _ e => e)
    (fun b ps e => ⟨#[], by rw [e]; simp⟩) (fun m hn => ?_) (fun b u e => ?_) hg
  · by_cases hb : b = P
    · obtain ⟨ps, q, _⟩ := hm
      exact ⟨_, hb ▸ q⟩
    · exact ⟨o, k b o hb e⟩
  · obtain ⟨ob, es, ep, ho, r⟩ := hn
    exact ⟨ob, es, ep, k _ ob (nN _ I.free) ho, r⟩
  · by_cases hb : b = P
    · subst hb
      rw [hP] at e
      cases e
      obtain ⟨_, _, st⟩ := I.hok b _ hP
      obtain ⟨ps, q, t⟩ := id hm
      exact ⟨hm, ⟨_, q⟩, st⟩
    · refine (I.hok b u e).stay (fun c v hc q => k c v ?_ q) (fun _ q => q) fun _ _ q => q
      rcases hc with z | z
      · rw [z]
        exact hb
      · exact nO c b z
/-- in the generator's frame: the captured cells stand, its one name holds n -/
def GAt (scope : Scope) (cells : List (Str × Addr)) (h1 : Heap) (x : Str) (cenv : Env) (s₂ : Shared) (n : Int) : Prop :=
  cenv.scope = scope ∧ cenv.cells = cloFrom cells scope.names [] ∧
  (∀ y c u, cells.lookup y = some c → h1.IsCell c u → s₂.heap.IsCell c u) ∧
  ∃ m₂ t, s₂.heap.Ns cenv.locals m₂ ∧ m₂ x = some (.int n t)
def GTests (prog : Program) (w : World) (scope : Scope) (cells : List (Str × Addr)) (h1 : Heap) (x : Str) (ifs : List Expr) (p : Int → Bool) : Prop :=
  ∀ (cenv : Env) (A' : Around) (E' : Value → Shared → Prop) (s₂ : Shared) (n : Int), GAt scope cells h1 x cenv s₂ n →
    wpAny (model prog w) A' (forIn ifs true fun c r => if r = true then (do
      let ok ← isTrue c cenv (eval c cenv)
      pure (ForInStep.yield ok)) else pure (ForInStep.yield r)) (fun ok s₃ => ok = p n ∧ Keeps s₂ s₃) E' s₂
def GElt (prog : Program) (w : World) (scope : Scope) (cells : List (Str × Addr)) (h1 : Heap) (x : Str) (elt : Expr) (p : Int → Bool) (R : Int → Value → Prop) : Prop :=
  ∀ (cenv : Env) (A' : Around) (E' : Value → Shared → Prop) (s₂ : Shared) (n : Int), GAt scope cells h1 x cenv s₂ n → p n = true →
    wpAny (model prog w) A' (eval elt cenv) (fun y s₃ => R n y ∧ Keeps s₂ s₃) E' s₂
/-- the generator at g gives what belongs to zs, one by one, in the state s5; then nothing is changed but the table -/
def GReady (X : Cx) (pins : List (Addr × Obj)) (σ : L2.St) (H1 : Hp) (zs : List Int) (R : Int → Value → Prop) (g : Addr) (s5 : Shared) : Prop :=
  ∃ (fp wr : List Addr) (G : Array GenState → Array GenState → Prop) (F : Nat → Value → Prop) (St : Nat → Shared → Prop),
    WalksS X.prog X.w X.A.in1 g fp wr G zs.length F St ∧ St 0 s5 ∧ (∀ b ∈ fp, b < s5.heap.objs.size) ∧
    (∀ j v, F j v → ∃ n, zs[j]? = some n ∧ R n v) ∧
    ∀ s', Moved wr G s5 s' → Inv X pins σ H1 s'
theorem pass_map (ns : List Int) (p : Int → Bool) :
    (passing (fun i => p (ns.getD i 0)) ns.length 0).map (fun i => ns.getD i 0) = ns.filter p := by
  unfold passing
  rw [List.drop_zero]
  have e : ns = (List.range ns.length).map fun i => ns.getD i 0 := by
    refine List.ext_getElem (by rw [List.length_map, List.length_range]) fun i h1 h2 => ?_
    rw [List.getElem_map, List.getElem_range, List.getD_eq_getElem?_getD, List.getElem?_eq_getElem h1]
    rfl
  conv => rhs; rw [e]
  rw [List.filter_map]
  rfl
theorem vint_get {ns : List Int} {its : List Value} (r : Vals (ns.map V.int) its) {i : Nat} {v : Value} (h : its.toArray[i]? = some v) : ∃ n t, ns[i]? = some n ∧ v = .int n t := by
  have h2 : its[i]? = some v := by simpa using h
  have hl := r.length
  rw [List.length_map] at hl
  have hi : i < ns.length := by
    have := (List.getElem?_eq_some_iff.mp h2).1
    omega
  have hv : (ns.map V.int)[i]? = some (.int ns[i]) := by
    rw [List.getElem?_map, List.getElem?_eq_getElem hi]
    rfl
  obtain ⟨u, hu, ru⟩ := r.get hv
  rw [h2] at hu
  cases hu
  obtain ⟨t, e⟩ := (show ∃ t, v = Value.int ns[i] t from ru)
  exact ⟨ns[i], t, List.getElem?_eq_getElem hi, e⟩
theorem gen_ints {c P : Addr} {elt iter : Expr} {ifs : List Expr} {x : Str} {px gpos : PySem.Pos} {scope : Scope} {te : TE} {k : Nat} {Q' : Value → Shared → Prop}
    {p : Int → Bool} {R : Int → Value → Prop} {Y : List Int → Hp → Prop}
    (hr : Room k X.A) (TB : GxR.TabB X.base X.mg c P) (hcode : X.env.code = .ref c) (S : GxR.GenS X.env scope x) (hi : PE X iter te)
    (hs : ∀ v, genFold iter X.env v = pure v) (I : Inv X pins σ H s)
    (ht : ∀ (H1 : Hp) s1, Inv X pins σ H1 s1 → GTests X.prog X.w scope X.env.cells s1.heap x ifs p)
    (he : ∀ (H1 : Hp) s1, Inv X pins σ H1 s1 → GElt X.prog X.w scope X.env.cells s1.heap x elt p R)
    (h : te σ H fun v H1 => ∃ (a : Addr) (ns : List Int), v = .ref a ∧ SqL X.K H1 a (ns.map V.int) ∧ Tb H1 P ∧ Y ns H1)
    (hQ : ∀ ns H1 g s5, Y ns H1 → GReady X pins σ H1 (ns.filter p) R g s5 → Q' (.ref g) s5) :
    wpAny (model X.prog X.w) X.A (eval (.GeneratorExp elt [⟨.Name x px, iter, ifs, 0⟩] scope gpos) X.env) Q' X.xe s := by
  refine wpAny_GeneratorExp_walksQ hr.hd S.co (closure_ok S.free) S.cell
    S.dot S.loc S.kind (by have := hr.dp; omega) ?_ hs
  refine thn (hi.run pins s σ H _ I h) fun xv s1 h1 => ?_
  obtain ⟨_, H1, I1, r1, a, ns, rfl, hS, hP, hY⟩ := h1
  obtain rfl : xv = Value.ref a := r1
  obtain ⟨its, rv, hl, _⟩ := I1.list hS
  have hlen : its.length = ns.length := by
    rw [← rv.length, List.length_map]
  refine wpAny_pyIter_list hl.isList ?_
  generalize ho : ({ cls := .type "list_iterator", data := .fields #[.ref a, .int 0 0] } : Obj) = o
  have hit : (s1.heap.push o).IsListIter s1.heap.objs.size a 0 := by
    subst ho
    exact ⟨_, Heap.get?_push_size _ rfl, rfl, rfl⟩
  have alt : a < s1.heap.objs.size := by
    obtain ⟨_, e, _⟩ := _root_.id hl.isList
    exact Heap.lt_size e
  obtain ⟨ps, hps, tok⟩ := (I1.hok P _ hP).1
  have Plt : P < s1.heap.objs.size := Heap.lt_size hps
  have hps2 := Heap.get?_push_of_some o hps
  have cd : PySem.W.CodeHd (s1.heap.push o) c P := TB.code.keeps fun b u e =>
    Heap.get?_push_of_some _ (I1.bk b u e)
  have nolim := I1.nolimit.push o
  have sz2 : (s1.heap.push o).objs.size = s1.heap.objs.size + 1 := Heap.size_push ..
  -- behind the code object, new or found
  have go : ∀ (code : Value) (h3 : Heap) (tk : Nat), Heap.ExtBut P (s1.heap.push o) h3 → (s1.heap.push o).objs.size ≤ h3.objs.size → TabPhi P h3 →
      wpAny (model X.prog X.w) X.A (builtinsFor X.env.globals X.env.builtins) (fun bi s₄ =>
        ∃ Ia fp wr n₀ Pf St₀ pz F, Value.ref s1.heap.objs.size = .ref Ia ∧
          (∀ A' : Around, A'.handled = none → Walks X.prog X.w A' Ia fp wr n₀ Pf St₀) ∧
          St₀ 0 s₄.heap ∧ (∀ b ∈ fp, b < s₄.heap.objs.size) ∧ s₄.heap.NoLimit ∧ cStatics ∉ wr ∧
          (∀ href : Heap, (∀ b o, s₄.heap.get? b = some o → href.get? b = some o) →
            QuietGen X.prog X.w (genEnv scope (cloFrom X.env.cells scope.names []) s₄.heap.objs.size code bi X.env) x ifs elt
              (List.range s₄.heap.objs.size) wr Pf pz F href) ∧
          (∀ a h₅ tk gs, gs.bare = true → s₄.heap.objs.size < a → h₅.objs.size = a + 1 → (∀ b o, s₄.heap.get? b = some o → h₅.get? b = some o) →
            WalksS X.prog X.w X.A.in4 a (a :: s₄.heap.objs.size :: List.range s₄.heap.objs.size) (s₄.heap.objs.size :: wr)
              (GenOnlyQ s₄.gens.size) (passing pz n₀ 0).length (fun j y => ∃ i, (passing pz n₀ 0)[j]? = some i ∧ F i y)
              (GenAt X.prog X.w X.A.in4 a s₄.gens.size s₄.heap.objs.size (List.range s₄.heap.objs.size) wr pz n₀ F) →
            GenAt X.prog X.w X.A.in4 a s₄.gens.size s₄.heap.objs.size (List.range s₄.heap.objs.size) wr pz n₀ F 0
              { s₄ with gens := s₄.gens.push gs, toks := tk, heap := h₅ } →
            Q' (.ref a) { s₄ with gens := s₄.gens.push gs, toks := tk, heap := h₅ })) X.xe { s1 with heap := h3, toks := tk } := by
    intro code h3 tk hx hsz hm3
    obtain ⟨bm, ob, b1, b2, b3, b4, b5, b6, b7, b8⟩ := TB.bm
    have cP : cStatics ≠ P := fun e => by
      obtain ⟨_, ⟨o', es, ep, q, hd, _⟩, _⟩ := I1.nolimit
      rw [e, hps] at q
      cases q
      cases hd
    have clt : cStatics < s1.heap.objs.size := by
      obtain ⟨_, hns, _⟩ := I1.nolimit
      exact hns.lt
    have keep3 : ∀ b u, b ≠ P → s1.heap.get? b = some u → h3.get? b = some u := fun b u hb e =>
      hx b u hb (Heap.get?_push_of_some _ e)
    refine wpAny_builtinsFor (m := X.mg) ?_ b1 b2 (keep3 _ _ b4 (I1.bk _ _ b5)) b6 b7 b8 ?_
    · rw [I1.ok.glob]
      exact ((I1.mod.glob.keeps I1.bk).push o).extBut hx TB.gP
    have aP : a ≠ P := fun z => by
      obtain ⟨_, e, c1, _, d1⟩ := _root_.id hl.isList
      rw [z, hps] at e
      cases e
      cases d1
    have isl3 : h3.IsList a its.toArray := by
      obtain ⟨ob, e, r⟩ := _root_.id hl.isList
      exact ⟨ob, keep3 _ _ aP e, r⟩
    have hit3 : h3.IsListIter s1.heap.objs.size a 0 := hit.at fun u e => hx _ u (Nat.ne_of_gt Plt) e
    have inGen : ∀ (href : Heap), (∀ b o, h3.get? b = some o → href.get? b = some o) → ∀ (bi : Addr) (i : Nat) (v : Value) (s₂ : Shared) (m₂ : Str → Option Value),
        its.toArray[i]? = some v → s₂.heap.Ns (genEnv scope (cloFrom X.env.cells scope.names []) h3.objs.size code bi X.env).locals m₂ → m₂ x = some v →
        (∀ b ∈ List.range h3.objs.size, b ∉ [s1.heap.objs.size] → ∀ o, href.get? b = some o → s₂.heap.get? b = some o) →
        ∃ n, ns[i]? = some n ∧ GAt scope X.env.cells s1.heap x (genEnv scope (cloFrom X.env.cells scope.names []) h3.objs.size code bi X.env) s₂ n := fun href hh bi i v s₂ m₂ hv hn hm hk => by
      obtain ⟨n, t, hn1, rfl⟩ := vint_get rv hv
      refine ⟨n, hn1, rfl, rfl, fun y c' u hc hcell => ?_, m₂, t, hn, hm⟩
      obtain ⟨oc, ec, dc⟩ := hcell
      have cP : c' ≠ P := fun z => by
        have := I1.freeC y c' hc
        rw [z] at this
        exact nomatch this.symm.trans hP
      have e3 := keep3 c' oc cP ec
      refine ⟨oc, hk c' (List.mem_range.mpr (Heap.lt_size e3)) (fun z => ?_) oc (hh _ _ e3), dc⟩
      have := Heap.lt_size ec
      rw [List.mem_singleton.mp z] at this
      exact Nat.lt_irrefl _ this
    have lt3 : s1.heap.objs.size < h3.objs.size := Nat.lt_of_lt_of_le (by rw [sz2]; exact Nat.lt_succ_self _) hsz
    refine ⟨s1.heap.objs.size, [s1.heap.objs.size, a], [s1.heap.objs.size], its.toArray.size,
      (fun i v => its.toArray[i]? = some v),
      (fun i h => h.IsListIter s1.heap.objs.size a i ∧ h.IsList a its.toArray),
      (fun i => p (ns.getD i 0)), (fun i y => R (ns.getD i 0) y), rfl,
      (fun A' hA => Walks.list hA _ _ (Nat.ne_of_lt alt) _), ⟨hit3, isl3⟩, ?_, nolim.extBut hx cP, ?_, ?_, ?_⟩
    · intro b hb
      show b < h3.objs.size
      rcases List.mem_cons.mp hb with z | z
      · rw [z]
        exact lt3
      · rw [List.mem_singleton.mp z]
        exact Nat.lt_trans alt lt3
    · intro z
      have := List.mem_singleton.mp z
      rw [this] at clt
      exact Nat.lt_irrefl _ clt
    · intro href hh
      have gd : ∀ {i : Nat} {n : Int}, ns[i]? = some n → ns.getD i 0 = n := fun e => by
        rw [List.getD_eq_getElem?_getD, e]
        rfl
      refine ⟨fun A' E' i v s₂ m₂ hA hPv hn hm hk => ?_, fun A' E' i v s₂ m₂ hA hPv hp hn hm hk => ?_⟩
      · obtain ⟨n, hn1, ga⟩ := inGen href hh _ i v s₂ m₂ hPv hn hm hk
        show wpAny _ A' _ (fun ok s₃ => ok = p (ns.getD i 0) ∧ _) E' s₂
        rw [gd hn1]
        exact ht H1 s1 I1 _ A' E' s₂ n ga
      · obtain ⟨n, hn1, ga⟩ := inGen href hh _ i v s₂ m₂ hPv hn hm hk
        have hp : p (ns.getD i 0) = true := hp
        show wpAny _ A' _ (fun y s₃ => R (ns.getD i 0) y ∧ _) E' s₂
        rw [gd hn1] at hp ⊢
        exact he H1 s1 I1 _ A' E' s₂ n ga hp
    · intro g h5 tk5 gs hgb hag hsz5 hk5 W5 hat5
      have hn5 : its.toArray.size = ns.length := by
        rw [List.size_toArray, hlen]
      rw [hn5] at W5 hat5
      have pl := pass_map ns p
      have ll : (ns.filter p).length = (passing (fun i => p (ns.getD i 0)) ns.length 0).length := by
        rw [← pl, List.length_map]
      rw [← ll] at W5
      refine hQ ns H1 g _ hY ⟨_, _, _, _, _, W5.in4_1, hat5, fun b hb => ?_, fun j v hv => ?_, fun s' hm => ?_⟩
      · show b < h5.objs.size
        have e5 : h5.objs.size = g + 1 := hsz5
        have e3 : h3.objs.size < g := hag
        rw [e5]
        rcases List.mem_cons.mp hb with z | z
        · rw [z]
          exact Nat.lt_succ_self g
        rcases List.mem_cons.mp z with z | z
        · rw [z]
          exact Nat.lt_succ_of_lt e3
        · have z2 : b < h3.objs.size := List.mem_range.mp z
          exact Nat.lt_succ_of_lt (Nat.lt_trans z2 e3)
      · obtain ⟨i, hij, hR⟩ := hv
        refine ⟨ns.getD i 0, ?_, hR⟩
        rw [← pl, List.getElem?_map, hij]
        rfl
      · have nwr : ∀ b u, s1.heap.get? b = some u → b ∉ h3.objs.size :: [s1.heap.objs.size] := fun b u e hb => by
          have hl := Heap.lt_size e
          rcases List.mem_cons.mp hb with z | z
          · rw [z] at hl
            exact Nat.lt_asymm lt3 hl
          · rw [List.mem_singleton.mp z] at hl
            exact Nat.lt_irrefl _ hl
        obtain ⟨ps3, e3, t3⟩ := hm3
        have J := inv_tabX (h' := s'.heap) (g' := s'.gens) (d' := s'.drawn) (t' := s'.toks) I1 hP
          (fun b u hb e => hm.heap b u (nwr b u e) (hk5 b u (keep3 b u hb e)))
          ⟨ps3, hm.heap P _ (nwr P _ hps) (hk5 P _ e3), t3⟩ (AllBare.movedS (I1.bare.push hgb) hm)
        rw [GxR.sh_eta s1 s' hm.os] at J
        exact J
  refine ⟨nolim, ?_⟩
  cases hf : codeAmong gpos ps.toList with
  | none =>
    refine wpAny_genexprCodeX hcode (cd.code hps2 tok) (cd.tab hps2) hf fun c' h' tk hx hge hlt hco _ htab _ => ?_
    obtain ⟨o1, vs, f1, tf, fl, tg, inF, tx, tt, op, _, _, _, _, _, _, _, _, _, htr, _⟩ := hco
    exact go _ h' tk hx (Nat.le_trans hge (Nat.le_of_lt hlt)) ⟨_, htab.2, htr⟩
  | some cv =>
    refine wpAny_genexprCode_hit hcode (cd.code hps2 tok) hf ?_
    exact go cv (s1.heap.push o) s1.toks (Heap.ExtBut.refl _ _) (Nat.le_refl _) ⟨ps, hps2, tok⟩
end
end Wt
/-! ### the rules: sum(x for x in xs if x < y), all(x >= k for x in xs) -/
namespace Wt
open PySem PySem.Spec PyProof.Rows L2 Evl
/-- the generator's scope, in a def whose captured names are cells -/
structure GSc (dsc : Scope) (scope : Scope) (x : Str) : Prop where
  kind : scope.kind = .function
  co : scope.isCoroutine = false
  cell : ∀ y ∈ scope.names, y.2 ≠ .cell
  dot : scope.names.lookup (".0" : Str) = some NameKind.local
  loc : scope.names.lookup x = some .local
  free : ∀ y ∈ scope.names, y.2 = .free → dsc.names.lookup y.1 = some .cell
def gscC (dsc scope : Scope) (x : Str) : Bool := decide (scope.kind = .function) && !scope.isCoroutine && scope.names.all (fun y => !decide (y.2 = .cell)) &&
  decide (scope.names.lookup (".0" : Str) = some NameKind.local) && decide (scope.names.lookup x = some .local) &&
  scope.names.all fun y => !decide (y.2 = .free) || decide (dsc.names.lookup y.1 = some .cell)
theorem gsc_by {dsc scope : Scope} {x : Str} (h : gscC dsc scope x = true) : GSc dsc scope x := by
  unfold gscC at h
  simp only [Bool.and_eq_true, Bool.not_eq_true', decide_eq_true_eq, List.all_eq_true, Bool.or_eq_true, decide_eq_false_iff_not] at h
  obtain ⟨⟨⟨⟨⟨h1, h2⟩, h3⟩, h4⟩, h5⟩, h6⟩ := h
  exact ⟨h1, h2, h3, h4, h5, fun y hy e => (h6 y hy).resolve_left fun z => z e⟩
section
variable {X : Cx} {pins : List (Addr × Obj)} {σ : L2.St} {H : Hp} {s : Shared}
theorem GSc.to {scope : Scope} {x : Str} (G : GSc X.env.scope scope x) (ok : X.Ok) : GxR.GenS X.env scope x :=
  ⟨G.kind, G.co, G.cell, G.dot, G.loc, fun y hy e => ok.has y.1 (.inl (G.free y hy e))⟩
theorem presum_all (zs : List Int) : preSum (fun i => zs.getD i 0) zs.length = zs.sum := by
  have h := PyProof.Rows.preSum_getD zs zs.length
  rw [List.take_length] at h
  exact h
theorem gt_lt {prog : Program} {w : World} {scope : Scope} {cells : List (Str × Addr)} {h1 : Heap} {x y : Str} {p1 p2 p3 : PySem.Pos} {c : Addr} {k : Int} {t : Tok}
    (hk : scope.kind = .function) (hl : scope.names.lookup x = some .local) (hy : scope.names.lookup y = some .free)
    (hfree : ∀ z ∈ scope.names, z.2 = .free → ∃ c, cells.lookup z.1 = some c)
    (hc : cells.lookup y = some c) (hcell : h1.IsCell c (some (.int k t)))
    (hdx : (x == ("__debug__" : Str)) = false) (hdy : (y == ("__debug__" : Str)) = false) (hcy : (y == ("__classdict__" : Str)) = false) :
    GTests prog w scope cells h1 x [.Compare (.Name x p1) [.Lt] [.Name y p2] p3] (fun n => decide (n < k)) := by
  intro cenv A' E' s₂ n ⟨hs, hce, hcs, m₂, t2, hn, hm⟩
  refine wpAny_tests_one (wpAny_isTrue_Compare1 ?_ (nomark _))
  refine wpAny_Name (wpAny_loadName_local (by rw [hs]; exact hk)
    (show cenv.scope.names.lookup x = some .local by rw [hs]; exact hl) hn hm ?_) hdx
  refine wpAny_Name (wpAny_loadName_free (by rw [hs]; exact hk)
    (show cenv.scope.names.lookup y = some .free by rw [hs]; exact hy)
    (show cenv.cells.lookup y = some c by rw [hce]; exact NdefX.clo_has hfree (PySem.mem_of_lookup hy) hc) (hcs y c _ hc hcell) ?_ hcy) hdy
  exact PyProof.Rows.lt_int (wpAny_truthy_bool ⟨rfl, GxR.keeps_refl _⟩)
theorem ge_self {prog : Program} {w : World} {scope : Scope} {cells : List (Str × Addr)} {h1 : Heap} {x : Str} {p1 : PySem.Pos} {p : Int → Bool}
    (hk : scope.kind = .function) (hl : scope.names.lookup x = some .local) (hdx : (x == ("__debug__" : Str)) = false) :
    GElt prog w scope cells h1 x (.Name x p1) p (fun n v => ∃ t, v = .int n t) := by
  intro cenv A' E' s₂ n ⟨hs, _, _, m₂, t2, hn, hm⟩ _
  exact wpAny_Name (wpAny_loadName_local (by rw [hs]; exact hk)
    (show cenv.scope.names.lookup x = some .local by rw [hs]; exact hl) hn hm ⟨⟨t2, rfl⟩, GxR.keeps_refl _⟩) hdx
theorem ge_ge {prog : Program} {w : World} {scope : Scope} {cells : List (Str × Addr)} {h1 : Heap} {x : Str} {p1 p2 p3 : PySem.Pos} {j : Nat} {k : Int} {p : Int → Bool}
    (hk : scope.kind = .function) (hl : scope.names.lookup x = some .local) (hdx : (x == ("__debug__" : Str)) = false) :
    GElt prog w scope cells h1 x (.Compare (.Name x p1) [.GtE] [.Constant (.int k) j p2] p3) p (fun n v => v = .bool (decide (k ≤ n))) := by
  intro cenv A' E' s₂ n ⟨hs, _, _, m₂, t2, hn, hm⟩ _
  refine wpAny_Compare1 ?_
  refine wpAny_Name (wpAny_loadName_local (by rw [hs]; exact hk)
    (show cenv.scope.names.lookup x = some .local by rw [hs]; exact hl) hn hm ?_) hdx
  exact wpAny_Constant_int (PyProof.Rows.ge_int ⟨rfl, GxR.keeps_tok _ _⟩)
theorem gt_none {prog : Program} {w : World} {scope : Scope} {cells : List (Str × Addr)} {h1 : Heap} {x : Str} : GTests prog w scope cells h1 x [] (fun _ => true) := by
  intro cenv A' E' s₂ n _
  rw [List.forIn_nil]
  exact wpAny_pure ⟨rfl, GxR.keeps_refl _⟩
/-- sum(x for x in te if x < y), y in slot j -/
def tSumLt (K : PySem.W.Frag) (P : Addr) (j : Nat) (te : TE) : TE := fun σ H Q =>
  ∃ k, σ[j]? = some (some (.int k)) ∧ te σ H fun v H1 => ∃ (a : Addr) (ns : List Int), v = .ref a ∧ SqL K H1 a (ns.map V.int) ∧ Tb H1 P ∧
    Q (.int (ns.filter fun n => decide (n < k)).sum) H1
theorem pe_sumLt {c P : Addr} {iter : Expr} {x y : Str} {pe px p p1 p2 p3 pos gpos : PySem.Pos} {scope : Scope} {j : Nat} {te : TE} {k : Nat}
    (hr : Room k X.A) (hg : Gl X "sum") (hm : X.mg "sum" = none) (TB : GxR.TabB X.base X.mg c P) (hcode : X.env.code = .ref c) (S : GSc X.env.scope scope x)
    (hN : X.N[j]? = some y) (hv : X.env.scope.names.lookup y = some .cell) (hy : scope.names.lookup y = some .free)
    (hi : PE X iter te) (hs : ∀ v, genFold iter X.env v = pure v)
    (hdx : (x == ("__debug__" : Str)) = false := by decide) (hdy : (y == ("__debug__" : Str)) = false := by decide) (hcy : (y == ("__classdict__" : Str)) = false := by decide)
    (he : starEach [.GeneratorExp (.Name x pe) [⟨.Name x px, iter, [.Compare (.Name x p1) [.Lt] [.Name y p2] p3], 0⟩] scope gpos] X.env
      = (false, eval (.GeneratorExp (.Name x pe) [⟨.Name x px, iter, [.Compare (.Name x p1) [.Lt] [.Name y p2] p3], 0⟩] scope gpos) X.env) :: starEach [] X.env := by rfl) :
    PE X (.Call (.Name "sum" p) [.GeneratorExp (.Name x pe) [⟨.Name x px, iter, [.Compare (.Name x p1) [.Lt] [.Name y p2] p3], 0⟩] scope gpos] [] pos) (tSumLt X.K P j te) := by
  refine ⟨fun pins s σ H Q I h => ?_⟩
  obtain ⟨k0, hj, h⟩ := h
  refine wpAny_Call_Name_kw (ld_blt I hg hm boot_sum ?_)
  refine PyProof.Rows.callWith_builtin1 ?_ he (by rfl)
  rw [he]
  have cellAt : ∀ (H1 : Hp) s1, Inv X pins σ H1 s1 → ∃ c t, X.env.cells.lookup y = some c ∧ s1.heap.IsCell c (some (.int k0 t)) := fun H1 s1 I1 => by
    obtain ⟨m, hn, hl⟩ := I1.loc
    obtain ⟨u, ru, l⟩ := hl j y _ hN hj (.inr (.inl hv))
    obtain ⟨t, rfl⟩ := (show ∃ t, u = Value.int k0 t from ru)
    rcases l with ⟨z, _⟩ | ⟨_, c, hc, q⟩
    · have z : X.env.scope.names.lookup y = some .local := z
      rw [hv] at z
      cases z
    · exact ⟨c, t, hc, q⟩
  have hf : ∀ z ∈ scope.names, z.2 = .free → ∃ c, X.env.cells.lookup z.1 = some c := (S.to I.ok).free
  show wpAny _ _ (spliced ((false, eval (.GeneratorExp (.Name x pe) _ scope gpos) X.env) :: backTo pos (starEach [] X.env))) _ _ s
  refine Calls.spliced_cons (gen_ints (p := fun n => decide (n < k0)) (R := fun n v => ∃ t, v = .int n t)
    (Y := fun ns H1 => Q (.int (ns.filter fun n => decide (n < k0)).sum) H1) hr TB hcode (S.to I.ok) hi hs I
    (fun H1 s1 I1 => by
      obtain ⟨c', t', h1, h2⟩ := cellAt H1 s1 I1
      exact gt_lt S.kind S.loc hy hf h1 h2 hdx hdy hcy)
    (fun _ _ _ => ge_self S.kind S.loc hdx) h fun ns H1 g s5 hY hG => ?_)
  obtain ⟨fp, wr, G, F, St, W, hst, hfp, hF, hI⟩ := hG
  refine Calls.spliced_nil ?_
  refine call_sum_walkAnyS (W.self 0 _ _ _ hst ⟨g, fp, wr, G, _, F, St, (fun i => (ns.filter fun n => decide (n < k0)).getD i 0), rfl, W, hst, hfp, fun i v hv => ?_, fun s' t' hm => ?_⟩)
  · obtain ⟨n, hn, t, e⟩ := hF i v hv
    refine ⟨t, ?_⟩
    show v = Value.int ((ns.filter fun n => decide (n < k0)).getD i 0) t
    rw [e, List.getD_eq_getElem?_getD, hn]
    rfl
  · rw [presum_all]
    exact ⟨.int _, H1, hI s' hm, ⟨t', rfl⟩, hY⟩
/-- all(x >= k for x in te) -/
def tAllGe (K : PySem.W.Frag) (P : Addr) (k : Int) (te : TE) : TE := fun σ H Q =>
  te σ H fun v H1 => ∃ (a : Addr) (ns : List Int), v = .ref a ∧ SqL K H1 a (ns.map V.int) ∧ Tb H1 P ∧ Q (.bl (ns.all fun n => decide (k ≤ n))) H1
theorem all_get (zs : List Int) (q : Int → Bool) : (List.range zs.length).all (fun i => q (zs.getD i 0)) = zs.all q := by
  rw [Bool.eq_iff_iff, List.all_eq_true, List.all_eq_true]
  constructor
  · intro h z hz
    obtain ⟨i, hi, e⟩ := List.getElem_of_mem hz
    have := h i (List.mem_range.mpr hi)
    rw [List.getD_eq_getElem?_getD, List.getElem?_eq_getElem hi, e] at this
    exact this
  · intro h i hi
    have hi := List.mem_range.mp hi
    show q (zs.getD i 0) = true
    rw [List.getD_eq_getElem?_getD, List.getElem?_eq_getElem hi]
    exact h _ (List.getElem_mem hi)
theorem pe_allGe {c P : Addr} {iter : Expr} {x : Str} {px p p1 p2 p3 pos gpos : PySem.Pos} {scope : Scope} {j : Nat} {k0 : Int} {te : TE} {k : Nat}
    (hr : Room k X.A) (hg : Gl X "all") (hm : X.mg "all" = none) (TB : GxR.TabB X.base X.mg c P) (hcode : X.env.code = .ref c) (S : GSc X.env.scope scope x)
    (hi : PE X iter te) (hs : ∀ v, genFold iter X.env v = pure v) (hdx : (x == ("__debug__" : Str)) = false := by decide)
    (he : starEach [.GeneratorExp (.Compare (.Name x p1) [.GtE] [.Constant (.int k0) j p2] p3) [⟨.Name x px, iter, [], 0⟩] scope gpos] X.env
      = (false, eval (.GeneratorExp (.Compare (.Name x p1) [.GtE] [.Constant (.int k0) j p2] p3) [⟨.Name x px, iter, [], 0⟩] scope gpos) X.env) :: starEach [] X.env := by rfl) :
    PE X (.Call (.Name "all" p) [.GeneratorExp (.Compare (.Name x p1) [.GtE] [.Constant (.int k0) j p2] p3) [⟨.Name x px, iter, [], 0⟩] scope gpos] [] pos) (tAllGe X.K P k0 te) := by
  refine ⟨fun pins s σ H Q I h => ?_⟩
  refine wpAny_Call_Name_kw (ld_blt I hg hm boot_all ?_)
  refine PyProof.Rows.callWith_builtin1 ?_ he (by rfl)
  rw [he]
  show wpAny _ _ (spliced ((false, eval (.GeneratorExp (.Compare (.Name x p1) _ _ p3) _ scope gpos) X.env) :: backTo pos (starEach [] X.env))) _ _ s
  refine Calls.spliced_cons (gen_ints (p := fun _ => true) (R := fun n v => v = .bool (decide (k0 ≤ n)))
    (Y := fun ns H1 => Q (.bl (ns.all fun n => decide (k0 ≤ n))) H1) hr TB hcode (S.to I.ok) hi hs I
    (fun _ _ _ => gt_none) (fun _ _ _ => ge_ge S.kind S.loc hdx) h fun ns H1 g s5 hY hG => ?_)
  have en : ns.filter (fun _ => true) = ns := List.filter_eq_self.mpr fun _ _ => rfl
  rw [en] at hG
  obtain ⟨fp, wr, G, F, St, W, hst, hfp, hF, hI⟩ := hG
  refine Calls.spliced_nil ?_
  refine call_all_walkS (W.self 0 _ _ _ hst ⟨g, fp, wr, G, _, F, St, (fun i => decide (k0 ≤ ns.getD i 0)), rfl, W, hst, fun i v s1 Q1 E1 hv hq => ?_, fun s' hm => ?_⟩)
  · obtain ⟨n, hn, e⟩ := hF i v hv
    subst e
    have hq : Q1 (decide (k0 ≤ ns.getD i 0)) s1 := hq
    rw [List.getD_eq_getElem?_getD, hn] at hq
    exact wpAny_truthy_bool hq
  · rw [all_get ns fun n => decide (k0 ≤ n)]
    exact ⟨.bl _, H1, hI s' hm, rfl, hY⟩
end
section
variable {P : Program} {w : World} {K : PySem.W.Frag} {mg : Str → Option Value} {base : Heap}
/-- a def by its body, its code object known -/
theorem Fun.okC {x qual : Str} {st : Stmt} {f c : Addr} {fd : FuncData} {N ps : List Str} {k : Nat} {sp : Sp} (F : L2.Fun K x qual st f fd) (hc : fd.code = .ref c) (S : FnScope N ps (defScope st))
    (len : ∀ vs H Q E, sp vs H Q E → vs.length = ps.length)
    (hbody : ∀ (A : Around) (outer : List Env) (s : Shared) (H : Hp) (vs : List V) (Q : VK) (E : XK), Room k (A.deeper (envOfC qual (defScope st) s.heap.objs.size f (.ref c))) → sp vs H Q E →
      ∃ t, PSs (cxOf CX0 P w K mg base N qual (defScope st) f (.ref c) A outer s H E).nox (defBody st) t ∧
        t { nx := fun _ H' => Q .non H', rt := Q } (start N vs) H) : FnOk P w K mg base CX0 (k + 1) f fd ps sp := by
  obtain ⟨oc, od, kV, doc, pm, an, cdv, ct, osl, rfl, lk, hcd⟩ := F.ex
  obtain rfl : cdv = Value.ref c := hc
  refine fn_of lk hcd S len fun A outer s H vs Q E hr hsp => ?_
  obtain ⟨t, h, q⟩ := hbody A outer s H vs Q E hr hsp
  exact ⟨t, h.nox, q⟩
end
end Wt
/-! ### classes: C() without an own __init__, a method of one of several classes, fields -/
namespace Wt
open PySem PySem.Spec PyProof.Rows L2 Evl
structure MkB (K : PySem.W.Frag) (C : Addr) : Prop where
  makes : PySem.W.makesIn K C = true
  init : PySem.W.findIn K (.ref C) "__init__" = some (some (.builtin "object.__init__"))
  kp : PySem.W.keepIn K (.ref C) = true
/-- C(), nothing is stored -/
def tBare (C : Addr) : TE := fun _ H Q => ∀ x dx, H x = none → H dx = none → dx ≠ x → Q (.ref x) (upd (upd H dx (.own x)) x (.ins C dx []))
section
variable {X : Cx} {pins : List (Addr × Obj)} {σ : L2.St} {H : Hp} {s : Shared}
theorem run_bare {C : Addr} {Q : VK} (M : MkB X.K C) (I : Inv X pins σ H s)
    (h : ∀ x dx, H x = none → H dx = none → dx ≠ x → Q (.ref x) (upd (upd H dx (.own x)) x (.ins C dx []))) :
    wpAny (model X.prog X.w) X.A (call (.ref C) []) (EP X pins σ Q) X.xe s := by
  have hq := h (s.heap.objs.size + 1) s.heap.objs.size (I.hok.fresh (Nat.le_succ _)) (I.hok.fresh (Nat.le_refl _)) (Nat.ne_of_lt (Nat.lt_succ_self _))
  have I2 := Inv.made (C := C) I
  have Y := PySem.W.makes_of (M := model X.prog X.w) I.kIn M.makes
  have at_ : ((s.heap.push PySem.W.emptyDict).push (PySem.W.instObj C s.heap.objs.size)).get? (s.heap.objs.size + 1) = some (PySem.W.instObj C s.heap.objs.size) := by
    have := Heap.get?_push_size (s.heap.push PySem.W.emptyDict) (o := PySem.W.instObj C s.heap.objs.size) rfl
    rwa [Heap.size_push] at this
  have t1 : PySem.W.Looks (model X.prog X.w) ((s.heap.push PySem.W.emptyDict).push (PySem.W.instObj C s.heap.objs.size))
      (typeOf (.ref (s.heap.objs.size + 1))) (.ref C) := (PySem.W.Looks.ld at_).andThen .now
  have t2 : PySem.W.Looks (model X.prog X.w) ((s.heap.push PySem.W.emptyDict).push (PySem.W.instObj C s.heap.objs.size))
      (isInstance (.ref (s.heap.objs.size + 1)) (.type "object")) true :=
    t1.andThen (Y.top.keeps fun b o e => Heap.get?_push_of_some _ (Heap.get?_push_of_some _ e))
  refine wpAny_call (make_map0 I.kIn M.makes M.init (fun self => PySem.W.Looks.of_pure (PySem.W.oi_bind self)) ?_)
  refine PySem.codeAny_call_builtin PySem.W.oi_plain PySem.W.entry_oi (@PySem.W.check_slot (model X.prog X.w) _ _ _
    "object.__init__" "object" "__init__" (.ref (s.heap.objs.size + 1)) [] [] _ PySem.W.oi_kind PySem.W.oi_split t2 (PySem.W.oi_args _) ?_)
  · rw [PySem.W.oi_run]
    exact wpAny_pure ⟨rfl, ⟨.ref (s.heap.objs.size + 1), _, I2, rfl, hq⟩⟩
theorem pe_bare {C : Addr} {x : Str} {p pos : PySem.Pos} (M : MkB X.K C) (hg : Gl X x) (hm : X.mg x = some (.ref C))
    (hdb : (x == ("__debug__" : Str)) = false := by decide) : PE X (.Call (.Name x p) [] [] pos) (tBare C) := by
  refine ⟨fun pins s σ H Q I h => ?_⟩
  refine wpAny_Call_Name_kw (ld_glob I hg hm ?_ hdb)
  exact PySem.W.callWith_K0 I.kIn M.kp (run_bare M I h)
/-- o.m(e, ..), o an instance of one of several classes: Mt tells which, and what its m promises -/
def tMethP (Mt : Addr → Sp → Prop) (m : Str) (ta : TE) (t : TA) : TE := fun σ H Q => ta σ H fun x H1 => ∃ a C dx fs sp,
  x = .ref a ∧ Mt C sp ∧ H1 a = some (.ins C dx fs) ∧ fs.lookup m = none ∧ t σ H1 fun vs H2 => sp (x :: vs) H2 Q E0
/-- the classes of Mt have m so -/
def MtOk (P : Program) (w : World) (K : PySem.W.Frag) (mg : Str → Option Value) (base : Heap) (k : Nat) (m : Str) (Mt : Addr → Sp → Prop) : Prop :=
  ∀ C sp, Mt C sp → Cls K C ∧ ∃ f fd ps, Meth K C m f ∧ FnOk P w K mg base CX0 k f fd ps sp ∧ Binds K fd ps []
theorem pe_methP {Mt : Addr → Sp → Prop} {k : Nat} {m : Str} {o e : Expr} {es : List Expr} {ta : TE} {t : TA} {apos pos : PySem.Pos} {pl : Sem Bool}
    (hM : MtOk X.prog X.w X.K X.mg X.base k m Mt) (hr : Room k X.A) (he : PE X o ta) (ha : PA X (e :: es) t)
    (hst : starEach (e :: es) X.env = (false, eval e X.env) :: starEach es X.env := by rfl)
    (hpl : (backTo pos (starEach es X.env)).any (·.1) = false := by rfl)
    (ht : eval (.Call (.Attribute o m apos) (e :: es) [] pos) X.env = (do
        let ov ← eval o X.env
        standAt apos.atName
        let (f, first) ← holding [ov] (getMethod ov m pl)
        callWith pos f first (backTo pos (starEach (e :: es) X.env)) (backToKw pos (keywordEach [] X.env))) := by rfl) :
    PE X (.Call (.Attribute o m apos) (e :: es) [] pos) (tMethP Mt m ta t) := by
  refine ⟨fun pins s σ H Q I h => ?_⟩
  refine PySem.W.methodCall_KW (pl := pl) (thn (he.run pins s σ H _ I h) fun u s1 hu => ?_) ht
  obtain ⟨_, H1, I1, rx, a, C, dx, fs, sp, rfl, hC, ea, l, q⟩ := hu
  obtain rfl : u = Value.ref a := rx
  obtain ⟨c, f, fd, ps, hm, F, hb⟩ := hM C sp hC
  refine getmeth_ok I1 ea c hm l ?_
  refine PySem.W.callWith_K (first := [.ref a]) (h₀ := X.base) I.ok.mod.kin hm.kp
    (thn (ha.run pos pins s1 σ H1 _ I1 q) fun us s2 hs => ?_) hst hpl
  obtain ⟨vs, H2, I2, r, q2⟩ := hs
  refine ⟨I2.kIn, ?_⟩
  exact run_fn (us := .ref a :: us) (vs := .ref a :: vs) F hr hb .nil pass0 I2 (.cons rfl r) (by rw [List.append_nil]; exact q2)
end
section
variable {K : PySem.W.Frag} {σ : L2.St} {H : Hp} {ta te : TE} {t : TA} {z v : V}
theorem ev_fld {a C dx : Addr} {fs : List (Str × V)} {f : Str} (h : Ev ta σ H (.ref a)) (ha : H a = some (.ins C dx fs)) (c : Cls K C) (n : NoAttr K C f) (l : fs.lookup f = some v) : Ev (tFld K ta f) σ H v := fun H1 e Q q =>
  h H1 e _ fun H2 e2 => ⟨a, C, dx, fs, v, rfl, e2 a _ (e a _ ha), c, n, l, q H2 e2⟩
theorem ev_methP {Mt : Addr → Sp → Prop} {a C dx : Addr} {fs : List (Str × V)} {sp : Sp} {m : Str} {vs : List V} (h : Ev ta σ H (.ref a)) (hC : Mt C sp) (ha : H a = some (.ins C dx fs)) (l : fs.lookup m = none)
    (ht : EvA t σ H vs) (hs : SpV sp (.ref a :: vs) H z) : Ev (tMethP Mt m ta t) σ H z := fun H1 e Q q =>
  h H1 e _ fun H2 e2 => ⟨a, C, dx, fs, sp, rfl, hC, e2 a _ (e a _ ha), l, ht H2 (e.trans e2) _ fun H3 e3 =>
    hs H3 (e.trans (e2.trans e3)) Q (fun H4 e4 => q H4 (e2.trans (e3.trans e4))) E0⟩
/-- a new thing of which W holds -/
def EvN (te : TE) (σ : L2.St) (H : Hp) (W : Addr → Hp → Prop) : Prop := ∀ H1, Ex H H1 → ∀ Q : VK, (∀ p H2, H1 p = none → Ex H1 H2 → W p H2 → Q (.ref p) H2) → te σ H1 Q
theorem EvN.imp {W W' : Addr → Hp → Prop} (h : EvN te σ H W) (i : ∀ p H2, Ex H H2 → W p H2 → W' p H2) : EvN te σ H W' := fun H1 e Q q =>
  h H1 e Q fun p H2 hp e2 hw => q p H2 hp e2 (i p H2 (e.trans e2) hw)
theorem en_bare {C : Addr} : EvN (tBare C) σ H (fun p H2 => ∃ dx, H2 p = some (.ins C dx [])) := fun H1 _ Q q x dx hx hd ne =>
  q x _ hx (fun b o e => by
    rw [upd_ne (ne_of_none e hx), upd_ne (ne_of_none e hd)]
    exact e) ⟨dx, upd_same⟩
def SpN (sp : Sp) (vs : List V) (H : Hp) (W : Addr → Hp → Prop) : Prop :=
  ∀ H1, Ex H H1 → ∀ Q : VK, (∀ p H2, H1 p = none → Ex H1 H2 → W p H2 → Q (.ref p) H2) → ∀ E : XK, sp vs H1 Q E
theorem en_call {sp : Sp} {vs : List V} {E : XK} {W : Addr → Hp → Prop} (h : EvA t σ H vs) (hs : SpN sp vs H W) : EvN (tCall sp [] E t) σ H W := fun H1 e Q q =>
  h H1 e _ fun H2 e2 => by
    rw [List.append_nil]
    exact hs H2 (e.trans e2) Q (fun p H3 hp e3 hw => q p H3 (fresh_back e2 hp) (e2.trans e3) hw) E
/-- C(e, ..): what __init__ leaves -/
theorem en_make {C : Addr} {sp : Sp} {vs : List V} {E : XK} {W : Addr → Hp → Prop} (h : EvA t σ H vs)
    (hs : ∀ H1 x dx, Ex H H1 → H1 x = none → H1 dx = none → dx ≠ x → ∀ Q : VK,
      (∀ H2, Ex H1 H2 → W x H2 → Q .non H2) → sp (.ref x :: vs) (upd (upd H1 dx (.own x)) x (.ins C dx [])) Q E) :
    EvN (tMake C sp [] E t) σ H W := fun H1 e Q q =>
  h H1 e _ fun H2 e2 x dx hx hd ne => by
    rw [List.append_nil]
    exact hs H2 x dx (e.trans e2) hx hd ne _ fun H3 e3 hw => ⟨rfl, q x H3 (fresh_back e2 hx) (e2.trans e3) hw⟩
/-- x.m(..), x a new thing -/
theorem ev_methPN {Mt : Addr → Sp → Prop} {m : Str} {vs : List V} {W : Addr → Hp → Prop} (h : EvN ta σ H W) (ht : EvA t σ H vs)
    (hW : ∀ p H1, Ex H H1 → W p H1 → ∃ C dx fs sp, Mt C sp ∧ H1 p = some (.ins C dx fs) ∧ fs.lookup m = none ∧ SpV sp (.ref p :: vs) H1 z) : Ev (tMethP Mt m ta t) σ H z := fun H1 e Q q =>
  h H1 e _ fun p H2 _ e2 hw => by
    obtain ⟨C, dx, fs, sp, hC, hp, l, hs⟩ := hW p H2 (e.trans e2) hw
    exact ⟨p, C, dx, fs, sp, rfl, hC, hp, l, ht H2 (e.trans e2) _ fun H3 e3 => hs H3 e3 Q (fun H4 e4 => q H4 (e2.trans (e3.trans e4))) E0⟩
/-- x.f, x a new thing -/
theorem ev_fldN {f : Str} {W : Addr → Hp → Prop} (h : EvN ta σ H W)
    (hW : ∀ p H1, Ex H H1 → W p H1 → ∃ C dx fs, H1 p = some (.ins C dx fs) ∧ Cls K C ∧ NoAttr K C f ∧ fs.lookup f = some z) : Ev (tFld K ta f) σ H z := fun H1 e Q q =>
  h H1 e _ fun p H2 _ e2 hw => by
    obtain ⟨C, dx, fs, hp, c, n, l⟩ := hW p H2 (e.trans e2) hw
    exact ⟨p, C, dx, fs, z, rfl, hp, c, n, l, q H2 e2⟩
theorem s_asgN {D : Ends} {i : Nat} {W : Addr → Hp → Prop} (h : EvN te σ H W) (k : ∀ p H1, H p = none → Ex H H1 → W p H1 → D.nx (σ.set i (some (.ref p))) H1) : tAsg te (gName i) D σ H :=
  h H (Ex.refl H) _ fun p H1 hp e hw => k p H1 hp e hw
theorem s_retN {D : Ends} {W : Addr → Hp → Prop} (h : EvN te σ H W) (k : ∀ p H1, H p = none → Ex H H1 → W p H1 → D.rt (.ref p) H1) : tRet te D σ H :=
  h H (Ex.refl H) _ fun p H1 hp e hw => k p H1 hp e hw
/-- isinstance(x, C), x an instance of D -/
structure ClF (K : PySem.W.Frag) (C : Addr) : Prop where
  cls : Cls K C
  ha : PySem.W.findIn K (.ref C) "__class__" = some (some (.builtin "object.__class__"))
  hn : PySem.W.specialIn K (.builtin "object.__class__") "__get__" = some (some (.builtin "getset_descriptor.__get__"))
  htk : PySem.W.takesIn K (.builtin "object.__class__") = some true
  hm : PySem.W.mroIn K C (.type "object") = some true
theorem ev_isiO {a C D dx : Addr} {fs : List (Str × V)} {b : Bool} (h : Ev ta σ H (.ref a)) (ha : H a = some (.ins D dx fs)) (F : ClF K D) (hk : PySem.W.kitOne K (.ref D) (.ref C) = some b) :
    Ev (tCB (rIsi K) (tCons ta (tCons (tC (.ref C)) tNil))) σ H (.bl b) := fun H1 e Q q =>
  h H1 e _ fun H2 e2 => ⟨.ref a, .ref C, .ref D, .ref C, b, rfl, .own C, .base (.ins (e2 a _ (e a _ ha)) F.cls F.ha F.hn F.htk F.hm), hk, q H2 e2⟩
end
end Wt
/-! ### the end: the tables of the code objects that hold generator expressions -/
namespace Wt
open PySem PySem.Spec PyProof.Rows L2 Evl
/-- the tables, from now on as things that may grow -/
def conv (cs : List (Addr × Addr)) (H : Hp) : Hp := fun b => if b ∈ cs.map (·.2) then some (.ext (TabPhi b)) else H b
theorem conv_in {cs : List (Addr × Addr)} {H : Hp} {p : Addr × Addr} (h : p ∈ cs) : Tb (conv cs H) p.2 := if_pos (List.mem_map.mpr ⟨p, h, rfl⟩)
theorem conv_out {cs : List (Addr × Addr)} {H : Hp} {b : Addr} (h : b ∉ cs.map (·.2)) : conv cs H b = H b := if_neg h
def spT (cs : List (Addr × Addr)) (sp : Sp) : Sp := fun vs H Q E =>
  (∀ p ∈ cs, H p.2 = some (.tbl #[])) ∧ sp vs (conv cs H) (fun v H' => (∀ p ∈ cs, Tb H' p.2) ∧ ∀ H'', Q v H'') E
theorem phi_keeps {P : Addr} : ∀ h1 h2 : Heap, TabPhi P h1 → (∀ o, h1.get? P = some o → h2.get? P = some o) → TabPhi P h2 :=
  fun _ _ ⟨ps, e, t⟩ k => ⟨ps, k _ e, t⟩
theorem fn_tabs {P : Program} {w : World} {K : PySem.W.Frag} {mg : Str → Option Value} {base : Heap} {k : Nat} {f : Addr} {fd : FuncData} {ps : List Str} {sp : Sp} {cs : List (Addr × Addr)}
    (F : FnOk P w K mg base CX0 k f fd ps sp) : FnOk P w K mg base CX0 k f fd ps (spT cs sp) := by
  refine ⟨fun vs H Q E h => F.len _ _ _ _ h.2, fun A outer s H args us vs Q E hr e0 hb hv h => ?_⟩
  obtain ⟨hT, h⟩ := h
  have isT : ∀ b, b ∈ cs.map (·.2) → H b = some (.tbl #[]) := fun b hb => by
    obtain ⟨p, hp, e⟩ := List.mem_map.mp hb
    rw [← e]
    exact hT p hp
  have out : ∀ b o, H b = o → o ≠ some (.tbl #[]) → b ∉ cs.map (·.2) := fun b o e n z => n (e.symm.trans (isT b z))
  have same : ∀ b o, H b = o → o ≠ some (.tbl #[]) → conv cs H b = o := fun b o e n => (conv_out (out b o e n)).trans e
  have hok : HOk P w (conv cs H) s.heap := fun b o e => by
    by_cases hb : b ∈ cs.map (·.2)
    · have e2 : some (HO.ext (TabPhi b)) = some o := (if_pos hb).symm.trans e
      cases e2
      have q : s.heap.get? b = some { cls := .none, data := .fields #[] } := e0.hok b _ (isT b hb)
      exact ⟨⟨#[], q, trivial⟩, ⟨_, q⟩, phi_keeps⟩
    · rw [conv_out hb] at e
      exact (e0.hok b o e).stay (fun _ _ _ q => q) (fun c q => same c _ q (fun z => nomatch z)) fun c xs q => same c _ q (fun z => nomatch z)
  have e1 : Env0 P w K mg base A outer s (conv cs H) := ⟨e0.frames, e0.mod,
    fun b o e => ⟨(e0.bs b o e).1, same b _ (e0.bs b o e).2 (fun z => nomatch z)⟩, e0.bsz, e0.funs,
    fun b hb => same b _ (e0.frf b hb) (fun z => nomatch z), hok, e0.bare⟩
  refine codeAny_mono (F.run A outer s (conv cs H) args us vs _ E hr e1 hb hv h) fun r s' hq => ?_
  cases r with
  | error e => exact hq
  | ok fl =>
    cases fl with
    | next => exact hq
    | brk => exact hq
    | cont => exact hq
    | ret u =>
      obtain ⟨v, H', os, bare, un, hok', rv, hTb, q⟩ := hq
      have tb' : ∀ b, b ∈ cs.map (·.2) → Tb H' b := fun b hb => by
        obtain ⟨p, hp, e⟩ := List.mem_map.mp hb
        rw [← e]
        exact hTb p hp
      have tabs : ∀ b, b ∈ cs.map (·.2) → ∃ ps : Array Value, s'.heap.get? b = some { cls := .none, data := .fields ps } := fun b hb => by
        obtain ⟨⟨ps, e, _⟩, _⟩ := hok' b _ (tb' b hb)
        exact ⟨ps, e⟩
      let psOf : Addr → Array Value := fun b => match s'.heap.get? b with
        | some { cls := .none, data := .fields ps, .. } => ps
        | _ => #[]
      have ps_at : ∀ b, b ∈ cs.map (·.2) → s'.heap.get? b = some { cls := .none, data := .fields (psOf b) } := fun b hb => by
        obtain ⟨ps, e⟩ := tabs b hb
        have : psOf b = ps := by
          show (match s'.heap.get? b with
            | some { cls := .none, data := .fields ps, .. } => ps
            | _ => #[]) = ps
          rw [e]
        rw [this]
        exact e
      let H2 : Hp := fun b => if b ∈ cs.map (·.2) then some (.tbl (psOf b)) else H' b
      have h2out : ∀ b, b ∉ cs.map (·.2) → H2 b = H' b := fun b hb => if_neg hb
      have h2in : ∀ b, b ∈ cs.map (·.2) → H2 b = some (.tbl (psOf b)) := fun b hb => if_pos hb
      have keep2 : ∀ b o, H' b = some o → (∀ φ, o ≠ .ext φ) → H2 b = some o := fun b o e n => by
        refine (h2out b fun z => ?_).trans e
        exact n _ (Option.some.inj (e.symm.trans (tb' b z)))
      have o2 : ∀ b o, H b = o → o ≠ some (.tbl #[]) → H2 b = H' b := fun b o e n => h2out b (out b o e n)
      refine ⟨v, H2, os, bare, ⟨fun b o e n hf hx => un.keep b o e (same b _ n (fun z => nomatch z)) hf hx, fun b o e n hf hx => un.slot b o e (same b _ n (fun z => nomatch z)) hf hx,
        fun b o e n hx => (o2 b _ n (fun z => nomatch z)).trans (un.free b o e (same b _ n (fun z => nomatch z)) hx), un.there,
        fun b xs e => keep2 b _ (un.tups b xs (same b _ e (fun z => nomatch z))) (fun _ z => nomatch z),
        fun b o u e => keep2 b _ (un.frzs b o u (same b _ e (fun z => nomatch z))) (fun _ z => nomatch z), fun b ps e => ?_⟩, fun b o e => ?_, rv, q _⟩
      · by_cases hb : b ∈ cs.map (·.2)
        · have z := (isT b hb).symm.trans e
          cases z
          exact ⟨psOf b, by rw [h2in b hb, Array.empty_append]⟩
        · have e' : conv cs H b = some (.tbl ps) := (conv_out hb).trans e
          obtain ⟨more, z⟩ := un.tbls b ps e'
          exact ⟨more, (h2out b hb).trans z⟩
      · by_cases hb : b ∈ cs.map (·.2)
        · have z := (h2in b hb).symm.trans e
          cases z
          exact ps_at b hb
        · rw [h2out b hb] at e
          exact (hok' b o e).stay (fun _ _ _ q => q) (fun c q => keep2 c _ q (fun _ z => nomatch z)) fun c xs q => keep2 c _ q (fun _ z => nomatch z)
/-- the law's own promise: true, and what stood stands -/
def spLaw (K : PySem.W.Frag) (cs : List (Addr × Addr)) : Sp := fun vs H Q _ => ∃ (a : Addr) (ns : List Int), vs = [.ref a] ∧ SqL K H a (ns.map V.int) ∧ ns.length ≤ 63 ∧
  (∀ z ∈ ns, Builtin.Int.intBits z ≤ 1048576) ∧ (∀ p ∈ cs, Tb H p.2) ∧ ∀ H', Ex H H' → Q (.bl true) H'
theorem sq_conv {K : PySem.W.Frag} {cs : List (Addr × Addr)} {H : Hp} {a : Addr} {xs : List V} (hT : ∀ p ∈ cs, H p.2 = some (.tbl #[])) (h : SqL K H a xs) : SqL K (conv cs H) a xs := by
  have ne : ∀ o, H a = some o → (∀ ps, o ≠ .tbl ps) → conv cs H a = some o := fun o e n => by
    refine (conv_out fun z => ?_).trans e
    obtain ⟨p, hp, ep⟩ := List.mem_map.mp z
    have := hT p hp
    rw [ep, e] at this
    exact n _ (Option.some.inj this)
  rcases h with (h | ⟨o, h⟩) | h
  · exact .inl (.inl (ne _ h fun _ z => nomatch z))
  · exact .inl (.inr ⟨o, ne _ h fun _ z => nomatch z⟩)
  · exact .inr h
theorem walk_tabs {l : PySem.W.OpenLaw} {k : Nat} {q : Program} {loose : List Str} {XP : (Str → Option Value) → Heap → Prop} {YP : World → Heap → Prop} {d : DefRec} {K : Params → PySem.W.Frag} {x : Str}
    (hn : l.most = some 63) (hdf : d.params.defaults = []) (hr : Room k callerA) (hY : ∀ (w : World) (h : Heap), YP w h → (K w.params).In h) (nt : ∀ w : World, PySem.W.noTabs (K w.params) = true)
    (xs : List Str) (hx : ∀ y ∈ xs, ((recsOf q).find? fun e => e.name == y).isSome = true)
    (F : ∀ (w : World) (mg : Str → Option Value) (fa : Addr) (h : Heap), (K w.params).In h → h.Ns mainGlobals mg → mg d.name = some (.ref fa) →
      ∃ (fd : FuncData) (cs : List (Addr × Addr)), (∀ p ∈ cs, ∃ y ∈ xs, PySem.W.tabIn (K w.params) y = some p) ∧ (∀ (s : Shared) (u : Value), BindsTo s fd ⟨[u], []⟩ [(x, u)]) ∧
        ∀ base : Heap, (K w.params).In base → base.Ns mainGlobals mg → (∀ p ∈ cs, GxR.TabB base mg p.1 p.2) → FnOk l.prog w (K w.params) mg base CX0 k fa fd [x] (spLaw (K w.params) cs)) :
    PySem.W.WalkO q loose XP YP l.row.toRowW d [] (fun f vs => PySem.call f vs) := by
  refine Att.attach_callB hn hdf fun w s₀ s₁ mg mb fa o pm cd doc a vs ns G Y ho hd hcd hmg hobj hints hlen hbits hg => ?_
  have KX := hY w _ Y
  obtain ⟨fd, cs, htab, hb, hF⟩ := F w mg fa _ KX G.T.g hmg
  have at_ : ∀ p ∈ cs, PySem.W.CodeHd s₁.heap p.1 p.2 ∧ s₁.heap.get? p.2 = some { cls := .none, data := .fields #[] } := fun p hp => by
    obtain ⟨y, hy, ht⟩ := htab p hp
    obtain ⟨dd, hdd⟩ := Option.isSome_iff_exists.mp (hx y hy)
    exact PySem.W.tab_of G.T KX hdd ht
  have nT : ∀ p ∈ cs, (K w.params).lookup p.2 = none := fun p hp => by
    cases hk : (K w.params).lookup p.2 with
    | none => rfl
    | some o1 =>
      have e := KX _ _ hk
      rw [(at_ p hp).2] at e
      cases e
      have z := List.all_eq_true.mp (nt w) _ (PySem.W.mem_of_lookupK hk)
      exact absurd (show false = true from z) Bool.false_ne_true
  refine LamX.law_callTs (CX := CX0) (sp := spT cs (spLaw (K w.params) cs)) KX G.T.g G.T.b G.T.builtins G.T.nolimit hg
    (fun p hp => (at_ p hp).2) nT (fun p hp => (at_ p hp).1) G.T.bmain hobj hints (Nat.le_trans hlen (by decide)) hr
    (fun base h1 h2 h3 => fn_tabs (hF base h1 h2 fun p hp => ⟨(h3 p hp).code, (h3 p hp).bm, (h3 p hp).gP⟩)) hb (fun H hH hS => ⟨hH, a, ns, rfl, sq_conv hH hS, hlen, hbits, fun p hp => conv_in hp, fun H' e => ⟨fun p hp => e _ _ (conv_in hp), fun _ => rfl⟩⟩)
    fun H e s' h => h
end Wt
/-! ### the answers' classes, what each def promises -/
namespace Wt
open PySem PySem.Spec PyProof.Rows L2 Evl
/-- where the classes stand, and the tables of the two defs with generator expressions -/
structure Ad where
  N : Addr
  A : Addr
  G : Addr
  B : Addr
  P1 : Addr
  P2 : Addr
structure Ans (K : PySem.W.Frag) (mg : Str → Option Value) (D : Ad) (fGi fBi : Addr) : Prop where
  clA : ClF K D.A
  clG : ClF K D.G
  clB : ClF K D.B
  mkA : MkB K D.A
  mkG : Mk K D.G fGi
  mkB : Mk K D.B fBi
  mgN : mg "Answer" = some (.ref D.N)
  mgA : mg "All" = some (.ref D.A)
  mgG : mg "Gap" = some (.ref D.G)
  mgB : mg "Best" = some (.ref D.B)
  nG : NoAttr K D.G "number"
  nB1 : NoAttr K D.B "added"
  nB2 : NoAttr K D.B "misses"
/-- a method: its def, how its arguments bind -/
structure OwnM (K : PySem.W.Frag) (x qual : Str) (ps : List Str) (st : Stmt) (f : Addr) (fd : FuncData) : Prop where
  F : L2.Fun K x qual st f fd
  b : Binds K fd ps []
/-! fields -/
def fG (n : Int) : List (Str × V) := putF "number" (.int n) []
def fB (l1 l2 : Addr) : List (Str × V) := putF "misses" (.ref l2) (putF "added" (.ref l1) [])
theorem fG_at (n : Int) : (fG n).lookup ("number" : Str) = some (.int n) := by
  unfold fG
  rw [lookup_putF, if_pos rfl]
theorem fG_no (n : Int) : (fG n).lookup ("shows" : Str) = none := by
  unfold fG
  rw [lookup_putF, if_neg (by decide +kernel)]
  rfl
theorem fB_added (l1 l2 : Addr) : (fB l1 l2).lookup ("added" : Str) = some (.ref l1) := by
  unfold fB
  rw [lookup_putF, if_neg (by decide +kernel), lookup_putF, if_pos rfl]
theorem fB_misses (l1 l2 : Addr) : (fB l1 l2).lookup ("misses" : Str) = some (.ref l2) := by
  unfold fB
  rw [lookup_putF, if_pos rfl]
theorem fB_no (l1 l2 : Addr) : (fB l1 l2).lookup ("shows" : Str) = none := by
  unfold fB
  rw [lookup_putF, if_neg (by decide +kernel), lookup_putF, if_neg (by decide +kernel)]
  rfl
def AllAt (D : Ad) (H : Hp) (p : Addr) : Prop := ∃ dx, H p = some (.ins D.A dx [])
def GapAt (D : Ad) (H : Hp) (p : Addr) (n : Int) : Prop := ∃ dx, H p = some (.ins D.G dx (fG n))
def BestAt (D : Ad) (H : Hp) (p : Addr) (as ms : List Int) : Prop := ∃ dx l1 l2, H p = some (.ins D.B dx (fB l1 l2)) ∧
  H l1 = some (.lst (as.map V.int)) ∧ H l2 = some (.lst (ms.map V.int))
/-- .. its lists new, apart -/
def BestNew (D : Ad) (H0 : Hp) (as ms : List Int) (p : Addr) (H : Hp) : Prop := ∃ dx l1 l2, H p = some (.ins D.B dx (fB l1 l2)) ∧
  H l1 = some (.lst (as.map V.int)) ∧ H l2 = some (.lst (ms.map V.int)) ∧ H0 l1 = none ∧ H0 l2 = none ∧ l1 ≠ l2
theorem BestNew.at_ {D : Ad} {H0 H : Hp} {as ms : List Int} {p : Addr} (h : BestNew D H0 as ms p H) : BestAt D H p as ms :=
  let ⟨dx, l1, l2, a, b, c, _⟩ := h
  ⟨dx, l1, l2, a, b, c⟩
theorem AllAt.ex {D : Ad} {H H' : Hp} {p : Addr} (e : Ex H H') (h : AllAt D H p) : AllAt D H' p := let ⟨dx, a⟩ := h; ⟨dx, e _ _ a⟩
theorem GapAt.ex {D : Ad} {H H' : Hp} {p : Addr} {n : Int} (e : Ex H H') (h : GapAt D H p n) : GapAt D H' p n := let ⟨dx, a⟩ := h; ⟨dx, e _ _ a⟩
theorem BestAt.ex {D : Ad} {H H' : Hp} {p : Addr} {as ms : List Int} (e : Ex H H') (h : BestAt D H p as ms) : BestAt D H' p as ms :=
  let ⟨dx, l1, l2, a, b, c⟩ := h
  ⟨dx, l1, l2, e _ _ a, e _ _ b, e _ _ c⟩
/-- a new thing is given back -/
def RetN (W : Addr → Hp → Prop) (H : Hp) (Q : VK) : Prop := ∀ p H2, H p = none → Ex H H2 → W p H2 → Q (.ref p) H2
/-! an All or a Gap -/
def KAt (D : Ad) (H : Hp) (p : Addr) : Option Int → Prop
  | none => AllAt D H p
  | some n => GapAt D H p n
def kVal : Option Int → List Int → Int → Bool
  | none, ws, m => decide (m < gap ws)
  | some n, ws, m => gapOk n ws m
theorem KAt.ex {D : Ad} {H H' : Hp} {p : Addr} {o : Option Int} (e : Ex H H') (h : KAt D H p o) : KAt D H' p o := by
  cases o with
  | none => exact AllAt.ex e h
  | some n => exact GapAt.ex e h
/-- what is told -/
def tellO (ws : List Int) (m : Int) : Option Int := if m < gap ws then none else some (gap ws)
/-! promises -/
def spFrom : Sp := fun vs H Q _ => ∃ n m : Int, vs = [.int n, .int m] ∧ RetV (.bl (decide (1 ≤ n) && decide (n ≤ m))) H Q
def spLeft (K : PySem.W.Frag) (D : Ad) : Sp := fun vs H Q _ => ∃ (n : Int) (a : Addr) (ws : List Int), vs = [.int n, .ref a] ∧ SqL K H a (ws.map V.int) ∧ Tb H D.P1 ∧ RetV (.bl (leftOut n ws)) H Q
def spAreW (K : PySem.W.Frag) (D : Ad) : Sp := fun vs H Q _ => ∃ (a : Addr) (ns : List Int), vs = [.ref a] ∧ SqL K H a (ns.map V.int) ∧ Tb H D.P2 ∧ RetV (.bl (ns.all fun n => decide (1 ≤ n))) H Q
def spAreM (K : PySem.W.Frag) : Sp := fun vs H Q _ => ∃ (b a : Addr) (ms ws : List Int) (m : Int), vs = [.ref b, .ref a, .int m] ∧ SqL K H b (ms.map V.int) ∧ SqL K H a (ws.map V.int) ∧
  RetV (.bl (missF m 0 (srt ws) ms)) H Q
def spAllShows (K : PySem.W.Frag) (D : Ad) : Sp := fun vs H Q _ => ∃ (x a : Addr) (ws : List Int) (m : Int), vs = [.ref x, .ref a, .int m] ∧ SqL K H a (ws.map V.int) ∧ RetV (.bl (decide (m < gap ws))) H Q
def spGapInit (D : Ad) : Sp := fun vs H Q _ => ∃ (x dx : Addr) (n : Int), vs = [.ref x, .int n] ∧ H x = some (.ins D.G dx []) ∧
  ∀ H', H' x = some (.ins D.G dx (fG n)) → (∀ b o, H b = some o → b ≠ x → H' b = some o) → Q .non H'
def spGapShows (K : PySem.W.Frag) (D : Ad) : Sp := fun vs H Q _ => ∃ (x a : Addr) (n : Int) (ws : List Int) (m : Int), vs = [.ref x, .ref a, .int m] ∧ GapAt D H x n ∧ SqL K H a (ws.map V.int) ∧ Tb H D.P1 ∧
  RetV (.bl (gapOk n ws m)) H Q
def spBestInit (K : PySem.W.Frag) (D : Ad) : Sp := fun vs H Q _ => ∃ (x dx a b : Addr) (as ms : List Int), vs = [.ref x, .ref a, .ref b] ∧ H x = some (.ins D.B dx []) ∧ SqL K H a (as.map V.int) ∧ SqL K H b (ms.map V.int) ∧
  ∀ H' l1 l2, H l1 = none → H l2 = none → l1 ≠ l2 → H' x = some (.ins D.B dx (fB l1 l2)) → H' l1 = some (.lst (as.map V.int)) → H' l2 = some (.lst (ms.map V.int)) →
    (∀ b o, H b = some o → b ≠ x → H' b = some o) → Q .non H'
def spBestShows (K : PySem.W.Frag) (D : Ad) : Sp := fun vs H Q _ => ∃ (x a : Addr) (as ms ws : List Int) (m : Int), vs = [.ref x, .ref a, .int m] ∧ BestAt D H x as ms ∧ H a = some (.lst (ws.map V.int)) ∧ Tb H D.P2 ∧
  ws.length + as.length ≤ 90000 ∧ RetV (.bl (bestOk as ms ws m)) H Q
def spCheckAsked (K : PySem.W.Frag) : Sp := fun vs H Q _ => ∃ (a : Addr) (ws : List Int) (m : Int), vs = [.ref a, .int m] ∧ SqL K H a (ws.map V.int) ∧ Pos ws ∧ 0 ≤ m ∧ RetV .non H Q
def spGaps (K : PySem.W.Frag) : Sp := fun vs H Q _ => ∃ (a : Addr) (ws : List Int) (m : Int), vs = [.ref a, .int m] ∧ SqL K H a (ws.map V.int) ∧ Pos ws ∧ ws.length ≤ 40000 ∧ 0 ≤ m ∧ m < 2 ^ 1000 ∧
  RetL ((gapsC ws m).map V.int) H Q
def spTold (K : PySem.W.Frag) (D : Ad) : Sp := fun vs H Q _ => ∃ (a : Addr) (ws : List Int) (m : Int), vs = [.ref a, .int m] ∧ SqL K H a (ws.map V.int) ∧ Pos ws ∧ 0 ≤ m ∧
  RetN (fun p H' => KAt D H' p (tellO ws m)) H Q
def spFewest (K : PySem.W.Frag) (D : Ad) : Sp := fun vs H Q _ => ∃ (a : Addr) (ws : List Int) (m : Int), vs = [.ref a, .int m] ∧ SqL K H a (ws.map V.int) ∧ Pos ws ∧ ws.length ≤ 40000 ∧ 0 ≤ m ∧ m < 2 ^ 1000 ∧
  RetN (BestNew D H (gapsC ws m) (gapsC ws m)) H Q
/-- each class's shows -/
def ShowsMt (K : PySem.W.Frag) (D : Ad) (C : Addr) (sp : Sp) : Prop := (C = D.A ∧ sp = spAllShows K D) ∨ (C = D.G ∧ sp = spGapShows K D) ∨ (C = D.B ∧ sp = spBestShows K D)
theorem inV_int (n : Int) : ∀ ws : List Int, inV (.int n) (ws.map V.int) = ws.contains n
  | [] => rfl
  | w :: r => by
    show ((w == n) || inV (.int n) (r.map V.int)) = (n == w || r.contains n)
    rw [inV_int n r]
    by_cases h : w = n
    · subst h
      rfl
    · rw [beq_eq_false_iff_ne.mpr h, beq_eq_false_iff_ne.mpr (fun z => h z.symm)]
theorem flat_ints (ws : List Int) : (ws.map V.int).all flatV = true := by
  rw [List.all_eq_true]
  intro x hx
  obtain ⟨w, _, rfl⟩ := List.mem_map.mp hx
  rfl
section
variable {K : PySem.W.Frag} {σ : L2.St} {H : Hp} {ta te : TE} {z v : V}
theorem ev_sumLt {P a : Addr} {j : Nat} {k : Int} {ns : List Int} (hj : σ[j]? = some (some (.int k))) (h : Ev te σ H (.ref a)) (hs : SqL K H a (ns.map V.int)) (hP : Tb H P) : Ev (tSumLt K P j te) σ H (.int (lowSum k ns)) := fun H1 e Q q =>
  ⟨k, hj, h H1 e _ fun H2 e2 => ⟨a, ns, rfl, ex_l (e.trans e2) hs, e2 _ _ (e _ _ hP), q H2 e2⟩⟩
theorem ev_allGe {P a : Addr} {k : Int} {ns : List Int} (h : Ev te σ H (.ref a)) (hs : SqL K H a (ns.map V.int)) (hP : Tb H P) : Ev (tAllGe K P k te) σ H (.bl (ns.all fun n => decide (k ≤ n))) := fun H1 e Q q =>
  h H1 e _ fun H2 e2 => ⟨a, ns, rfl, ex_l (e.trans e2) hs, e2 _ _ (e _ _ hP), q H2 e2⟩
theorem ev_notIn {tb : TE} {n : Int} {a : Addr} {ws : List Int} (ha : Ev ta σ H (.int n)) (hb : Ev tb σ H (.ref a)) (hs : SqL K H a (ws.map V.int)) : Ev (tOp (rIn K true) ta tb) σ H (.bl (!ws.contains n)) :=
  ev_is (ev_op ha hb (rv_niL hs rfl (flat_ints ws))) (by rw [inV_int])
theorem ev_inI {tb : TE} {n : Int} {a : Addr} {ws : List Int} (ha : Ev ta σ H (.int n)) (hb : Ev tb σ H (.ref a)) (hs : SqL K H a (ws.map V.int)) : Ev (tOp (rIn K false) ta tb) σ H (.bl (ws.contains n)) :=
  ev_is (ev_op ha hb (rv_isL hs rfl (flat_ints ws))) (by rw [inV_int])
/-- a call with a new list among the arguments, none ahead of it -/
theorem ev_callNI {sp : Sp} {E : XK} {xs : List V} {tb : TE} {y : V} (h : EvL ta σ H xs) (hb : Ev tb σ H y) (hs : ∀ p H1, H1 p = some (.lst xs) → Ex H H1 → SpV sp [.ref p, y] H1 z) : Ev (tCall sp [] E (tCons ta (tCons tb tNil))) σ H z := ev_callN2 h hb hs
end
end Wt
namespace Wt
open PySem PySem.Spec PyProof.Rows L2 Evl
section
variable {K : PySem.W.Frag} {σ : L2.St} {H : Hp} {ta tv : TE} {v : V} {D : Ends} {tz : TS}
theorem s_fld {a C dx : Addr} {fs : List (Str × V)} {f : Str} (hv : Ev tv σ H v) (ha : Ev ta σ H (.ref a)) (hp : H a = some (.ins C dx fs)) (c : Cls K C) (n : NoAttr K C f) (l : fs.length < 1000)
    (k : ∀ H1, Ex H H1 → D.nx σ (upd H1 a (.ins C dx (putF f v fs)))) : sFld K ta tv f D σ H :=
  hv H (Ex.refl H) _ fun H1 e1 => ha H1 e1 _ fun H2 e2 => ⟨a, C, dx, fs, rfl, (e1.trans e2) a _ hp, c, n, l, k H2 (e1.trans e2)⟩
theorem s_fldL {a C dx : Addr} {fs : List (Str × V)} {f : Str} {xs : List V} (hv : EvL tv σ H xs) (ha : Ev ta σ H (.ref a)) (hp : H a = some (.ins C dx fs)) (c : Cls K C) (n : NoAttr K C f) (l : fs.length < 1000)
    (k : ∀ p H1, H p = none → Ex H H1 → H1 p = some (.lst xs) → D.nx σ (upd H1 a (.ins C dx (putF f (.ref p) fs)))) : sFld K ta tv f D σ H :=
  hv H (Ex.refl H) _ fun p H1 hp1 e1 h1 => ha H1 e1 _ fun H2 e2 => ⟨a, C, dx, fs, rfl, (e1.trans e2) a _ hp, c, n, l, k p H2 hp1 (e1.trans e2) (e2 p _ h1)⟩
theorem q_fldL {a C dx : Addr} {fs : List (Str × V)} {f : Str} {xs : List V} (hv : EvL tv σ H xs) (ha : Ev ta σ H (.ref a)) (hp : H a = some (.ins C dx fs)) (c : Cls K C) (n : NoAttr K C f) (l : fs.length < 1000)
    (k : ∀ p H1, H p = none → Ex H H1 → H1 p = some (.lst xs) → tz D σ (upd H1 a (.ins C dx (putF f (.ref p) fs)))) : tSeq (sFld K ta tv f) tz D σ H :=
  s_fldL (D := { D with nx := tz D }) hv ha hp c n l k
end
end Wt
/-! ### isinstance among the answers' classes -/
namespace Wt
open PySem PySem.Spec PyProof.Rows L2 Evl
structure Kit (K : PySem.W.Frag) (D : Ad) : Prop where
  AN : PySem.W.kitOne K (.ref D.A) (.ref D.N) = some true
  AA : PySem.W.kitOne K (.ref D.A) (.ref D.A) = some true
  AG : PySem.W.kitOne K (.ref D.A) (.ref D.G) = some false
  AB : PySem.W.kitOne K (.ref D.A) (.ref D.B) = some false
  GN : PySem.W.kitOne K (.ref D.G) (.ref D.N) = some true
  GA : PySem.W.kitOne K (.ref D.G) (.ref D.A) = some false
  GG : PySem.W.kitOne K (.ref D.G) (.ref D.G) = some true
  GB : PySem.W.kitOne K (.ref D.G) (.ref D.B) = some false
  BN : PySem.W.kitOne K (.ref D.B) (.ref D.N) = some true
  BA : PySem.W.kitOne K (.ref D.B) (.ref D.A) = some false
  BG : PySem.W.kitOne K (.ref D.B) (.ref D.G) = some false
  BB : PySem.W.kitOne K (.ref D.B) (.ref D.B) = some true
end Wt
/-! ### more of what things evaluate to -/
namespace Wt
open PySem PySem.Spec PyProof.Rows L2 Evl
theorem bits_lt {z : Int} {n : Nat} (h : Builtin.Int.intBits z ≤ n) : z.natAbs < 2 ^ n := by
  unfold Builtin.Int.intBits at h
  by_cases e : z = 0
  · subst e
    exact Nat.pow_pos (by decide)
  · rw [if_neg (by simpa using e)] at h
    have : z.natAbs ≠ 0 := fun q => e (Int.natAbs_eq_zero.mp q)
    exact (Nat.log2_lt this).mp (by omega)
theorem sum_lt {n : Nat} : ∀ {l : List Int}, (∀ z ∈ l, z.natAbs < 2 ^ n) → l.sum.natAbs ≤ l.length * 2 ^ n
  | [], _ => Nat.zero_le _
  | z :: r, h => by
    have h1 := h z List.mem_cons_self
    have h2 := sum_lt fun y hy => h y (List.mem_cons_of_mem _ hy)
    rw [List.sum_cons, List.length_cons, Nat.succ_mul]
    have := Int.natAbs_add_le z r.sum
    omega
theorem sum_bits {n : Nat} {l : List Int} (h : ∀ z ∈ l, Builtin.Int.intBits z ≤ n) (hl : l.length ≤ 63) : l.sum.natAbs < 2 ^ (n + 6) := by
  have h1 := sum_lt fun z hz => bits_lt (h z hz)
  have h2 : l.length * 2 ^ n ≤ 63 * 2 ^ n := Nat.mul_le_mul_right _ hl
  have h3 : 0 < 2 ^ n := Nat.pow_pos (by decide)
  rw [Nat.pow_add]
  omega
/-- a written small factor -/
theorem ev_mulC {ta tb : TE} {σ : L2.St} {H : Hp} {i j : Int} (ha : Ev ta σ H (.int i)) (hb : Ev tb σ H (.int j)) (h : -(2 ^ 64) < i ∧ i < 2 ^ 64) : Ev (tOp (rI CMul fun i j => .int (i * j)) ta tb) σ H (.int (i * j)) := ev_op ha hb (rv_I (.inl h))
section
variable {K : PySem.W.Frag} {σ : L2.St} {H : Hp} {ta tb tc te : TE} {t : TA} {z v : V}
/-- a ≤ b ≤ c -/
theorem ev_chainLe {i j k : Int} (ha : Ev ta σ H (.int i)) (hb : Ev tb σ H (.int j)) (hc : Ev tc σ H (.int k)) :
    Ev (tChain (rI0 fun i j => .bl (decide (i ≤ j))) (rI0 fun i j => .bl (decide (i ≤ j))) ta tb tc) σ H (.bl (decide (i ≤ j) && decide (j ≤ k))) := fun H1 e Q q =>
  ha H1 e _ fun H2 e2 => hb H2 (e.trans e2) _ fun H3 e3 => ⟨i, j, rfl, rfl, decide (i ≤ j), rfl, by
    cases hd : decide (i ≤ j) with
    | true =>
      rw [if_pos rfl]
      rw [hd, Bool.true_and] at q
      exact hc H3 (e.trans (e2.trans e3)) _ fun H4 e4 => ⟨j, k, rfl, rfl, q H4 (e2.trans (e3.trans e4))⟩
    | false =>
      rw [if_neg Bool.false_ne_true]
      rw [hd, Bool.false_and] at q
      exact q H3 (e2.trans e3)⟩
/-- a < b ≤ c -/
theorem ev_chainLt {i j k : Int} (ha : Ev ta σ H (.int i)) (hb : Ev tb σ H (.int j)) (hc : Ev tc σ H (.int k)) :
    Ev (tChain (rI0 fun i j => .bl (decide (i < j))) (rI0 fun i j => .bl (decide (i ≤ j))) ta tb tc) σ H (.bl (decide (i < j) && decide (j ≤ k))) := fun H1 e Q q =>
  ha H1 e _ fun H2 e2 => hb H2 (e.trans e2) _ fun H3 e3 => ⟨i, j, rfl, rfl, decide (i < j), rfl, by
    cases hd : decide (i < j) with
    | true =>
      rw [if_pos rfl]
      rw [hd, Bool.true_and] at q
      exact hc H3 (e.trans (e2.trans e3)) _ fun H4 e4 => ⟨j, k, rfl, rfl, q H4 (e2.trans (e3.trans e4))⟩
    | false =>
      rw [if_neg Bool.false_ne_true]
      rw [hd, Bool.false_and] at q
      exact q H3 (e2.trans e3)⟩
/-- a comprehension with a test, over numbers -/
theorem given_filter (ws : List Int) (p : Int → Bool) : given ws.length (fun i => p (ws.getD i 0)) (fun i => V.int (ws.getD i 0)) = (ws.filter p).map V.int := by
  unfold given
  have e : ws = (List.range ws.length).map fun i => ws.getD i 0 := by
    refine List.ext_getElem (by rw [List.length_map, List.length_range]) fun i h1 h2 => ?_
    rw [List.getElem_map, List.getElem_range, List.getD_eq_getElem?_getD, List.getElem?_eq_getElem h1]
    rfl
  conv => rhs; rw [e]
  rw [List.filter_map, List.map_map]
  rfl
theorem el_lcF {a : Addr} {ns : List Int} {tl : TE} {j : Nat} {vs : List Nat} {tt : TT} (p : Int → Bool) (h : Ev tl σ H (.ref a)) (hx : SqL K H a (ns.map V.int)) (hz : ns.length ≤ 40000)
    (hw : ∀ x, wipe ((wipe σ vs).set j (some x)) vs = wipe σ vs) (ht : ∀ (n : Int) H1, Ex H H1 → EvT tt ((wipe σ vs).set j (some (.int n))) H1 (p n))
    (he : ∀ (n : Int) H1, Ex H H1 → Ev te ((wipe σ vs).set j (some (.int n))) H1 (.int n)) : EvL (tLc (iList K tl) (gName j) tt te vs) σ H ((ns.filter p).map V.int) := by
  refine el_is (el_lcL (fun i => p (ns.getD i 0)) (fun i => V.int (ns.getD i 0)) h hx (by rw [List.length_map]; exact hz) hw (fun i x H1 e1 hi => ?_) fun i x H1 e1 hi _ => ?_) ?_
  · obtain ⟨n, hn, rfl⟩ := vget hi
    rw [show ns.getD i 0 = n by rw [List.getD_eq_getElem?_getD, hn] <;> rfl]
    exact ht n H1 e1
  · obtain ⟨n, hn, rfl⟩ := vget hi
    rw [show ns.getD i 0 = n by rw [List.getD_eq_getElem?_getD, hn] <;> rfl]
    exact he n H1 e1
  · rw [List.length_map, given_filter]
/-- bools compared -/
theorem dec_vbl (a b : Bool) : decide (V.bl a = V.bl b) = (a == b) := by
  cases a <;> cases b <;> rfl
theorem ev_eqB {a b : Bool} (ha : Ev ta σ H (.bl a)) (hb : Ev tb σ H (.bl b)) : Ev (tOp rEq ta tb) σ H (.bl (a == b)) := ev_is (ev_op ha hb (rv_eq rfl)) (by rw [dec_vbl])
theorem ev_neB {a b : Bool} (ha : Ev ta σ H (.bl a)) (hb : Ev tb σ H (.bl b)) : Ev (tOp rNe ta tb) σ H (.bl (!(a == b))) := ev_is (ev_op ha hb (rv_ne rfl)) (by rw [dec_vbl])
theorem ev_notB {a b : Bool} (ha : Ev ta σ H (.bl a)) (hb : Ev tb σ H (.bl b)) : Ev (tOp rNotB ta tb) σ H (.bl (!decide (a = b))) := fun H1 e Q q =>
  ha H1 e _ fun H2 e2 => hb H2 (e.trans e2) _ fun H3 e3 => ⟨a, b, rfl, rfl, q H3 (e2.trans e3)⟩
/-! things of which something holds that stays -/
def EvZ (te : TE) (σ : L2.St) (H : Hp) (Z : V → Hp → Prop) : Prop := ∀ H1, Ex H H1 → ∀ Q : VK, (∀ x H2, Ex H1 H2 → Z x H2 → Q x H2) → te σ H1 Q
def EvZA (ta : TA) (σ : L2.St) (H : Hp) (Z : V → Hp → Prop) (n : Nat) : Prop := ∀ H1, Ex H H1 → ∀ Q : List V → Hp → Prop, (∀ xs H2, Ex H1 H2 → (∀ x ∈ xs, Z x H2) → xs.length = n → Q xs H2) → ta σ H1 Q
def Stays (Z : V → Hp → Prop) : Prop := ∀ x H H', Ex H H' → Z x H → Z x H'
theorem ez_nil {Z : V → Hp → Prop} : EvZA tNil σ H Z 0 := fun H1 _ _ q => q [] H1 (Ex.refl H1) (fun _ h => nomatch h) rfl
theorem ez_cons {Z : V → Hp → Prop} {tr : TA} {n : Nat} (S : Stays Z) (h : EvZ te σ H Z) (hr : EvZA tr σ H Z n) : EvZA (tCons te tr) σ H Z (n + 1) := fun H1 e Q q =>
  h H1 e _ fun x H2 e2 hx => hr H2 (e.trans e2) _ fun xs H3 e3 hxs hl => q (x :: xs) H3 (e2.trans e3) (fun y hy => by
    rcases List.mem_cons.mp hy with z | z
    · rw [z]
      exact S x H2 H3 e3 hx
    · exact hxs y z) (by rw [List.length_cons, hl])
theorem en_lstZ {Z : V → Hp → Prop} {ta : TA} {n : Nat} (S : Stays Z) (h : EvZA ta σ H Z n) (hn : n ≤ 100000) : EvN (tLst ta) σ H (fun p H2 => ∃ xs, H2 p = some (.lst xs) ∧ (∀ x ∈ xs, Z x H2) ∧ xs.length = n) := fun H1 e Q q =>
  h H1 e _ fun xs H2 e2 hx hl => ⟨by rw [hl]; exact sz_of hn, fun p hp => q p _ (fresh_back e2 hp) (e2.trans (Ex.new hp)) ⟨xs, upd_same, fun x h => S x _ _ (Ex.new hp) (hx x h), hl⟩⟩
theorem ez_pairL {xs : List V} {y : V} {Z : V → Hp → Prop} (h : EvL ta σ H xs) (hb : Ev tb σ H y) (hZ : ∀ t l H1, Ex H H1 → H1 t = some (.tup [.ref l, y]) → H1 l = some (.lst xs) → Z (.ref t) H1) : EvZ (tTup (tCons ta (tCons tb tNil))) σ H Z := fun H1 e Q q =>
  h H1 e _ fun l H2 _ e2 hl => hb H2 (e.trans e2) _ fun H3 e3 => ⟨by show 2 ≤ sizeLine; decide, fun t ht => by
    have e4 := e2.trans (e3.trans (Ex.new (o := .tup [.ref l, y]) ht))
    exact q (.ref t) _ e4 (hZ t l _ (e.trans e4) upd_same (by rw [upd_ne (ne_of_none (e3 l _ hl) ht)]; exact e3 l _ hl))⟩
theorem ez_pairR {l : Addr} {xs : List V} {y : V} {Z : V → Hp → Prop} (ha : Ev ta σ H (.ref l)) (hl : H l = some (.lst xs)) (hb : Ev tb σ H y) (hZ : ∀ t l H1, Ex H H1 → H1 t = some (.tup [.ref l, y]) → H1 l = some (.lst xs) → Z (.ref t) H1) : EvZ (tTup (tCons ta (tCons tb tNil))) σ H Z := fun H1 e Q q =>
  ha H1 e _ fun H2 e2 => hb H2 (e.trans e2) _ fun H3 e3 => ⟨by show 2 ≤ sizeLine; decide, fun t ht => by
    have e4 := e2.trans (e3.trans (Ex.new (o := .tup [.ref l, y]) ht))
    exact q (.ref t) _ e4 (hZ t l _ (e.trans e4) upd_same ((e.trans e4) l _ hl))⟩
/-- a pair of some weights and some number -/
def PairZ (n : Nat) : V → Hp → Prop := fun x H => ∃ (t l : Addr) (os : List Int) (k : Int), x = .ref t ∧ H t = some (.tup [.ref l, .int k]) ∧ H l = some (.lst (os.map V.int)) ∧ os.length ≤ n ∧ Pos os
theorem pairZ_stays {n : Nat} : Stays (PairZ n) := fun _ _ _ e ⟨t, l, os, k, a, b, c, d⟩ => ⟨t, l, os, k, a, e _ _ b, e _ _ c, d⟩
theorem pairZ_mk {n : Nat} {os : List Int} {k : Int} (h : os.length ≤ n) (p : Pos os) {H : Hp} : ∀ t l H1, Ex H H1 → H1 t = some (.tup [.ref l, .int k]) → H1 l = some (.lst (os.map V.int)) → PairZ n (.ref t) H1 := fun t l _ _ a b => ⟨t, l, os, k, rfl, a, b, h, p⟩
theorem q_forN {D : Ends} {tz tu : TS} {tl : TE} {g : TG} {Z : V → Hp → Prop} {n : Nat} (S : Stays Z) (h : EvN tl σ H (fun p H2 => ∃ xs, H2 p = some (.lst xs) ∧ (∀ x ∈ xs, Z x H2) ∧ xs.length = n)) (Pv : L2.St → Hp → Prop) (h0 : ∀ H1, Ex H H1 → Pv σ H1)
    (hx : ∀ σ' H', Pv σ' H' → Ex H H')
    (hs : ∀ x σ' H', Z x H' → Pv σ' H' → ∀ M : L2.St → Hp → Prop, (∀ σ2 H2, Ex H' H2 → Pv σ2 H2 → M σ2 H2) → g x σ' H' fun σ2 H2 => tu { D with nx := M, ct := M, bk := tz D } σ2 H2) (hd : ∀ σ' H', Pv σ' H' → tz D σ' H') : tSeq (tFor (iList K tl) g tu) tz D σ H :=
  h H (Ex.refl H) _ fun p H1 _ e1 ⟨xs, hp, hz, _⟩ => ⟨p, rfl, ⟨xs, sq_of hp⟩, for_list (D := { D with nx := tz D }) (fun i σ' H' => Pv σ' H' ∧ Ex H1 H') ⟨h0 H1 e1, Ex.refl H1⟩ (fun i σ' H' _ q => sq_of (q.2 p _ hp))
    (fun i x σ' H' hi q => hs x σ' H' (S x _ _ q.2 (hz x (List.mem_of_getElem? hi))) q.1 _ fun σ2 H2 e2 p2 => ⟨p2, q.2.trans e2⟩) fun σ' H' q => hd σ' H' q.1⟩
theorem ev_showsK {D : Ad} {p a : Addr} {o : Option Int} {ws : List Int} {m : Int} (h : Ev ta σ H (.ref p)) (hp : KAt D H p o) (ht : EvA t σ H [.ref a, .int m]) (hS : SqL K H a (ws.map V.int)) (tb : Tb H D.P1) :
    Ev (tMethP (ShowsMt K D) "shows" ta t) σ H (.bl (kVal o ws m)) := by
  cases o with
  | none =>
    obtain ⟨dx, hp⟩ := hp
    exact ev_methP (sp := spAllShows K D) h (.inl ⟨rfl, rfl⟩) hp rfl ht fun H3 e3 Q3 q3 E3 => ⟨p, a, ws, m, rfl, ex_l e3 hS, q3⟩
  | some n =>
    obtain ⟨dx, hp⟩ := hp
    exact ev_methP (sp := spGapShows K D) h (.inr (.inl ⟨rfl, rfl⟩)) hp (fG_no n) ht fun H3 e3 Q3 q3 E3 => ⟨p, a, n, ws, m, rfl, ⟨dx, e3 _ _ hp⟩, ex_l e3 hS, e3 _ _ tb, q3⟩
theorem ev_isiN {D : Ad} {p : Addr} {o : Option Int} (T : ClF K D.A) (T2 : ClF K D.G) (KT : Kit K D) (h : Ev ta σ H (.ref p)) (hp : KAt D H p o) : Ev (tCB (rIsi K) (tCons ta (tCons (tC (.ref D.N)) tNil))) σ H (.bl true) := by
  cases o with
  | none => exact let ⟨dx, hp⟩ := hp; ev_isiO h hp T KT.AN
  | some n => exact let ⟨dx, hp⟩ := hp; ev_isiO h hp T2 KT.GN
theorem ev_isiA {D : Ad} {p : Addr} {o : Option Int} (T : ClF K D.A) (T2 : ClF K D.G) (KT : Kit K D) (h : Ev ta σ H (.ref p)) (hp : KAt D H p o) : Ev (tCB (rIsi K) (tCons ta (tCons (tC (.ref D.A)) tNil))) σ H (.bl o.isNone) := by
  cases o with
  | none => exact let ⟨dx, hp⟩ := hp; ev_isiO h hp T KT.AA
  | some n => exact let ⟨dx, hp⟩ := hp; ev_isiO h hp T2 KT.GA
theorem ev_isiG {D : Ad} {p : Addr} {o : Option Int} (T : ClF K D.A) (T2 : ClF K D.G) (KT : Kit K D) (h : Ev ta σ H (.ref p)) (hp : KAt D H p o) : Ev (tCB (rIsi K) (tCons ta (tCons (tC (.ref D.G)) tNil))) σ H (.bl o.isSome) := by
  cases o with
  | none => exact let ⟨dx, hp⟩ := hp; ev_isiO h hp T KT.AG
  | some n => exact let ⟨dx, hp⟩ := hp; ev_isiO h hp T2 KT.GG
theorem ev_isiB {D : Ad} {p : Addr} {o : Option Int} (T : ClF K D.A) (T2 : ClF K D.G) (KT : Kit K D) (h : Ev ta σ H (.ref p)) (hp : KAt D H p o) : Ev (tCB (rIsi K) (tCons ta (tCons (tC (.ref D.B)) tNil))) σ H (.bl false) := by
  cases o with
  | none => exact let ⟨dx, hp⟩ := hp; ev_isiO h hp T KT.AB
  | some n => exact let ⟨dx, hp⟩ := hp; ev_isiO h hp T2 KT.GB
end
end Wt
namespace Wt
open PySem PySem.Spec PyProof.Rows L2 Evl
section
variable {K : PySem.W.Frag} {σ : L2.St} {H : Hp} {ta tb tc te : TE} {t : TA} {z v : V}
theorem q_asgN {D : Ends} {tz : TS} {i : Nat} {W : Addr → Hp → Prop} (h : EvN te σ H W) (k : ∀ p H1, H p = none → Ex H H1 → W p H1 → tz D (σ.set i (some (.ref p))) H1) : tSeq (tAsg te (gName i)) tz D σ H := s_asgN (D := { D with nx := tz D }) h k
/-- a call of one argument, a new list; the answer a value -/
theorem ev_callN1 {sp : Sp} {E : XK} {xs : List V} (h : EvL ta σ H xs) (hs : ∀ p H1, H1 p = some (.lst xs) → Ex H H1 → SpV sp [.ref p] H1 z) : Ev (tCall sp [] E (tCons ta tNil)) σ H z := ev_callN h hs
/-- a call on a new list and a number; the answer a new thing -/
theorem en_callL {sp : Sp} {E : XK} {xs : List V} {y : V} {W : Addr → Hp → Prop} (h : EvL ta σ H xs) (hb : Ev tb σ H y) (hs : ∀ p H1, H1 p = some (.lst xs) → Ex H H1 → SpN sp [.ref p, y] H1 W) : EvN (tCall sp [] E (tCons ta (tCons tb tNil))) σ H W := fun H1 e Q q =>
  h H1 e _ fun p H2 _ e2 hp => hb H2 (e.trans e2) _ fun H3 e3 => hs p H3 (e3 p _ hp) (e.trans (e2.trans e3)) H3 (Ex.refl H3) Q (fun p2 H4 hp2 e4 hw => q p2 H4 (fresh_back (e2.trans e3) hp2) ((e2.trans e3).trans e4) hw) E
theorem ev_isiNew {D : Ad} {o : Option Int} (T : ClF K D.A) (T2 : ClF K D.G) (KT : Kit K D) (h : EvN ta σ H (fun p H' => KAt D H' p o)) : Ev (tCB (rIsi K) (tCons ta (tCons (tC (.ref D.A)) tNil))) σ H (.bl o.isNone) := fun H1 e Q q =>
  h H1 e _ fun p H2 hp e2 hk => ev_isiA (ta := fun _ H Q => Q (.ref p) H) (σ := σ) (H := H2) T T2 KT (fun H3 e3 Q3 q3 => q3 H3 (Ex.refl H3)) hk H2 (Ex.refl H2) Q fun H3 e3 => q H3 (e2.trans e3)
theorem h_forN {D : Ends} {tu : TS} {tl : TE} {g : TG} {Z : V → Hp → Prop} {n : Nat} (S : Stays Z) (h : EvN tl σ H (fun p H2 => ∃ xs, H2 p = some (.lst xs) ∧ (∀ x ∈ xs, Z x H2) ∧ xs.length = n)) (Pv : L2.St → Hp → Prop) (h0 : ∀ H1, Ex H H1 → Pv σ H1)
    (hx : ∀ σ' H', Pv σ' H' → Ex H H')
    (hs : ∀ x σ' H', Z x H' → Pv σ' H' → ∀ M : L2.St → Hp → Prop, (∀ σ2 H2, Ex H' H2 → Pv σ2 H2 → M σ2 H2) → g x σ' H' fun σ2 H2 => tu { D with nx := M, ct := M, bk := D.nx } σ2 H2) (hd : ∀ σ' H', Pv σ' H' → D.nx σ' H') : tFor (iList K tl) g tu D σ H :=
  h H (Ex.refl H) _ fun p H1 _ e1 ⟨xs, hp, hz, _⟩ => ⟨p, rfl, ⟨xs, sq_of hp⟩, for_list (fun i σ' H' => Pv σ' H' ∧ Ex H1 H') ⟨h0 H1 e1, Ex.refl H1⟩ (fun i σ' H' _ q => sq_of (q.2 p _ hp))
    (fun i x σ' H' hi q => hs x σ' H' (S x _ _ q.2 (hz x (List.mem_of_getElem? hi))) q.1 _ fun σ2 H2 e2 p2 => ⟨p2, q.2.trans e2⟩) fun σ' H' q => hd σ' H' q.1⟩
end
end Wt
/-! lists of bools, lists that are changed -/
namespace Wt
open PySem PySem.Spec PyProof.Rows L2 Evl
section
variable {K : PySem.W.Frag} {σ : L2.St} {H : Hp} {ta tb tc te : TE} {t : TA} {z v : V}
theorem ev_anyN {bs : List Bool} {xs : List V} (h : EvL ta σ H xs) (hx : xs = bs.map V.bl) : Ev (tCB (rAny K) (tCons ta tNil)) σ H (.bl (bs.any id)) := ev_cbN h fun p H1 hp _ => fun H2 e _ q =>
  ⟨p, bs, rfl, ex_l e (hx ▸ sq_of hp), q H2 (Ex.refl H2)⟩
theorem given_map (ns : List Int) (F : Int → V) : given ns.length (fun _ => true) (fun i => F (ns.getD i 0)) = ns.map F := by
  unfold given
  rw [List.filter_eq_self.mpr (fun _ _ => rfl)]
  refine List.ext_getElem (by rw [List.length_map, List.length_map, List.length_range]) fun i h1 h2 => ?_
  rw [List.getElem_map, List.getElem_map, List.getElem_range]
  rw [List.length_map] at h2
  rw [List.getD_eq_getElem?_getD, List.getElem?_eq_getElem h2]
  rfl
/-- [.. for x in xs], a value for each of a list of numbers -/
theorem el_lcV {a : Addr} {ns : List Int} {tl : TE} {j : Nat} {vs : List Nat} (F : Int → V) (h : Ev tl σ H (.ref a)) (hx : SqL K H a (ns.map V.int)) (hz : ns.length ≤ 40000)
    (hw : ∀ x, wipe ((wipe σ vs).set j (some x)) vs = wipe σ vs) (he : ∀ (n : Int) H1, Ex H H1 → n ∈ ns → Ev te ((wipe σ vs).set j (some (.int n))) H1 (F n)) : EvL (tLc (iList K tl) (gName j) tYes te vs) σ H (ns.map F) := by
  refine el_is (el_lcL (fun _ => true) (fun i => F (ns.getD i 0)) h hx (by rw [List.length_map]; exact hz) hw (fun i x H1 e1 hi => fun H8 e8 Q8 q8 => q8 H8 (Ex.refl H8)) fun i x H1 e1 hi _ => ?_) ?_
  · obtain ⟨n, hn, rfl⟩ := vget hi
    rw [show ns.getD i 0 = n by rw [List.getD_eq_getElem?_getD, hn] <;> rfl]
    exact he n H1 e1 (mem_at hn)
  · rw [List.length_map, given_map]
/-- .. over a new list -/
theorem el_lcVN {ns : List Int} {tl : TE} {j : Nat} {vs : List Nat} (F : Int → V) (h : EvL tl σ H (ns.map V.int)) (hz : ns.length ≤ 40000)
    (hw : ∀ x, wipe ((wipe σ vs).set j (some x)) vs = wipe σ vs) (he : ∀ (n : Int) H1, Ex H H1 → n ∈ ns → Ev te ((wipe σ vs).set j (some (.int n))) H1 (F n)) : EvL (tLc (iList K tl) (gName j) tYes te vs) σ H (ns.map F) := fun H0 e Q q =>
  h H0 e _ fun a H1 ha e1 hp => (el_lcV (tl := fun _ H Q => Q (.ref a) H) (σ := σ) (H := H1) (te := te) (vs := vs) (j := j) F (fun H2 e2 Q2 q2 => q2 H2 (Ex.refl H2)) (sq_of hp) hz hw fun n H2 e2 hn =>
    he n H2 (e.trans (e1.trans e2)) hn) H1 (Ex.refl H1) Q fun p H3 hp3 e3 h3 => q p H3 (fresh_back e1 hp3) (e1.trans e3) h3
/-- x = x' + xs.pop(0) -/
theorem s_popAdd {D : Ends} {i j k : Nat} {l : Addr} {a w' : Int} {r : List Int} (hi : σ[i]? = some (some (.int a))) (hj : σ[j]? = some (some (.ref l))) (hl : H l = some (.lst (((w' :: r) : List Int).map V.int))) (hz : r.length ≤ 90000)
    (q : D.nx (σ.set k (some (.int (a + w')))) (upd H l (.lst (r.map V.int)))) :
    tAsg (tOp (rI0 fun i j => .int (i + j)) (tVar i) (tBM K "list" rPopAt (tVar j) (tCons (tC (.int 0)) tNil))) (gName k) D σ H := by
  refine ⟨_, hi, _, hj, .inl ⟨rfl, _, sq_of hl⟩, ?_⟩
  refine ⟨l, _, 0, 0, .int w', rfl, rfl, hl, by decide, by decide, ?_, rfl, a, w', rfl, rfl, q⟩
  unfold seqIndex?
  rw [List.length_map, List.length_cons]
  simp
/-- xs.pop(), the last one -/
theorem q_pop {D : Ends} {tz : TS} {l : Addr} {xs : List V} {y : V} (ha : Ev ta σ H (.ref l)) (hl : H l = some (.lst (xs ++ [y]))) (k : ∀ H1, Ex H H1 → tz D σ (upd H1 l (.lst xs))) :
    tSeq (tDrop (tBM0 K "list" rPop ta)) tz D σ H := by
  refine ha H (Ex.refl H) _ fun H1 e1 => ⟨.inl ⟨rfl, _, sq_of (e1 l _ hl)⟩, l, xs ++ [y], y, rfl, rfl, e1 l _ hl, ?_, ?_⟩
  · rw [List.length_append]
    show (xs ++ [y])[xs.length + 1 - 1]? = some y
    rw [Nat.add_sub_cancel, List.getElem?_append_right (Nat.le_refl _), Nat.sub_self]
    rfl
  · rw [List.dropLast_concat]
    exact k H1 e1
theorem head_take (rest : List Int) (x : Int) : decide (rest.take 1 = [x]) = rest.head?.any (· == x) := by
  cases rest with
  | nil => rfl
  | cons w r =>
    show decide ([w] = [x]) = (w == x)
    by_cases h : w = x
    · subst h
      simp
    · rw [beq_eq_false_iff_ne.mpr h, decide_eq_false (fun z => h (List.cons.inj z).1)]
theorem due_best {as ms ws : List Int} {m : Int} (p : Pos ws) : bestOk as ms ws m = (decide (as.length = ms.length) && (as.all fun n => decide (1 ≤ n)) && dueF m 0 0 (srt ws) ms && decide (m < gap (ws ++ as))) := by
  unfold bestOk
  rw [← miss_due m ms 0 0 (srt ws) (Int.le_refl 0) (Int.le_refl 0) (pos_srt p)]
  rfl
theorem gapF_le_sum : ∀ {s : List Int} {g : Int}, Pos s → gapF g s ≤ g + s.sum
  | [], g, _ => by show g ≤ g + 0; omega
  | w :: r, g, p => by
    have pr : Pos r := fun x hx => p x (List.mem_cons_of_mem _ hx)
    have hw := p w List.mem_cons_self
    have ih := gapF_le_sum (s := r) (g := g + w) pr
    have nn : ∀ l : List Int, Pos l → 0 ≤ l.sum := fun l => by
      induction l with
      | nil => intro _; exact Int.le_refl 0
      | cons x r ih =>
        intro p
        have h1 := p x List.mem_cons_self
        have h2 := ih fun y hy => p y (List.mem_cons_of_mem _ hy)
        rw [List.sum_cons]
        omega
    have := nn r pr
    show (if g < w then g else gapF (g + w) r) ≤ g + (w :: r).sum
    rw [List.sum_cons]
    split <;> omega
theorem pos_sum : ∀ {l : List Int}, Pos l → 0 ≤ l.sum
  | [], _ => Int.le_refl 0
  | x :: r, p => by
    have h1 := p x List.mem_cons_self
    have h2 := pos_sum fun y hy => p y (List.mem_cons_of_mem _ hy)
    rw [List.sum_cons]
    omega
theorem gap_le_sum {ws : List Int} (p : Pos ws) : gap ws ≤ 1 + ws.sum := by
  have h := gapF_le_sum (g := 1) (pos_srt p)
  rw [perm_sum (srt_perm ws)] at h
  exact h
theorem sum_le {b : Int} : ∀ {l : List Int}, (∀ w ∈ l, w ≤ b) → l.sum ≤ l.length * b
  | [], _ => by
    show (0 : Int) ≤ 0 * b
    rw [Int.zero_mul]
    exact Int.le_refl 0
  | x :: r, h => by
    have h1 := h x List.mem_cons_self
    have h2 := sum_le fun y hy => h y (List.mem_cons_of_mem _ hy)
    rw [List.sum_cons, List.length_cons]
    show x + r.sum ≤ ((r.length + 1 : Nat) : Int) * b
    rw [Int.natCast_add, Int.add_mul]
    show x + r.sum ≤ (r.length : Int) * b + 1 * b
    omega
/-- all weights together, of a set that the statement makes -/
theorem sum_small {ws : List Int} (hl : ws.length ≤ 200) (hb : ∀ w ∈ ws, w ≤ 2 ^ 200) : ws.sum ≤ 2 ^ 210 := by
  have h := sum_le hb
  have h2 : (ws.length : Int) * 2 ^ 200 ≤ 200 * 2 ^ 200 := Int.mul_le_mul_of_nonneg_right (by omega) (by decide)
  have h3 : (200 : Int) * 2 ^ 200 ≤ 2 ^ 210 := by decide
  exact Int.le_trans h (Int.le_trans h2 h3)
theorem BestNew.back {D : Ad} {H0 H1 H2 : Hp} {as ms : List Int} {p : Addr} (e : Ex H0 H1) (h : BestNew D H1 as ms p H2) : BestNew D H0 as ms p H2 :=
  let ⟨dx, l1, l2, a, b, c, d, f, g⟩ := h
  ⟨dx, l1, l2, a, b, c, fresh_back e d, fresh_back e f, g⟩
theorem ev_showsB {D : Ad} {p a dx l1 l2 : Addr} {as ms ws : List Int} {m : Int} (h : Ev ta σ H (.ref p)) (hp : H p = some (.ins D.B dx (fB l1 l2))) (h1 : H l1 = some (.lst (as.map V.int))) (h2 : H l2 = some (.lst (ms.map V.int)))
    (ht : EvA t σ H [.ref a, .int m]) (hS : H a = some (.lst (ws.map V.int))) (tb : Tb H D.P2) (hz : ws.length + as.length ≤ 90000) : Ev (tMethP (ShowsMt K D) "shows" ta t) σ H (.bl (bestOk as ms ws m)) :=
  ev_methP (sp := spBestShows K D) h (.inr (.inr ⟨rfl, rfl⟩)) hp (fB_no l1 l2) ht fun H3 e3 Q3 q3 E3 => ⟨p, a, as, ms, ws, m, rfl, ⟨dx, l1, l2, e3 _ _ hp, e3 _ _ h1, e3 _ _ h2⟩, e3 _ _ hS, e3 _ _ tb, hz, q3⟩
/-- .. of a new one -/
theorem ev_showsBN {D : Ad} {a : Addr} {as ms ws : List Int} {m : Int} {H0 : Hp} (h : EvN ta σ H (BestNew D H0 as ms)) (ht : EvA t σ H [.ref a, .int m]) (hS : H a = some (.lst (ws.map V.int))) (tb : Tb H D.P2) (hz : ws.length + as.length ≤ 90000) :
    Ev (tMethP (ShowsMt K D) "shows" ta t) σ H (.bl (bestOk as ms ws m)) :=
  ev_methPN h ht fun p H1 e1 hw => by
    obtain ⟨dx, l1, l2, hp, h1, h2, _⟩ := hw
    exact ⟨D.B, dx, fB l1 l2, spBestShows K D, .inr (.inr ⟨rfl, rfl⟩), hp, fB_no l1 l2, fun H3 e3 Q3 q3 E3 => ⟨p, a, as, ms, ws, m, rfl, ⟨dx, l1, l2, e3 _ _ hp, e3 _ _ h1, e3 _ _ h2⟩, (e1.trans e3) _ _ hS, (e1.trans e3) _ _ tb, hz, q3⟩⟩
end
end Wt
/-! how many gaps are closed -/
namespace Wt
theorem fill_pow {m w : Int} : ∀ {k : Nat} {g : Int}, 1 ≤ g → (fillF k g w m).2 = g * 2 ^ (fillF k g w m).1.length ∧ ((fillF k g w m).1 ≠ [] → g * 2 ^ ((fillF k g w m).1.length - 1) ≤ m)
  | 0, g, _ => ⟨by show g = g * 2 ^ 0; rw [Int.pow_zero, Int.mul_one], fun h => absurd rfl h⟩
  | k + 1, g, hg => by
    by_cases c : g < w ∧ g ≤ m
    · rw [fill_go c]
      obtain ⟨a, b⟩ := fill_pow (m := m) (w := w) (k := k) (g := g + g) (by omega)
      have e : ∀ j : Nat, g * 2 ^ (j + 1) = (g + g) * 2 ^ j := fun j => by
        rw [Int.pow_succ, Int.mul_comm (2 ^ j) 2, ← Int.mul_assoc, show g * 2 = g + g by omega]
      refine ⟨?_, fun _ => ?_⟩
      · show (fillF k (g + g) w m).2 = g * 2 ^ ((fillF k (g + g) w m).1.length + 1)
        rw [e]
        exact a
      · show g * 2 ^ ((fillF k (g + g) w m).1.length + 1 - 1) ≤ m
        rw [Nat.add_sub_cancel]
        by_cases hn : (fillF k (g + g) w m).1 = []
        · rw [hn]
          show g * 2 ^ 0 ≤ m
          rw [Int.pow_zero, Int.mul_one]
          exact c.2
        · have hp : 0 < (fillF k (g + g) w m).1.length := List.length_pos_iff.mpr hn
          have b := b hn
          rw [← e, show (fillF k (g + g) w m).1.length - 1 + 1 = (fillF k (g + g) w m).1.length by omega] at b
          exact b
    · rw [fill_stop c]
      exact ⟨by show g = g * 2 ^ 0; rw [Int.pow_zero, Int.mul_one], fun h => absurd rfl h⟩
theorem close_pow {N : Nat} {m : Int} : ∀ {l : List Int} {g : Int}, 1 ≤ g → Pos l → closeL N m g l ≠ [] → g * 2 ^ ((closeL N m g l).length - 1) ≤ m
  | [], _, _, _, h => absurd rfl h
  | w :: r, g, hg, p, h => by
    obtain ⟨a, b⟩ := fill_pow (m := m) (w := w) (k := N) hg
    have hw := p w List.mem_cons_self
    have pr : Pos r := fun x hx => p x (List.mem_cons_of_mem _ hx)
    have ge := (fill_ge (m := m) (w := w) (k := N) hg).2
    show g * 2 ^ (((fillF N g w m).1 ++ closeL N m ((fillF N g w m).2 + w) r).length - 1) ≤ m
    rw [List.length_append]
    by_cases hc : closeL N m ((fillF N g w m).2 + w) r = []
    · rw [hc]
      have hf : (fillF N g w m).1 ≠ [] := fun z => h (by
        show (fillF N g w m).1 ++ closeL N m ((fillF N g w m).2 + w) r = []
        rw [z, hc]
        rfl)
      exact b hf
    · have ih := close_pow (N := N) (m := m) (l := r) (g := (fillF N g w m).2 + w) (by omega) pr hc
      have hp : 0 < (closeL N m ((fillF N g w m).2 + w) r).length := List.length_pos_iff.mpr hc
      generalize (closeL N m ((fillF N g w m).2 + w) r).length = n at *
      have pp : (0 : Int) ≤ 2 ^ (n - 1) := Int.le_of_lt (Int.pow_pos (by omega))
      have h1 : (fillF N g w m).2 * 2 ^ (n - 1) ≤ ((fillF N g w m).2 + w) * 2 ^ (n - 1) := Int.mul_le_mul_of_nonneg_right (by omega) pp
      rw [a, Int.mul_assoc, ← Int.pow_add] at h1
      rw [show (fillF N g w m).1.length + n - 1 = (fillF N g w m).1.length + (n - 1) by omega]
      exact Int.le_trans h1 (by rw [← a]; exact ih)
theorem gapsC_len {ws : List Int} {m : Int} (p : Pos ws) (hm : 0 ≤ m) (hN : m < 2 ^ 1000) : (gapsC ws m).length ≤ 1000 := by
  by_cases h : gapsC ws m = []
  · rw [h]
    exact Nat.zero_le _
  · have z : (1 : Int) * 2 ^ ((gapsC ws m).length - 1) ≤ m := close_pow (by omega) (pos_app (pos_srt p) (pos_one (by omega))) h
    rw [Int.one_mul] at z
    by_cases q : (gapsC ws m).length ≤ 1000
    · exact q
    · have q2 : 2 ^ 1000 ≤ 2 ^ ((gapsC ws m).length - 1) := Nat.pow_le_pow_right (by decide) (by omega)
      have q3 : (2 : Int) ^ 1000 ≤ 2 ^ ((gapsC ws m).length - 1) := by exact_mod_cast q2
      exact absurd (Int.lt_of_lt_of_le hN (Int.le_trans q3 z)) (Int.lt_irrefl _)
end Wt
/-! a Best whose lists are changed -/
namespace Wt
open PySem PySem.Spec PyProof.Rows L2 Evl
/-- what stands: weights at b and c, the answer at f with its lists -/
structure S3 (D : Ad) (b c f dx l1 l2 : Addr) (ws : List Int) (H' : Hp) (xs ys : List Int) (Hx : Hp) : Prop where
  b_ : Hx b = some (.lst (ws.map V.int))
  c_ : Hx c = some (.lst (ws.map V.int))
  f_ : Hx f = some (.ins D.B dx (fB l1 l2))
  l1_ : Hx l1 = some (.lst (xs.map V.int))
  l2_ : Hx l2 = some (.lst (ys.map V.int))
  tb : Tb Hx D.P2
  ex : Ex H' Hx
  bl1 : b ≠ l1
  bl2 : b ≠ l2
  cl1 : c ≠ l1
  cl2 : c ≠ l2
  nl : l1 ≠ l2
  n1 : H' l1 = none
  n2 : H' l2 = none
section
variable {D : Ad} {b c f dx l1 l2 : Addr} {ws xs ys : List Int} {H' Hx : Hp}
theorem S3.mono (S : S3 D b c f dx l1 l2 ws H' xs ys Hx) {Hy : Hp} (e : Ex Hx Hy) : S3 D b c f dx l1 l2 ws H' xs ys Hy :=
  ⟨e _ _ S.b_, e _ _ S.c_, e _ _ S.f_, e _ _ S.l1_, e _ _ S.l2_, e _ _ S.tb, S.ex.trans e, S.bl1, S.bl2, S.cl1, S.cl2, S.nl, S.n1, S.n2⟩
theorem S3.put1 (S : S3 D b c f dx l1 l2 ws H' xs ys Hx) (zs : List Int) : S3 D b c f dx l1 l2 ws H' zs ys (upd Hx l1 (.lst (zs.map V.int))) := by
  have nf : f ≠ l1 := ne_of S.f_ S.l1_ (fun z => by cases z)
  have nt : D.P2 ≠ l1 := ne_of S.tb S.l1_ (fun z => by cases z)
  exact ⟨by rw [upd_ne S.bl1]; exact S.b_, by rw [upd_ne S.cl1]; exact S.c_, by rw [upd_ne nf]; exact S.f_, upd_same, by rw [upd_ne S.nl.symm]; exact S.l2_, by show (upd Hx l1 _) D.P2 = _; rw [upd_ne nt]; exact S.tb,
    Ex.mut S.ex S.n1, S.bl1, S.bl2, S.cl1, S.cl2, S.nl, S.n1, S.n2⟩
theorem S3.put2 (S : S3 D b c f dx l1 l2 ws H' xs ys Hx) (zs : List Int) : S3 D b c f dx l1 l2 ws H' xs zs (upd Hx l2 (.lst (zs.map V.int))) := by
  have nf : f ≠ l2 := ne_of S.f_ S.l2_ (fun z => by cases z)
  have nt : D.P2 ≠ l2 := ne_of S.tb S.l2_ (fun z => by cases z)
  exact ⟨by rw [upd_ne S.bl2]; exact S.b_, by rw [upd_ne S.cl2]; exact S.c_, by rw [upd_ne nf]; exact S.f_, by rw [upd_ne S.nl]; exact S.l1_, upd_same, by show (upd Hx l2 _) D.P2 = _; rw [upd_ne nt]; exact S.tb,
    Ex.mut S.ex S.n2, S.bl1, S.bl2, S.cl1, S.cl2, S.nl, S.n1, S.n2⟩
end
section
variable {K : PySem.W.Frag} {σ : L2.St} {H : Hp} {ta tb tc te : TE} {t : TA} {z v : V}
/-- all([.. for x in xs]) over a new list, each of them true -/
theorem ev_allLcN {ns : List Int} {tl : TE} {j : Nat} {vs : List Nat} (h : EvL tl σ H (ns.map V.int)) (hz : ns.length ≤ 40000)
    (hw : ∀ x, wipe ((wipe σ vs).set j (some x)) vs = wipe σ vs) (he : ∀ (n : Int) H1, Ex H H1 → Ev te ((wipe σ vs).set j (some (.int n))) H1 (.bl true)) : Ev (tCB (rAll K) (tCons (tLc (iList K tl) (gName j) tYes te vs) tNil)) σ H (.bl true) := by
  refine ev_is (ev_allN (bs := ns.map fun _ => true) (el_lcVN (fun _ => V.bl true) h hz hw fun n H1 e1 _ => he n H1 e1) (by rw [List.map_map]; rfl)) ?_
  rw [List.all_map]
  exact congrArg V.bl (List.all_eq_true.mpr fun _ _ => rfl)
end
end Wt
namespace Wt
open PySem PySem.Spec PyProof.Rows L2 Evl
section
variable {K : PySem.W.Frag} {σ : L2.St} {H : Hp} {ta tb tc te : TE} {t : TA} {z v : V}
/-- sorted(x.added), x a new Best -/
theorem el_sortedF {D : Ad} {H0 : Hp} {as ms : List Int} (h : EvN ta σ H (BestNew D H0 as ms)) (c : Cls K D.B) (n : NoAttr K D.B "added") : EvL (tCB (rSortedI K) (tCons (tFld K ta "added") tNil)) σ H ((srt as).map V.int) := fun H1 e Q q =>
  h H1 e _ fun p H2 hp e2 hw => by
    obtain ⟨dx, l1, l2, a, b, _⟩ := hw
    exact ⟨p, D.B, dx, _, _, rfl, a, c, n, fB_added l1 l2, rcl_sorted (sq_of b) H2 (Ex.refl H2) Q fun p3 H3 hp3 e3 h3 => q p3 H3 (fresh_back e2 hp3) (e2.trans e3) h3⟩
/-- x.added == a new list, x a new Best -/
theorem ev_fldEq {D : Ad} {H0 : Hp} {as ms ks : List Int} (h : EvN ta σ H (BestNew D H0 as ms)) (c : Cls K D.B) (n : NoAttr K D.B "added") (hb : EvL tb σ H (ks.map V.int)) : Ev (tOp (rEqD K) (tFld K ta "added") tb) σ H (.bl (decide (as = ks))) := fun H1 e Q q =>
  h H1 e _ fun p H2 hp e2 hw => by
    obtain ⟨dx, l1, l2, a, b, _⟩ := hw
    exact ⟨p, D.B, dx, _, _, rfl, a, c, n, fB_added l1 l2, hb H2 (e.trans e2) _ fun k H3 hk e3 h3 => rv_eqL (sq_of (e3 _ _ b)) (sq_of h3) H3 (Ex.refl H3) Q fun H4 e4 => q H4 ((e2.trans e3).trans e4)⟩
end
end Wt
namespace Wt
open PySem PySem.Spec PyProof.Rows L2 Evl
def topS (i : Nat) : Stmt := PySem.Challenge.pw_weightset_k05_answers_by_hand.main.body.getD i (.Pass ⟨0, 0, 0, 0⟩)
abbrev sFirstGap : Stmt := topS 6
abbrev nFirstGap : List Str := ["weights"]
theorem scFirstGap : FnScope nFirstGap ["weights"] (defScope sFirstGap) := ⟨rfl, rfl, rfl, by decide +kernel, rfl, by decide +kernel, by decide +kernel⟩
abbrev sWeighing : Stmt := topS 7
abbrev nWeighing : List Str := ["weights", "number"]
theorem scWeighing : FnScope nWeighing ["weights", "number"] (defScope sWeighing) := ⟨rfl, rfl, rfl, by decide +kernel, rfl, by decide +kernel, by decide +kernel⟩
abbrev sWithout : Stmt := topS 8
abbrev nWithout : List Str := ["weights", "place"]
theorem scWithout : FnScope nWithout ["weights", "place"] (defScope sWithout) := ⟨rfl, rfl, rfl, by decide +kernel, rfl, by decide +kernel, by decide +kernel⟩
abbrev sCheckSet : Stmt := topS 9
abbrev nCheckSet : List Str := ["weights", "weight"]
theorem scCheckSet : FnScope nCheckSet ["weights"] (defScope sCheckSet) := ⟨rfl, rfl, rfl, by decide +kernel, rfl, by decide +kernel, by decide +kernel⟩
abbrev sIsWhole : Stmt := topS 10
abbrev nIsWhole : List Str := ["value"]
theorem scIsWhole : FnScope nIsWhole ["value"] (defScope sIsWhole) := ⟨rfl, rfl, rfl, by decide +kernel, rfl, by decide +kernel, by decide +kernel⟩
abbrev sGapOf : Stmt := topS 11
abbrev nGapOf : List Str := ["weights", "gap", "weight"]
theorem scGapOf : FnScope nGapOf ["weights"] (defScope sGapOf) := ⟨rfl, rfl, rfl, by decide +kernel, rfl, by decide +kernel, by decide +kernel⟩
abbrev sPlacesChosen : Stmt := topS 12
abbrev nPlacesChosen : List Str := ["weights", "number", "rest", "chosen", "place", "weight", "placed"]
theorem scPlacesChosen : FnScope nPlacesChosen ["weights", "number"] (defScope sPlacesChosen) := ⟨rfl, rfl, rfl, by decide +kernel, rfl, by decide +kernel, by decide +kernel⟩
abbrev sAllShows : Stmt := inClass (topS 15) 0
abbrev nAllShows : List Str := ["self", "weights", "most"]
theorem scAllShows : FnScope nAllShows ["self", "weights", "most"] (defScope sAllShows) := ⟨rfl, rfl, rfl, by decide +kernel, rfl, by decide +kernel, by decide +kernel⟩
abbrev sGapInit : Stmt := inClass (topS 16) 0
abbrev nGapInit : List Str := ["self", "number"]
theorem scGapInit : FnScope nGapInit ["self", "number"] (defScope sGapInit) := ⟨rfl, rfl, rfl, by decide +kernel, rfl, by decide +kernel, by decide +kernel⟩
abbrev sGapShows : Stmt := inClass (topS 16) 1
abbrev nGapShows : List Str := ["self", "weights", "most"]
theorem scGapShows : FnScope nGapShows ["self", "weights", "most"] (defScope sGapShows) := ⟨rfl, rfl, rfl, by decide +kernel, rfl, by decide +kernel, by decide +kernel⟩
abbrev sBestInit : Stmt := inClass (topS 17) 0
abbrev nBestInit : List Str := ["self", "added", "misses"]
theorem scBestInit : FnScope nBestInit ["self", "added", "misses"] (defScope sBestInit) := ⟨rfl, rfl, rfl, by decide +kernel, rfl, by decide +kernel, by decide +kernel⟩
abbrev sBestShows : Stmt := inClass (topS 17) 1
abbrev nBestShows : List Str := ["self", "weights", "most"]
theorem scBestShows : FnScope nBestShows ["self", "weights", "most"] (defScope sBestShows) := ⟨rfl, rfl, rfl, by decide +kernel, rfl, by decide +kernel, by decide +kernel⟩
abbrev sIsFrom1To : Stmt := topS 18
abbrev nIsFrom1To : List Str := ["number", "most"]
theorem scIsFrom1To : FnScope nIsFrom1To ["number", "most"] (defScope sIsFrom1To) := ⟨rfl, rfl, rfl, by decide +kernel, rfl, by decide +kernel, by decide +kernel⟩
abbrev sIsLeftOut : Stmt := topS 19
abbrev nIsLeftOut : List Str := ["number", "weights"]
theorem scIsLeftOut : FnScope nIsLeftOut ["number", "weights"] (defScope sIsLeftOut) := ⟨rfl, rfl, rfl, by decide +kernel, rfl, by decide +kernel, by decide +kernel⟩
abbrev sAreWeights : Stmt := topS 20
abbrev nAreWeights : List Str := ["numbers"]
theorem scAreWeights : FnScope nAreWeights ["numbers"] (defScope sAreWeights) := ⟨rfl, rfl, rfl, by decide +kernel, rfl, by decide +kernel, by decide +kernel⟩
abbrev sAreMisses : Stmt := topS 21
abbrev nAreMisses : List Str := ["misses", "weights", "most", "rising", "at", "together", "miss"]
theorem scAreMisses : FnScope nAreMisses ["misses", "weights", "most"] (defScope sAreMisses) := ⟨rfl, rfl, rfl, by decide +kernel, rfl, by decide +kernel, by decide +kernel⟩
abbrev sTold : Stmt := topS 23
abbrev nTold : List Str := ["weights", "most", "gap"]
theorem scTold : FnScope nTold ["weights", "most"] (defScope sTold) := ⟨rfl, rfl, rfl, by decide +kernel, rfl, by decide +kernel, by decide +kernel⟩
abbrev sFewest : Stmt := topS 24
abbrev nFewest : List Str := ["weights", "most", "gaps"]
theorem scFewest : FnScope nFewest ["weights", "most"] (defScope sFewest) := ⟨rfl, rfl, rfl, by decide +kernel, rfl, by decide +kernel, by decide +kernel⟩
abbrev sCheckAsked : Stmt := topS 25
abbrev nCheckAsked : List Str := ["weights", "most"]
theorem scCheckAsked : FnScope nCheckAsked ["weights", "most"] (defScope sCheckAsked) := ⟨rfl, rfl, rfl, by decide +kernel, rfl, by decide +kernel, by decide +kernel⟩
abbrev sGapsToClose : Stmt := topS 26
abbrev nGapsToClose : List Str := ["weights", "most", "gap", "gaps", "weight"]
theorem scGapsToClose : FnScope nGapsToClose ["weights", "most"] (defScope sGapsToClose) := ⟨rfl, rfl, rfl, by decide +kernel, rfl, by decide +kernel, by decide +kernel⟩
abbrev sLawSet : Stmt := topS 28
abbrev nLawSet : List Str := ["_law_script", "_law_mixed", "_law_kind", "_law_found", "_law_whole", "_law_cell", "_law_weight", "_law_at"]
theorem scLawSet : FnScope nLawSet ["_law_script"] (defScope sLawSet) := ⟨rfl, rfl, rfl, by decide +kernel, rfl, by decide +kernel, by decide +kernel⟩
abbrev sLawGap : Stmt := topS 29
abbrev nLawGap : List Str := ["_law_weights", "_law_whole", "_law_weight"]
theorem scLawGap : FnScope nLawGap ["_law_weights"] (defScope sLawGap) := ⟨rfl, rfl, rfl, by decide +kernel, rfl, by decide +kernel, by decide +kernel⟩
abbrev sLawDue : Stmt := topS 30
abbrev nLawDue : List Str := ["_law_weights", "_law_most", "_law_added", "_law_misses", "_law_order", "_law_whole", "_law_ahead", "_law_miss", "_law_weight"]
theorem scLawDue : FnScope nLawDue ["_law_weights", "_law_most", "_law_added", "_law_misses"] (defScope sLawDue) := ⟨rfl, rfl, rfl, by decide +kernel, rfl, by decide +kernel, by decide +kernel⟩
abbrev sLawSays : Stmt := topS 31
abbrev nLawSays : List Str := ["_law_said", "_law_due_here"]
theorem scLawSays : FnScope nLawSays ["_law_said", "_law_due_here"] (defScope sLawSays) := ⟨rfl, rfl, rfl, by decide +kernel, rfl, by decide +kernel, by decide +kernel⟩
abbrev sLawBent : Stmt := topS 32
abbrev nLawBent : List Str := ["_law_some", "_law_cell", "_law_kind", "_law_at", "_law_one"]
theorem scLawBent : FnScope nLawBent ["_law_some", "_law_cell"] (defScope sLawBent) := ⟨rfl, rfl, rfl, by decide +kernel, rfl, by decide +kernel, by decide +kernel⟩
abbrev sLawBestRight : Stmt := topS 33
abbrev nLawBestRight : List Str := ["_law_weights", "_law_most", "_law_added", "_law_misses", "_law_handed", "_law_answer"]
theorem scLawBestRight : FnScope nLawBestRight ["_law_weights", "_law_most", "_law_added", "_law_misses"] (defScope sLawBestRight) := ⟨rfl, rfl, rfl, by decide +kernel, rfl, by decide +kernel, by decide +kernel⟩
abbrev sLawPromisesRight : Stmt := topS 34
abbrev nLawPromisesRight : List Str := ["_law_great", "_law_cases", "_law_weights", "_law_gap_here", "_law_number", "_law_places", "_law_most", "_law_due_here", "_law_one", "_law_other", "_law_at"]
theorem scLawPromisesRight : FnScope nLawPromisesRight [] (defScope sLawPromisesRight) := ⟨rfl, rfl, rfl, by decide +kernel, rfl, by decide +kernel, by decide +kernel⟩
abbrev sLawFewestPromises : Stmt := topS 35
abbrev nLawFewestPromises : List Str := ["_law_great", "_law_cases", "_law_added", "_law_misses", "_law_weights", "_law_most", "_law_due_here"]
theorem scLawFewestPromises : FnScope nLawFewestPromises ["_law_great"] (defScope sLawFewestPromises) := ⟨rfl, rfl, rfl, by decide +kernel, rfl, by decide +kernel, by decide +kernel⟩
abbrev sLaw : Stmt := topS 36
abbrev nLaw : List Str := ["_law_script", "_law_weights", "_law_gap_here", "_law_cell", "_law_most", "_law_best", "_law_number", "_law_due_here", "_law_both", "_law_weight"]
theorem scLaw : FnScope nLaw ["_law_script"] (defScope sLaw) := ⟨rfl, rfl, rfl, by decide +kernel, rfl, by decide +kernel, by decide +kernel⟩
section
variable {P : Program} {w : World} {K : PySem.W.Frag} {mg : Str → Option Value} {base : Heap}
def spWhole : Sp := fun vs H Q _ => ∃ n : Int, vs = [.int n] ∧ RetV (.bl true) H Q
theorem ok_IsWhole {f : Addr} {fd : FuncData} (O : Own K mg "is_whole" ["value"] sIsWhole f fd) (B : Blt mg) : FnOk P w K mg base CX0 1 f fd ["value"] spWhole := by
  refine O.F.ok scIsWhole (fun vs H Q E h => ?_) (fun cdv A outer s H vs Q E hr h => ?_)
  · obtain ⟨n, rfl, _⟩ := h
    rfl
  obtain ⟨n, rfl, q⟩ := h
  refine ⟨_, 
      (pss_one (ps_ret (pe_and (pe_callB (r := rIsi K) (id := "isinstance") call_isi (by rfl) B.isinstance (by decide +kernel) (pa_cons (pv 0) (pa_cons (pe_bltn (v := .ty "int") (by rfl) B.intT (by decide +kernel) rfl) pa_nil))) (pe_one (pe_not (pe_callB (r := rIsi K) (id := "isinstance") call_isi (by rfl) B.isinstance (by decide +kernel) (pa_cons (pv 0) (pa_cons (pe_bltn (v := .ty "bool") (by rfl) B.boolT (by decide +kernel) rfl) pa_nil)))))))), ?_⟩
  exact s_ret (ev_andV (a := true) (b := true) (ev_isiI (by decide +kernel) (ev_var rfl)) fun _ => ev_notV (a := false) (ev_isiI (by decide +kernel) (ev_var rfl))) q
def spCheck (K : PySem.W.Frag) : Sp := fun vs H Q _ => ∃ (a : Addr) (ws : List Int), vs = [.ref a] ∧ SqL K H a (ws.map V.int) ∧ Pos ws ∧ RetV .non H Q
theorem ok_CheckSet {f fIsWhole : Addr} {fd fdIsWhole : FuncData} (O : Own K mg "check_set" ["weights"] sCheckSet f fd) (B : Blt mg)
    (GIsWhole : FnOk P w K mg base CX0 1 fIsWhole fdIsWhole ["value"] spWhole) (OIsWhole : Own K mg "is_whole" ["value"] sIsWhole fIsWhole fdIsWhole) : FnOk P w K mg base CX0 2 f fd ["weights"] (spCheck K) := by
  refine O.F.ok scCheckSet (fun vs H Q E h => ?_) (fun cdv A outer s H vs Q E hr h => ?_)
  · obtain ⟨a, ws, rfl, _⟩ := h
    rfl
  obtain ⟨a, ws, rfl, hS, pos, q⟩ := h
  refine ⟨_, 
      (pss_cons (ps_if (pt_not (pt_val (pe_callB (r := rIsi K) (id := "isinstance") call_isi (by rfl) B.isinstance (by decide +kernel) (pa_cons (pv 0) (pa_cons (pe_bltn (v := .ty "list") (by rfl) B.listT (by decide +kernel) rfl) pa_nil))))) 
        (pss_one ps_never) pss_nil)
      (pss_one (ps_for PassesOwn.never rfl (pi_list (pv 0)) (pg_name (i := 1) scCheckSet.nd rfl (Or.inl rfl)) 
        (pss_one (ps_if (PW.pt (pw_or (pt_not (pt_val (pe_call GIsWhole (hr.mono (by decide)) (by rfl) OIsWhole.g OIsWhole.F.kp OIsWhole.b .nil pass0 (pa_cons (pv 1) pa_nil)))) (pw_or1 (pt_cmpR op_lt (pv 1) pe_int (nomark _))))) 
          (pss_one ps_never) pss_nil))))), ?_⟩
  refine q_when (b := false) (et_not (a := true) (et_B (ev_isiL hS (by decide +kernel) (ev_var rfl)))) (fun z => nomatch z) fun _ H1 e1 => ?_
  refine s_forLn (ev_var rfl) (ex_l e1 hS) (fun i σ' H' => (∃ y1, σ' = [some (.ref a), y1]) ∧ Ex H1 H') (fun H2 e2 => ⟨⟨none, rfl⟩, e2⟩) (fun i σ' H' _ h => ex_l (e1.trans h.2) hS) (fun i x σ' H' hx h => ?_) fun σ' H' h => q H' (e1.trans h.2)
  obtain ⟨⟨y1, rfl⟩, e2⟩ := h
  obtain ⟨n, hn, rfl⟩ := vget hx
  have hp := pos n (mem_at hn)
  refine s_when (b := false) (et_is (et_or (a := false) (b := decide (n < 1)) (et_not (a := true) (et_B (ev_call (ea_cons (ev_var rfl) ea_nil) fun H3 e3 Q3 q3 E3 => ⟨n, rfl, q3⟩))) fun _ => et_test (ev_lt (ev_var rfl) ev_c)) (by rw [Bool.false_or]; exact decide_eq_false (by omega))) (fun z => nomatch z) fun _ H3 e3 => ?_
  exact ⟨⟨_, rfl⟩, e2.trans e3⟩
def spGapOf (K : PySem.W.Frag) : Sp := fun vs H Q _ => ∃ (a : Addr) (ws : List Int), vs = [.ref a] ∧ SqL K H a (ws.map V.int) ∧ RetV (.int (gap ws)) H Q
theorem ok_GapOf {f : Addr} {fd : FuncData} (O : Own K mg "gap_of" ["weights"] sGapOf f fd) (B : Blt mg) : FnOk P w K mg base CX0 1 f fd ["weights"] (spGapOf K) := by
  refine O.F.ok scGapOf (fun vs H Q E h => ?_) (fun cdv A outer s H vs Q E hr h => ?_)
  · obtain ⟨a, ws, rfl, _⟩ := h
    rfl
  obtain ⟨a, ws, rfl, hS, q⟩ := h
  refine ⟨_, 
      (pss_cons (ps_set (i := 1) scGapOf.nd rfl (Or.inl rfl) pe_int)
      (pss_cons (ps_for PassesOwn.never rfl (pi_list (pe_callB (r := rSortedI K) (id := "sorted") cr_sortedI (by rfl) B.sorted (by decide +kernel) (pa_cons (pv 0) pa_nil))) (pg_name (i := 2) scGapOf.nd rfl (Or.inl rfl)) 
        (pss_cons (ps_if (pt_cmpR op_gt (pv 2) (pv 1) (nomark _)) 
          (pss_one ps_break) pss_nil)
        (pss_one (ps_aug (i := 1) scGapOf.nd rfl (Or.inl rfl) (pv 2) ip_add))))
      (pss_one (ps_ret (pv 1))))), ?_⟩
  refine q_asg ev_c fun H1 e1 => ?_
  refine q_forNLn (el_sorted (ex_l e1 hS) (ev_var rfl)) (fun p i σ' H' => (∃ g y2, σ' = [some (.ref a), some (.int g), y2] ∧ gap ws = gapF g ((srt ws).drop i)) ∧ H' p = some (.lst ((srt ws).map V.int)) ∧ Ex H H')
    (fun p H2 hp e2 h2 => ⟨⟨1, none, rfl, rfl⟩, h2, e1.trans e2⟩) (fun p i σ' H' _ h => sq_of h.2.1) (fun p i x σ' H' hx h => ?_) fun p σ' H' h => ?_
  · obtain ⟨⟨g, y2, rfl, eg⟩, hp, e2⟩ := h
    obtain ⟨n, hn, rfl⟩ := vget hx
    rw [drop_at hn] at eg
    have eg : gap ws = if g < n then g else gapF (g + n) ((srt ws).drop (i + 1)) := eg
    refine q_when (et_test (ev_gt (ev_var rfl) (ev_var rfl))) (fun hb H3 e3 => ?_) fun hb H3 e3 => ?_
    · rw [if_pos (of_decide_eq_true hb)] at eg
      show tRet (tVar 1) _ _ _
      exact s_ret (v := .int g) (ev_var rfl) fun H4 e4 => eg ▸ q H4 (e2.trans (e3.trans e4))
    · rw [if_neg (of_decide_eq_false hb)] at eg
      exact s_aug (a := g) (b := n) rfl (ev_var rfl) fun H4 e4 => ⟨⟨g + n, _, rfl, eg⟩, e4 p _ (e3 p _ hp), e2.trans (e3.trans e4)⟩
  · obtain ⟨⟨g, y2, rfl, eg⟩, hp, e2⟩ := h
    rw [List.length_map, List.drop_length] at eg
    have eg : gap ws = g := eg
    exact s_ret (v := .int g) (ev_var rfl) fun H4 e4 => eg ▸ q H4 (e2.trans e4)
def spPlaces (K : PySem.W.Frag) : Sp := fun vs H Q _ => ∃ (a : Addr) (ws : List Int) (n : Int), vs = [.ref a, .int n] ∧ SqL K H a (ws.map V.int) ∧ ws.length ≤ 40000 ∧ RetL ((weigh ws n).map V.int) H Q
theorem ok_PlacesChosen {f : Addr} {fd : FuncData} (O : Own K mg "places_chosen" ["weights", "number"] sPlacesChosen f fd) (B : Blt mg) : FnOk P w K mg base CX0 1 f fd ["weights", "number"] (spPlaces K) := by
  refine O.F.ok scPlacesChosen (fun vs H Q E h => ?_) (fun cdv A outer s H vs Q E hr h => ?_)
  · obtain ⟨a, ws, n, rfl, _⟩ := h
    rfl
  obtain ⟨a, ws, n, rfl, hS, hz, q⟩ := h
  refine ⟨_, 
      (pss_cons (ps_set (i := 2) scPlacesChosen.nd rfl (Or.inl rfl) (pv 1))
      (pss_cons (ps_set (i := 3) scPlacesChosen.nd rfl (Or.inl rfl) (pe_lst pa_nil))
      (pss_cons (ps_setLc (i := 6) (own := [("place", 4), ("weight", 5)]) (g := gTup K 2 (gCons (gName 4) (gCons (gName 5) gNil))) (tt := tYes) rfl scPlacesChosen.nd rfl rfl (sw_true rfl rfl rfl (by decide +kernel)) (pi_enum (by rfl) B.enumerate (pa_cons (pv 0) pa_nil)) (blkOk_by (N := nPlacesChosen) (sc := defScope sPlacesChosen) (by decide +kernel)) (fun _ _ _ _ _ => (pg_tup (by rfl) (pgs_cons (pg_name (i := 4) scPlacesChosen.nd rfl (Or.inl rfl)) (pgs_cons (pg_name (i := 5) scPlacesChosen.nd rfl (Or.inl rfl)) pgs_nil)))) (fun _ _ _ _ _ => pts_nil) (fun _ _ _ _ _ => (pe_tup (pa_cons (pv 5) (pa_cons (pv 4) pa_nil)))))
      (pss_cons (ps_for PassesOwn.never rfl (pi_list (pe_callBK cr_sortedDn (by rfl) B.sorted (by decide +kernel) (pa_cons (pv 6) pa_nil) (pk_cons pe_bl pk_nil))) (pg_tup (by rfl) (pgs_cons (pg_name (i := 5) scPlacesChosen.nd rfl (Or.inl rfl)) (pgs_cons (pg_name (i := 4) scPlacesChosen.nd rfl (Or.inl rfl)) pgs_nil))) 
        (pss_one (ps_if (pt_cmpR op_le (pv 5) (pv 2) (nomark _)) 
          (pss_cons (ps_expr (pe_bm PySem.F.plainAttrs_list PySem.F.slot_list_append PySem.F.type_list_append mt_append (pv 3) (pa_cons (pv 4) pa_nil)))
          (pss_one (ps_aug (i := 2) scPlacesChosen.nd rfl (Or.inl rfl) (pv 5) ip_sub))) pss_nil)))
      (pss_one (ps_ret (pe_callB (r := rSortedI K) (id := "sorted") cr_sortedI (by rfl) B.sorted (by decide +kernel) (pa_cons (pv 3) pa_nil)))))))), ?_⟩
  refine q_asg (ev_var rfl) fun H1 e1 => ?_
  refine q_asgL (xs := []) (el_lst ea_nil (Nat.zero_le _)) fun c H2 hc e2 h2 => ?_
  -- the pairs
  refine ⟨.ref a, rfl, a, ws.map V.int, rfl, ex_l (e1.trans e2) hS, fun d hd => ?_⟩
  refine lc_it (walk_enum (K := K) (xs := ws.map V.int)) (fun i H' => Ex H2 H' ∧ ∃ xs, H' d = some (.lst xs) ∧ Tps H' xs ((pairsF 0 ws).take i)) ⟨Ex.new hd, [], upd_same, trivial⟩ (fun i H' _ h => ex_l ((e1.trans e2).trans h.1) hS) (fun i x H' H'' hi h y => ?_) fun H3 h => ?_
  · obtain ⟨T, x1, y1, rfl, hT, rfl, ex1, hy⟩ := y
    obtain rfl := Option.some.inj ex1
    obtain ⟨k, hk, rfl⟩ := vget hy
    obtain ⟨eX, xs, hx, tp⟩ := h
    have hq : (pairsF 0 ws)[i]? = some (k, (i : Int)) := by
      have z := pairsF_get (i := 0) hk
      rw [Int.zero_add] at z
      exact z
    refine ⟨T, [.int (i : Nat), .int k], rfl, .inl (.inl upd_same), rfl, _, _, rfl, _, _, rfl, rfl, rfl, ?_⟩
    refine ⟨.int k, rfl, .int (i : Nat), rfl, (by show 2 ≤ sizeLine; decide), fun t ht => ?_⟩
    have e3 := Ex.new (o := .tup [.int (i : Nat), .int k]) hT
    have e4 := Ex.new (o := .tup [.int k, .int (i : Nat)]) ht
    have hx4 := e4 d _ (e3 d _ hx)
    have hl : xs.length ≤ 40000 := by
      rw [tp.len, List.length_take, pairsF_len]
      omega
    refine ⟨xs, hx4, lt_line hl, Ex.mut (eX.trans (e3.trans e4)) hd, _, upd_same, ?_⟩
    rw [take_at hq]
    exact Tps.put hx4 (Tps.snoc (p := (k, (i : Int))) upd_same (tp.ex (e3.trans e4)))
  obtain ⟨eX, xs, hx, tp⟩ := h
  have ea : (pairsF 0 ws).take (ws.map V.int).length = pairsF 0 ws := List.take_of_length_le (by rw [pairsF_len, List.length_map]; exact Nat.le_refl _)
  rw [ea] at tp
  -- the walk from the heaviest on
  refine ⟨.ref d, rfl, d, xs, prOf H3, rfl, rfl, sq_of hx, tp.all, fun ys p so pm hp => ⟨p, rfl, ⟨ys, sq_of upd_same⟩, ?_⟩⟩
  have ed : ys.map (prOf H3) = down ws := by
    refine down_of ((pm.map (prOf H3)).trans (List.Perm.of_eq tp.map)) ?_
    rw [List.pairwise_map]
    have so2 : ys.Pairwise fun x y => ltP (prOf H3) x y = false := by
      have z : ys.reverse.Pairwise fun x y => ltP (prOf H3) y x = false := so
      rw [List.pairwise_reverse] at z
      exact z
    refine so2.imp fun {x y} h => gePP_iff.mpr ?_
    have z := SrtO.lexB_no.mp h
    omega
  have ty : Tps H3 ys (down ws) := by
    rw [← ed]
    exact Tps.of_map fun x hx => tp.all x (pm.mem_iff.mp hx)
  have hc3 : H3 c = some (.lst []) := eX c _ h2
  have hcH : H c = none := fresh_back e1 hc
  have hpc : p ≠ c := (ne_of_none hc3 hp).symm
  have e3 : Ex H H3 := (e1.trans e2).trans eX
  refine for_list (fun i σ' H' => (∃ (r : Int) (ch : List Int) (y4 y5 : Option V), σ' = [some (.ref a), some (.int n), some (.int r), some (.ref c), y4, y5, some (.ref d)] ∧ H' c = some (.lst (ch.map V.int)) ∧ took n (down ws) = ch ++ took r ((down ws).drop i)) ∧ H' p = some (.lst ys) ∧ Tps H' ys (down ws) ∧ Ex H H')
    ⟨⟨n, [], none, none, rfl, by rw [upd_ne hpc.symm]; exact hc3, rfl⟩, upd_same, ty.ex (Ex.new hp), e3.trans (Ex.new hp)⟩ (fun i σ' H' _ h => sq_of h.2.1) (fun i x σ' H' hx h => ?_) fun σ' H' h => ?_
  · obtain ⟨⟨r, ch, y4, y5, rfl, hc', et⟩, hp', tp', eH⟩ := h
    obtain ⟨pr, t, hpr, rfl, ht⟩ := tp'.get hx
    rw [drop_at hpr] at et
    have et : took n (down ws) = ch ++ (if pr.1 ≤ r then pr.2 :: took (r - pr.1) ((down ws).drop (i + 1)) else took r ((down ws).drop (i + 1))) := et
    refine ⟨t, [.int pr.1, .int pr.2], rfl, .inl (.inl ht), rfl, _, _, rfl, _, _, rfl, rfl, ?_⟩
    have hl : ch.length ≤ 40000 := by
      have z1 := took_len n (down ws)
      rw [et, List.length_append, (down_perm ws).length_eq, pairsF_len] at z1
      omega
    refine s_when (et_test (ev_le (ev_var rfl) (ev_var rfl))) (fun hb H4 e4 => ?_) fun hb H4 e4 => ?_
    · rw [if_pos (of_decide_eq_true hb)] at et
      refine q_app (e4 c _ hc') (ev_var rfl) (ev_var rfl) (by rw [List.length_map]; omega) fun H5 e5 => ?_
      have hc5 := e5 c _ (e4 c _ hc')
      refine s_aug (a := r) (b := pr.1) rfl (ev_var rfl) fun H6 e6 => ?_
      refine ⟨⟨r - pr.1, ch ++ [pr.2], _, _, rfl, ?_, ?_⟩, e6 p _ (by rw [upd_ne hpc]; exact e5 p _ (e4 p _ hp')), (Tps.put hc5 (tp'.ex (e4.trans e5))).ex e6, (Ex.mut (eH.trans (e4.trans e5)) hcH).trans e6⟩
      · rw [List.map_append]
        exact e6 c _ upd_same
      · rw [et, List.append_assoc]
        rfl
    · rw [if_neg (of_decide_eq_false hb)] at et
      exact ⟨⟨r, ch, _, _, rfl, e4 c _ hc', et⟩, e4 p _ hp', tp'.ex e4, eH.trans e4⟩
  · obtain ⟨⟨r, ch, y4, y5, rfl, hc', et⟩, hp', tp', eH⟩ := h
    rw [show ys.length = (down ws).length from tp'.len, List.drop_length] at et
    have et : took n (down ws) = ch := et.trans (List.append_nil ch)
    refine s_retL (el_sorted (sq_of hc') (ev_var rfl)) fun p' H7 hp7 e7 h7 => q p' H7 (fresh_back eH hp7) (eH.trans e7) ?_
    unfold weigh
    rw [et]
    exact h7
def spFirst (K : PySem.W.Frag) : Sp := fun vs H Q _ => ∃ (a : Addr) (ws : List Int), vs = [.ref a] ∧ SqL K H a (ws.map V.int) ∧ Pos ws ∧ RetV (.int (gap ws)) H Q
theorem ok_FirstGap {f fCheckSet fGapOf : Addr} {fd fdCheckSet fdGapOf : FuncData} (O : Own K mg "first_gap" ["weights"] sFirstGap f fd) (B : Blt mg)
    (GCheckSet : FnOk P w K mg base CX0 2 fCheckSet fdCheckSet ["weights"] (spCheck K)) (OCheckSet : Own K mg "check_set" ["weights"] sCheckSet fCheckSet fdCheckSet)
    (GGapOf : FnOk P w K mg base CX0 1 fGapOf fdGapOf ["weights"] (spGapOf K)) (OGapOf : Own K mg "gap_of" ["weights"] sGapOf fGapOf fdGapOf) : FnOk P w K mg base CX0 3 f fd ["weights"] (spFirst K) := by
  refine O.F.ok scFirstGap (fun vs H Q E h => ?_) (fun cdv A outer s H vs Q E hr h => ?_)
  · obtain ⟨a, ws, rfl, _⟩ := h
    rfl
  obtain ⟨a, ws, rfl, hS, pos, q⟩ := h
  refine ⟨_, 
      (pss_cons (ps_expr (pe_call GCheckSet (hr.mono (by decide)) (by rfl) OCheckSet.g OCheckSet.F.kp OCheckSet.b .nil pass0 (pa_cons (pv 0) pa_nil)))
      (pss_one (ps_ret (pe_call GGapOf (hr.mono (by decide)) (by rfl) OGapOf.g OGapOf.F.kp OGapOf.b .nil pass0 (pa_cons (pv 0) pa_nil))))), ?_⟩
  refine q_drop (ev_call (ea_cons (ev_var rfl) ea_nil) fun H3 e3 Q3 q3 E3 => ⟨a, ws, rfl, ex_l e3 hS, pos, q3⟩) fun H1 e1 => ?_
  exact s_ret (ev_call (ea_cons (ev_var rfl) ea_nil) fun H3 e3 Q3 q3 E3 => ⟨a, ws, rfl, ex_l (e1.trans e3) hS, q3⟩) fun H2 e2 => q H2 (e1.trans e2)
def spWeighing (K : PySem.W.Frag) : Sp := fun vs H Q _ => ∃ (a : Addr) (ws : List Int) (n : Int), vs = [.ref a, .int n] ∧ SqL K H a (ws.map V.int) ∧ Pos ws ∧ ws.length ≤ 40000 ∧ 0 ≤ n ∧ n < gap ws ∧ RetL ((weigh ws n).map V.int) H Q
theorem ok_Weighing {f fCheckSet fGapOf fIsWhole fPlacesChosen : Addr} {fd fdCheckSet fdGapOf fdIsWhole fdPlacesChosen : FuncData} (O : Own K mg "weighing" ["weights", "number"] sWeighing f fd) (B : Blt mg)
    (GCheckSet : FnOk P w K mg base CX0 2 fCheckSet fdCheckSet ["weights"] (spCheck K)) (OCheckSet : Own K mg "check_set" ["weights"] sCheckSet fCheckSet fdCheckSet)
    (GGapOf : FnOk P w K mg base CX0 1 fGapOf fdGapOf ["weights"] (spGapOf K)) (OGapOf : Own K mg "gap_of" ["weights"] sGapOf fGapOf fdGapOf)
    (GIsWhole : FnOk P w K mg base CX0 1 fIsWhole fdIsWhole ["value"] spWhole) (OIsWhole : Own K mg "is_whole" ["value"] sIsWhole fIsWhole fdIsWhole)
    (GPlacesChosen : FnOk P w K mg base CX0 1 fPlacesChosen fdPlacesChosen ["weights", "number"] (spPlaces K)) (OPlacesChosen : Own K mg "places_chosen" ["weights", "number"] sPlacesChosen fPlacesChosen fdPlacesChosen) :
    FnOk P w K mg base CX0 3 f fd ["weights", "number"] (spWeighing K) := by
  refine O.F.ok scWeighing (fun vs H Q E h => ?_) (fun cdv A outer s H vs Q E hr h => ?_)
  · obtain ⟨a, ws, n, rfl, _⟩ := h
    rfl
  obtain ⟨a, ws, n, rfl, hS, pos, hz, n0, n1, q⟩ := h
  refine ⟨_, 
      (pss_cons (ps_expr (pe_call GCheckSet (hr.mono (by decide)) (by rfl) OCheckSet.g OCheckSet.F.kp OCheckSet.b .nil pass0 (pa_cons (pv 0) pa_nil)))
      (pss_cons (ps_if (PW.pt (pw_or (pt_not (pt_val (pe_call GIsWhole (hr.mono (by decide)) (by rfl) OIsWhole.g OIsWhole.F.kp OIsWhole.b .nil pass0 (pa_cons (pv 1) pa_nil)))) (pw_or (pt_cmpR op_lt (pv 1) pe_int (nomark _)) (pw_or1 (pt_cmpR op_ge (pv 1) (pe_call GGapOf (hr.mono (by decide)) (by rfl) OGapOf.g OGapOf.F.kp OGapOf.b .nil pass0 (pa_cons (pv 0) pa_nil)) (nomark _)))))) 
        (pss_one ps_never) pss_nil)
      (pss_one (ps_ret (pe_call GPlacesChosen (hr.mono (by decide)) (by rfl) OPlacesChosen.g OPlacesChosen.F.kp OPlacesChosen.b .nil pass0 (pa_cons (pv 0) (pa_cons (pv 1) pa_nil))))))), ?_⟩
  refine q_drop (ev_call (ea_cons (ev_var rfl) ea_nil) fun H3 e3 Q3 q3 E3 => ⟨a, ws, rfl, ex_l e3 hS, pos, q3⟩) fun H1 e1 => ?_
  refine q_when (b := false) (et_is (et_or (a := false) (et_not (a := true) (et_B (ev_call (ea_cons (ev_var rfl) ea_nil) fun H3 e3 Q3 q3 E3 => ⟨n, rfl, q3⟩))) fun _ =>
    et_or (a := decide (n < 0)) (b := decide (gap ws ≤ n)) (et_test (ev_lt (ev_var rfl) ev_c)) fun _ => et_test (ev_ge (ev_var rfl) (ev_call (ea_cons (ev_var rfl) ea_nil) fun H3 e3 Q3 q3 E3 => ⟨a, ws, rfl, ex_l (e1.trans e3) hS, q3⟩)))
    (by rw [decide_eq_false (show ¬ n < 0 by omega), decide_eq_false (show ¬ gap ws ≤ n by omega)] <;> rfl)) (fun z => nomatch z) fun _ H2 e2 => ?_
  exact s_retL (el_call (ea_cons (ev_var rfl) (ea_cons (ev_var rfl) ea_nil)) fun H3 e3 Q3 q3 E3 => ⟨a, ws, n, rfl, ex_l ((e1.trans e2).trans e3) hS, hz, q3⟩) fun p H4 hp e4 h4 => q p H4 (fresh_back (e1.trans e2) hp) ((e1.trans e2).trans e4) h4
end
end Wt
/-! without: the program's one more -/
namespace Wt
open PySem PySem.Spec PyProof.Rows L2 Evl
section
variable {P : Program} {w : World} {K : PySem.W.Frag} {mg : Str → Option Value} {base : Heap}
def spWithout (K : PySem.W.Frag) : Sp := fun vs H Q _ => ∃ (a : Addr) (ws : List Int) (k : Nat), vs = [.ref a, .int k] ∧ SqL K H a (ws.map V.int) ∧ Pos ws ∧ ws.length ≤ 40000 ∧ k < ws.length ∧ RetV (.int (gap (ws.take k ++ ws.drop (k + 1)))) H Q
theorem ok_Without {f fCheckSet fGapOf fIsWhole : Addr} {fd fdCheckSet fdGapOf fdIsWhole : FuncData} (O : Own K mg "without" ["weights", "place"] sWithout f fd) (B : Blt mg)
    (GCheckSet : FnOk P w K mg base CX0 2 fCheckSet fdCheckSet ["weights"] (spCheck K)) (OCheckSet : Own K mg "check_set" ["weights"] sCheckSet fCheckSet fdCheckSet)
    (GGapOf : FnOk P w K mg base CX0 1 fGapOf fdGapOf ["weights"] (spGapOf K)) (OGapOf : Own K mg "gap_of" ["weights"] sGapOf fGapOf fdGapOf)
    (GIsWhole : FnOk P w K mg base CX0 1 fIsWhole fdIsWhole ["value"] spWhole) (OIsWhole : Own K mg "is_whole" ["value"] sIsWhole fIsWhole fdIsWhole) :
    FnOk P w K mg base CX0 3 f fd ["weights", "place"] (spWithout K) := by
  refine O.F.ok scWithout (fun vs H Q E h => ?_) (fun cdv A outer s H vs Q E hr h => ?_)
  · obtain ⟨a, ws, k, rfl, _⟩ := h
    rfl
  obtain ⟨a, ws, k, rfl, hS, pos, hz, hk, q⟩ := h
  refine ⟨_, 
      (pss_cons (ps_expr (pe_call GCheckSet (hr.mono (by decide)) (by rfl) OCheckSet.g OCheckSet.F.kp OCheckSet.b .nil pass0 (pa_cons (pv 0) pa_nil)))
      (pss_cons (ps_if (PW.pt (pw_or (pt_not (pt_val (pe_call GIsWhole (hr.mono (by decide)) (by rfl) OIsWhole.g OIsWhole.F.kp OIsWhole.b .nil pass0 (pa_cons (pv 1) pa_nil)))) (pw_or (pt_cmpR op_lt (pv 1) pe_int (nomark _)) (pw_or1 (pt_cmpR op_ge (pv 1) (pe_callB (r := rLenS K) (id := "len") call_len_seq (by rfl) B.len (by decide +kernel) (pa_cons (pv 0) pa_nil)) (nomark _)))))) 
        (pss_one ps_never) pss_nil)
      (pss_one (ps_ret (pe_call GGapOf (hr.mono (by decide)) (by rfl) OGapOf.g OGapOf.F.kp OGapOf.b .nil pass0 (pa_cons (pe_op op_cat (pe_slice (r := rSlL K) sl_list (pv 0) po_none (po_some (pv 1))) (pe_slice (r := rSlL K) sl_list (pv 0) (po_some (pe_op op_add (pv 1) pe_int)) po_none)) pa_nil)))))), ?_⟩
  refine q_drop (ev_call (ea_cons (ev_var rfl) ea_nil) fun H3 e3 Q3 q3 E3 => ⟨a, ws, rfl, ex_l e3 hS, pos, q3⟩) fun H1 e1 => ?_
  have h1 := ex_l e1 hS
  refine q_when (b := false) (et_is (et_or (a := false) (et_not (a := true) (et_B (ev_call (ea_cons (ev_var rfl) ea_nil) fun H3 e3 Q3 q3 E3 => ⟨k, rfl, q3⟩))) fun _ =>
    et_or (a := decide ((k : Int) < 0)) (b := decide (((ws.map V.int).length : Int) ≤ k)) (et_test (ev_lt (ev_var rfl) ev_c)) fun _ => et_test (ev_ge (ev_var rfl) (ev_len (ev_var rfl) h1)))
    (by rw [List.length_map, decide_eq_false (show ¬ (k : Int) < 0 by omega), decide_eq_false (show ¬ (ws.length : Int) ≤ k by omega)] <;> rfl)) (fun z => nomatch z) fun _ H2 e2 => ?_
  have h2 := ex_l e2 h1
  refine s_ret (ev_callN (xs := (ws.take k ++ ws.drop (k + 1)).map V.int) (el_is (el_catNN ?_ (el_take h2 (ev_var rfl) (ev_var rfl)) (el_drop (k := k + 1) h2 (ev_var rfl) (ev_is (v := .int ((k : Int) + 1)) (ev_add (ev_var rfl) ev_c) (congrArg V.int (by omega))))) ?_) fun p H4 hp e4 => fun H5 e5 Q5 q5 E5 => ⟨p, _, rfl, sq_of (e5 p _ hp), q5⟩) fun H3 e3 => q H3 ((e1.trans e2).trans e3)
  · rw [List.length_take, List.length_drop, List.length_map]
    omega
  · rw [List.map_append, List.map_take, List.map_drop]
end
end Wt
/-! ### the answers and what is told: each def by its promise -/
namespace Wt
open PySem PySem.Spec PyProof.Rows L2 Evl
section
variable {P : Program} {w : World} {K : PySem.W.Frag} {mg : Str → Option Value} {base : Heap}
theorem ok_IsFrom1To {f : Addr} {fd : FuncData}
    (O : Own K mg "is_from_1_to" ["number", "most"] sIsFrom1To f fd) (B : Blt mg) :
    FnOk P w K mg base CX0 1 f fd ["number", "most"] spFrom := by
  refine O.F.ok scIsFrom1To (fun vs H Q E h => ?_) (fun cdv A outer s H vs Q E hr h => ?_)
  · obtain ⟨n, m, rfl, _⟩ := h
    rfl
  obtain ⟨n, m, rfl, q⟩ := h
  refine ⟨_, 
      (pss_one (ps_ret (pe_and (pe_cmpR op_ge (pv 0) pe_int (nomark _)) (pe_one (pe_cmpR op_le (pv 0) (pv 1) (nomark _)))))), ?_⟩
  exact s_ret (ev_andV (ev_ge (ev_var rfl) ev_c) fun _ => ev_le (ev_var rfl) (ev_var rfl)) q
theorem ok_IsLeftOut {f : Addr} {fd : FuncData} {D : Ad} {c : Addr}
    (O : Own K mg "is_left_out" ["number", "weights"] sIsLeftOut f fd) (B : Blt mg) (hc : fd.code = .ref c) (TB : GxR.TabB base mg c D.P1) :
    FnOk P w K mg base CX0 1 f fd ["number", "weights"] (spLeft K D) := by
  refine Wt.Fun.okC O.F hc scIsLeftOut (fun vs H Q E h => ?_) (fun A outer s H vs Q E hr h => ?_)
  · obtain ⟨n, a, ws, rfl, _⟩ := h
    rfl
  obtain ⟨n, a, ws, rfl, hS, tb, q⟩ := h
  refine ⟨_, 
      (pss_one (ps_ret (pe_and (pe_cmpR (r := rIn K true) op_notIn_seq (pv 0) (pv 1) (by rfl)) (pe_one (pe_cmpR op_lt (pe_sumLt (j := 0) hr (by rfl) B.sum TB rfl (gsc_by (dsc := defScope sIsLeftOut) (by decide +kernel)) rfl rfl rfl (pv 1) (fun _ => rfl)) (pv 0) (nomark _)))))), ?_⟩
  exact s_ret (ev_andV (ev_notIn (ev_var rfl) (ev_var rfl) hS) fun _ => ev_lt (ev_sumLt rfl (ev_var rfl) hS tb) (ev_var rfl)) q
theorem ok_AreWeights {f : Addr} {fd : FuncData} {D : Ad} {c : Addr}
    (O : Own K mg "are_weights" ["numbers"] sAreWeights f fd) (B : Blt mg) (hc : fd.code = .ref c) (TB : GxR.TabB base mg c D.P2) :
    FnOk P w K mg base CX0 1 f fd ["numbers"] (spAreW K D) := by
  refine Wt.Fun.okC O.F hc scAreWeights (fun vs H Q E h => ?_) (fun A outer s H vs Q E hr h => ?_)
  · obtain ⟨a, ns, rfl, _⟩ := h
    rfl
  obtain ⟨a, ns, rfl, hS, tb, q⟩ := h
  refine ⟨_, 
      (pss_one (ps_ret (pe_allGe hr (by rfl) B.allF TB rfl (gsc_by (dsc := defScope sAreWeights) (by decide +kernel)) (pv 0) (fun _ => rfl)))), ?_⟩
  exact s_ret (ev_allGe (ev_var rfl) hS tb) q
theorem ok_AreMisses {f fIsFrom1To : Addr} {fd fdIsFrom1To : FuncData}
    (O : Own K mg "are_misses" ["misses", "weights", "most"] sAreMisses f fd) (B : Blt mg)
    (GIsFrom1To : FnOk P w K mg base CX0 1 fIsFrom1To fdIsFrom1To ["number", "most"] spFrom) (OIsFrom1To : Own K mg "is_from_1_to" ["number", "most"] sIsFrom1To fIsFrom1To fdIsFrom1To) :
    FnOk P w K mg base CX0 2 f fd ["misses", "weights", "most"] (spAreM K) := by
  refine O.F.ok scAreMisses (fun vs H Q E h => ?_) (fun cdv A outer s H vs Q E hr h => ?_)
  · obtain ⟨b, a, ms, ws, m, rfl, _⟩ := h
    rfl
  obtain ⟨b, a, ms, ws, m, rfl, hM, hS, q⟩ := h
  refine ⟨_, 
      (pss_cons (ps_set (i := 3) scAreMisses.nd rfl (Or.inl rfl) (pe_callB (r := rSortedI K) (id := "sorted") cr_sortedI (by rfl) B.sorted (by decide +kernel) (pa_cons (pv 1) pa_nil)))
      (pss_cons (ps_set (i := 4) scAreMisses.nd rfl (Or.inl rfl) pe_int)
      (pss_cons (ps_set (i := 5) scAreMisses.nd rfl (Or.inl rfl) pe_int)
      (pss_cons (ps_for PassesOwn.never rfl (pi_list (pv 0)) (pg_name (i := 6) scAreMisses.nd rfl (Or.inl rfl)) 
        (pss_cons (ps_while PassesOwn.never (PW.pt (pw_and (pt_cmpR op_lt (pv 4) (pe_callB (r := rLenS K) (id := "len") call_len_seq (by rfl) B.len (by decide +kernel) (pa_cons (pv 3) pa_nil)) (nomark _)) (pw_and1 (pt_cmpR op_lt (pe_ix (r := rIxL K) ix_list (pv 3) (pv 4) (fun _ _ => rfl)) (pv 6) (nomark _))))) 
          (pss_cons (ps_aug (i := 5) scAreMisses.nd rfl (Or.inl rfl) (pe_ix (r := rIxL K) ix_list (pv 3) (pv 4) (fun _ _ => rfl)) ip_add)
          (pss_one (ps_aug (i := 4) scAreMisses.nd rfl (Or.inl rfl) pe_int ip_add))))
        (pss_cons (ps_if (PW.pt (pw_and (pt_cmpR op_lt (pv 4) (pe_callB (r := rLenS K) (id := "len") call_len_seq (by rfl) B.len (by decide +kernel) (pa_cons (pv 3) pa_nil)) (nomark _)) (pw_and1 (pt_cmpR op_eq (pe_ix (r := rIxL K) ix_list (pv 3) (pv 4) (fun _ _ => rfl)) (pv 6) (nomark _))))) 
          (pss_one (ps_ret pe_bl)) pss_nil)
        (pss_cons (ps_if (PW.pt (pw_or (pt_not (pt_val (pe_call GIsFrom1To (hr.mono (by decide)) (by rfl) OIsFrom1To.g OIsFrom1To.F.kp OIsFrom1To.b .nil pass0 (pa_cons (pv 6) (pa_cons (pv 2) pa_nil))))) (pw_or1 (pt_cmpR op_ne (pv 6) (pe_op op_add (pv 5) pe_int) (nomark _))))) 
          (pss_one (ps_ret pe_bl)) pss_nil)
        (pss_one (ps_aug (i := 5) scAreMisses.nd rfl (Or.inl rfl) (pv 6) ip_add))))))
      (pss_one (ps_ret pe_bl)))))), ?_⟩
  refine q_asgL (el_sorted hS (ev_var rfl)) fun r H1 _ e1 h1 => ?_
  refine q_asg ev_c fun H2 e2 => ?_
  refine q_asg ev_c fun H3 e3 => ?_
  have hr3 := e3 r _ (e2 r _ h1)
  have e03 := e1.trans (e2.trans e3)
  clear hr3
  have hr3 : H3 r = some (.lst ((srt ws).map V.int)) := e3 r _ (e2 r _ h1)
  generalize srt ws = rs at hr3 q
  -- miss by miss
  refine q_forLn (ev_var rfl) (ex_l e03 hM) (fun i σ' H' => (∃ (at' : Nat) (t : Int) (y6 : Option V), σ' = [some (.ref b), some (.ref a), some (.int m), some (.ref r), some (.int (at' : Int)), some (.int t), y6] ∧ at' ≤ rs.length ∧
      missF m 0 rs ms = missF m t (rs.drop at') (ms.drop i)) ∧ Ex H3 H') (fun H4 e4 => ⟨⟨0, 0, none, rfl, Nat.zero_le _, rfl⟩, e4⟩) (fun i σ' H' _ h => ex_l (e03.trans h.2) hM) (fun i x σ' H' hx0 h => ?_) fun σ' H' h => ?_
  · obtain ⟨⟨at', t, y6, rfl, hat, eM⟩, e4⟩ := h
    obtain ⟨x, hx, rfl⟩ := vget hx0
    rw [drop_at hx] at eM
    have eM : missF m 0 rs ms = (!(eat x t (rs.drop at')).2.head?.any (· == x) && (decide (1 ≤ x) && decide (x ≤ m) && decide (x = (eat x t (rs.drop at')).1 + 1)) && missF m ((eat x t (rs.drop at')).1 + x) (eat x t (rs.drop at')).2 (ms.drop (i + 1))) := eM
    -- the lighter weights
    refine q_while (fun k σ2 H2 => ∃ (at2 : Nat) (t2 : Int), σ2 = [some (.ref b), some (.ref a), some (.int m), some (.ref r), some (.int (at2 : Int)), some (.int t2), some (.int x)] ∧ at2 ≤ rs.length ∧ k = rs.length - at2 ∧
      eat x t (rs.drop at') = eat x t2 (rs.drop at2) ∧ Ex H3 H2) (rs.length - at') ⟨at', t, rfl, hat, rfl, rfl, e4⟩ fun k σ2 H2 h => ?_
    obtain ⟨at2, t2, rfl, hat2, rfl, eE, e5⟩ := h
    have hlen : ∀ H6, Ex H2 H6 → ∀ σ', σ'[3]? = some (some (V.ref r)) → Ev (tCB (rLenS K) (tCons (tVar 3) tNil)) σ' H6 (.int (rs.length : Int)) := fun H6 e6 σ' hσ => ev_is (ev_len (ev_var hσ) (sq_of ((e5.trans e6) r _ hr3))) (by rw [List.length_map])
    have hix : ∀ H6, Ex H2 H6 → ∀ (j : Nat) (w' : Int) σ', σ'[3]? = some (some (V.ref r)) → σ'[4]? = some (some (.int (j : Int))) → rs[j]? = some w' → Ev (tOp (rIxL K) (tVar 3) (tVar 4)) σ' H6 (.int w') := fun H6 e6 j w' σ' h1 h2 hw =>
      ev_ixL (sq_of ((e5.trans e6) r _ hr3)) (ev_var h1) (ev_var h2) (at_of (j := j) rfl (vmap hw))
    cases hw : rs[at2]? with
    | none =>
      have hz : rs.length ≤ at2 := List.getElem?_eq_none_iff.mp hw
      have hd : rs.drop at2 = [] := List.drop_eq_nil_iff.mpr hz
      refine ⟨false, et_is (et_and (a := decide ((at2 : Int) < (rs.length : Int))) (b := false) (et_test (ev_lt (ev_var rfl) (hlen H2 (Ex.refl _) _ rfl))) fun z => ?_) ?_, (fun z => nomatch z), fun _ H6 e6 => ?_⟩
      · have := of_decide_eq_true z
        omega
      · rw [decide_eq_false (by omega)]
        rfl
      · rw [hd] at eE
        rw [eE] at eM
        have eM : missF m 0 rs ms = (true && (decide (1 ≤ x) && decide (x ≤ m) && decide (x = t2 + 1)) && missF m (t2 + x) [] (ms.drop (i + 1))) := eM
        refine q_when (b := false) (et_is (et_and (a := decide ((at2 : Int) < (rs.length : Int))) (b := false) (et_test (ev_lt (ev_var rfl) (hlen H6 e6 _ rfl))) fun z => ?_) ?_) (fun z => nomatch z) fun _ H7 e7 => ?_
        · have := of_decide_eq_true z
          omega
        · rw [decide_eq_false (by omega)]
          rfl
        refine q_when (et_or (et_not (et_B (ev_call (ea_cons (ev_var rfl) (ea_cons (ev_var rfl) ea_nil)) fun H e Q q E => ⟨x, m, rfl, q⟩))) fun _ => et_test (ev_ne (ev_var rfl) (ev_add (ev_var rfl) ev_c))) (fun hb H8 e8 => ?_) fun hb H8 e8 => ?_
        · have z : missF m 0 rs ms = false := by
            rw [eM]
            cases h1 : decide (1 ≤ x) && decide (x ≤ m) <;> rw [h1] at hb <;> cases h2 : decide (x = t2 + 1) <;> rw [h2] at hb <;> first | rfl | cases hb
          rw [z] at q
          exact s_ret (v := .bl false) ev_c fun H9 e9 => q H9 (e03.trans (e5.trans (e6.trans (e7.trans (e8.trans e9)))))
        · have z : missF m 0 rs ms = missF m (t2 + x) (rs.drop at2) (ms.drop (i + 1)) := by
            rw [eM, hd]
            cases h1 : decide (1 ≤ x) && decide (x ≤ m) <;> rw [h1] at hb <;> cases h2 : decide (x = t2 + 1) <;> rw [h2] at hb <;> first | rfl | cases hb
          exact s_aug (a := t2) (b := x) rfl (ev_var rfl) fun H9 e9 => ⟨⟨at2, t2 + x, _, rfl, hat2, z⟩, e5.trans (e6.trans (e7.trans (e8.trans e9)))⟩
    | some w' =>
      have hlt : at2 < rs.length := (List.getElem?_eq_some_iff.mp hw).1
      have hd := drop_at hw
      refine ⟨decide (w' < x), et_is (et_and (a := decide ((at2 : Int) < (rs.length : Int))) (et_test (ev_lt (ev_var rfl) (hlen H2 (Ex.refl _) _ rfl))) fun _ => et_test (ev_lt (hix H2 (Ex.refl _) at2 w' _ rfl rfl hw) (ev_var rfl))) ?_, fun hb H6 e6 => ?_, fun hb H6 e6 => ?_⟩
      · rw [decide_eq_true (by omega)]
        rfl
      · refine ⟨fun σ3 H7 => ∃ (at3 : Nat) (t3 : Int), σ3 = [some (.ref b), some (.ref a), some (.int m), some (.ref r), some (.int (at3 : Int)), some (.int t3), some (.int x)] ∧ at3 ≤ rs.length ∧ at3 = at2 + 1 ∧
            eat x t (rs.drop at') = eat x t3 (rs.drop at3) ∧ Ex H3 H7, fun σ3 H7 h => ?_, ?_⟩
        · obtain ⟨at3, t3, rfl, h1, h2, h3, h4⟩ := h
          exact ⟨rs.length - at3, by omega, at3, t3, rfl, h1, rfl, h3, h4⟩
        · refine q_aug (a := t2) (b := w') rfl (hix H6 e6 at2 w' _ rfl rfl hw) fun H7 e7 => ?_
          refine s_aug (a := (at2 : Int)) (b := 1) rfl ev_c fun H8 e8 => ⟨at2 + 1, t2 + w', ?_, hlt, rfl, ?_, e5.trans (e6.trans (e7.trans e8))⟩
          · show [some (V.ref b), some (.ref a), some (.int m), some (.ref r), some (.int ((at2 : Int) + 1)), some (.int (t2 + w')), some (.int x)] = _
            rw [show ((at2 + 1 : Nat) : Int) = (at2 : Int) + 1 from rfl]
          · rw [eE, hd]
            show (if w' < x then eat x (t2 + w') (rs.drop (at2 + 1)) else _) = _
            rw [if_pos (of_decide_eq_true hb)]
      · have hnb : ¬ w' < x := of_decide_eq_false hb
        have eE2 : eat x t (rs.drop at') = (t2, w' :: rs.drop (at2 + 1)) := by
          rw [eE, hd]
          exact if_neg hnb
        rw [eE2] at eM
        have eM : missF m 0 rs ms = (!(w' == x) && (decide (1 ≤ x) && decide (x ≤ m) && decide (x = t2 + 1)) && missF m (t2 + x) (w' :: rs.drop (at2 + 1)) (ms.drop (i + 1))) := eM
        refine q_when (b := decide (w' = x)) (et_is (et_and (a := decide ((at2 : Int) < (rs.length : Int))) (et_test (ev_lt (ev_var rfl) (hlen H6 e6 _ rfl))) fun _ => et_test (ev_eq (hix H6 e6 at2 w' _ rfl rfl hw) (ev_var rfl))) ?_) (fun hb2 H7 e7 => ?_) fun hb2 H7 e7 => ?_
        · rw [decide_eq_true (by omega)]
          rfl
        · have z : missF m 0 rs ms = false := by
            rw [eM, show (w' == x) = true from beq_iff_eq.mpr (of_decide_eq_true hb2)]
            rfl
          rw [z] at q
          exact s_ret (v := .bl false) ev_c fun H9 e9 => q H9 (e03.trans (e5.trans (e6.trans (e7.trans e9))))
        have eM : missF m 0 rs ms = (true && (decide (1 ≤ x) && decide (x ≤ m) && decide (x = t2 + 1)) && missF m (t2 + x) (w' :: rs.drop (at2 + 1)) (ms.drop (i + 1))) := by
          rw [eM, show (w' == x) = false from beq_eq_false_iff_ne.mpr (of_decide_eq_false hb2)]
          rfl
        refine q_when (et_or (et_not (et_B (ev_call (ea_cons (ev_var rfl) (ea_cons (ev_var rfl) ea_nil)) fun H e Q q E => ⟨x, m, rfl, q⟩))) fun _ => et_test (ev_ne (ev_var rfl) (ev_add (ev_var rfl) ev_c))) (fun hb H8 e8 => ?_) fun hb H8 e8 => ?_
        · have z : missF m 0 rs ms = false := by
            rw [eM]
            cases h1 : decide (1 ≤ x) && decide (x ≤ m) <;> rw [h1] at hb <;> cases h2 : decide (x = t2 + 1) <;> rw [h2] at hb <;> first | rfl | cases hb
          rw [z] at q
          exact s_ret (v := .bl false) ev_c fun H9 e9 => q H9 (e03.trans (e5.trans (e6.trans (e7.trans (e8.trans e9)))))
        · have z : missF m 0 rs ms = missF m (t2 + x) (rs.drop at2) (ms.drop (i + 1)) := by
            rw [eM, hd]
            cases h1 : decide (1 ≤ x) && decide (x ≤ m) <;> rw [h1] at hb <;> cases h2 : decide (x = t2 + 1) <;> rw [h2] at hb <;> first | rfl | cases hb
          exact s_aug (a := t2) (b := x) rfl (ev_var rfl) fun H9 e9 => ⟨⟨at2, t2 + x, _, rfl, hat2, z⟩, e5.trans (e6.trans (e7.trans (e8.trans e9)))⟩
  · obtain ⟨⟨at', t, y6, rfl, hat, eM⟩, e4⟩ := h
    rw [List.length_map, List.drop_length] at eM
    have eM : missF m 0 rs ms = true := eM
    rw [eM] at q
    exact s_ret (v := .bl true) ev_c fun H9 e9 => q H9 (e03.trans (e4.trans e9))
theorem ok_AllShows {f fGapOf : Addr} {fd fdGapOf : FuncData} {D : Ad}
    (O : OwnM K "shows" "All.shows" ["self", "weights", "most"] sAllShows f fd) (B : Blt mg)
    (GGapOf : FnOk P w K mg base CX0 1 fGapOf fdGapOf ["weights"] (spGapOf K)) (OGapOf : Own K mg "gap_of" ["weights"] sGapOf fGapOf fdGapOf) :
    FnOk P w K mg base CX0 2 f fd ["self", "weights", "most"] (spAllShows K D) := by
  refine O.F.ok scAllShows (fun vs H Q E h => ?_) (fun cdv A outer s H vs Q E hr h => ?_)
  · obtain ⟨x, a, ws, m, rfl, _⟩ := h
    rfl
  obtain ⟨x, a, ws, m, rfl, hS, q⟩ := h
  refine ⟨_, 
      (pss_one (ps_ret (pe_cmpR op_gt (pe_call GGapOf (hr.mono (by decide)) (by rfl) OGapOf.g OGapOf.F.kp OGapOf.b .nil pass0 (pa_cons (pv 1) pa_nil)) (pv 2) (nomark _)))), ?_⟩
  exact s_ret (ev_gt (ev_call (ea_cons (ev_var rfl) ea_nil) fun H3 e3 Q3 q3 E3 => ⟨a, ws, rfl, ex_l e3 hS, q3⟩) (ev_var rfl)) q
theorem ok_GapInit {f : Addr} {fd : FuncData} {D : Ad} {fGi : Addr} {fBi : Addr}
    (O : OwnM K "__init__" "Gap.__init__" ["self", "number"] sGapInit f fd) (B : Blt mg) (T : Ans K mg D fGi fBi) :
    FnOk P w K mg base CX0 1 f fd ["self", "number"] (spGapInit D) := by
  refine O.F.ok scGapInit (fun vs H Q E h => ?_) (fun cdv A outer s H vs Q E hr h => ?_)
  · obtain ⟨x, dx, n, rfl, _⟩ := h
    rfl
  obtain ⟨x, dx, n, rfl, hx, q⟩ := h
  refine ⟨_, 
      (pss_one (ps_fld (pv 0) (pv 1) rfl)), ?_⟩
  refine s_fld (ev_var rfl) (ev_var rfl) hx T.clG.cls T.nG (by decide) fun H1 e1 => ?_
  exact q _ upd_same fun b o e hb => by
    rw [upd_ne hb]
    exact e1 b o e
theorem ok_GapShows {f fIsFrom1To fIsLeftOut : Addr} {fd fdIsFrom1To fdIsLeftOut : FuncData} {D : Ad} {fGi : Addr} {fBi : Addr}
    (O : OwnM K "shows" "Gap.shows" ["self", "weights", "most"] sGapShows f fd) (B : Blt mg) (T : Ans K mg D fGi fBi)
    (GIsFrom1To : FnOk P w K mg base CX0 1 fIsFrom1To fdIsFrom1To ["number", "most"] spFrom) (OIsFrom1To : Own K mg "is_from_1_to" ["number", "most"] sIsFrom1To fIsFrom1To fdIsFrom1To)
    (GIsLeftOut : FnOk P w K mg base CX0 1 fIsLeftOut fdIsLeftOut ["number", "weights"] (spLeft K D)) (OIsLeftOut : Own K mg "is_left_out" ["number", "weights"] sIsLeftOut fIsLeftOut fdIsLeftOut) :
    FnOk P w K mg base CX0 2 f fd ["self", "weights", "most"] (spGapShows K D) := by
  refine O.F.ok scGapShows (fun vs H Q E h => ?_) (fun cdv A outer s H vs Q E hr h => ?_)
  · obtain ⟨x, a, n, ws, m, rfl, _⟩ := h
    rfl
  obtain ⟨x, a, n, ws, m, rfl, ⟨dx, hx⟩, hS, tb, q⟩ := h
  refine ⟨_, 
      (pss_one (ps_ret (pe_and (pe_call GIsFrom1To (hr.mono (by decide)) (by rfl) OIsFrom1To.g OIsFrom1To.F.kp OIsFrom1To.b .nil pass0 (pa_cons (pe_fld (pv 0) rfl) (pa_cons (pv 2) pa_nil))) (pe_one (pe_call GIsLeftOut (hr.mono (by decide)) (by rfl) OIsLeftOut.g OIsLeftOut.F.kp OIsLeftOut.b .nil pass0 (pa_cons (pe_fld (pv 0) rfl) (pa_cons (pv 1) pa_nil))))))), ?_⟩
  have num : Ev (tFld K (tVar 0) "number") [some (V.ref x), some (.ref a), some (.int m)] H (.int n) := ev_fld (ev_var rfl) hx T.clG.cls T.nG (fG_at n)
  exact s_ret (ev_andV (ev_call (ea_cons num (ea_cons (ev_var rfl) ea_nil)) fun H e Q q E => ⟨n, m, rfl, q⟩) fun _ =>
    ev_call (ea_cons num (ea_cons (ev_var rfl) ea_nil)) fun H3 e3 Q3 q3 E3 => ⟨n, a, ws, rfl, ex_l e3 hS, e3 _ _ tb, q3⟩) q
theorem ok_BestInit {f : Addr} {fd : FuncData} {D : Ad} {fGi : Addr} {fBi : Addr}
    (O : OwnM K "__init__" "Best.__init__" ["self", "added", "misses"] sBestInit f fd) (B : Blt mg) (T : Ans K mg D fGi fBi) :
    FnOk P w K mg base CX0 1 f fd ["self", "added", "misses"] (spBestInit K D) := by
  refine O.F.ok scBestInit (fun vs H Q E h => ?_) (fun cdv A outer s H vs Q E hr h => ?_)
  · obtain ⟨x, dx, a, b, as, ms, rfl, _⟩ := h
    rfl
  obtain ⟨x, dx, a, b, as, ms, rfl, hx, hA, hM, q⟩ := h
  refine ⟨_, 
      (pss_cons (ps_fld (pv 0) (pe_callTy (r := rListS K) (T := "list") call_list_of (by rfl) B.listT (by decide +kernel) (pa_cons (pv 1) pa_nil)) rfl)
      (pss_one (ps_fld (pv 0) (pe_callTy (r := rListS K) (T := "list") call_list_of (by rfl) B.listT (by decide +kernel) (pa_cons (pv 2) pa_nil)) rfl))), ?_⟩
  refine q_fldL (el_list (ev_var rfl) hA) (ev_var rfl) hx T.clB.cls T.nB1 (by decide) fun l1 H1 hl1 e1 h1 => ?_
  have nx1 : l1 ≠ x := (ne_of_none hx hl1).symm
  have stay : ∀ c xs, SqL K H c xs → SqL K (upd H1 x (.ins D.B dx (putF "added" (.ref l1) []))) c xs := fun c xs h => by
    rcases ex_l e1 h with (z | ⟨o, z⟩) | z
    · exact .inl (.inl (by rw [upd_ne (ne_of z (e1 _ _ hx) (fun q => by cases q))]; exact z))
    · exact .inl (.inr ⟨o, by rw [upd_ne (ne_of z (e1 _ _ hx) (fun q => by cases q))]; exact z⟩)
    · exact .inr z
  refine s_fldL (el_list (ev_var rfl) (stay b _ hM)) (ev_var rfl) upd_same T.clB.cls T.nB2 (by show 1 < 1000; decide) fun l2 H2 hl2 e2 h2 => ?_
  have nx2 : l2 ≠ x := fun z => by
    rw [z, upd_same] at hl2
    cases hl2
  have hl1' : (upd H1 x (.ins D.B dx (putF "added" (.ref l1) []))) l1 = some (.lst (as.map V.int)) := by
    rw [upd_ne nx1]
    exact h1
  have hl2H : H l2 = none := by
    rw [upd_ne nx2] at hl2
    exact fresh_back e1 hl2
  refine q _ l1 l2 hl1 hl2H (ne_of_none hl1' hl2) upd_same ?_ ?_ fun c o e hc => ?_
  · rw [upd_ne nx1]
    exact e2 _ _ hl1'
  · rw [upd_ne nx2]
    exact h2
  · rw [upd_ne hc]
    exact e2 c o (by rw [upd_ne hc]; exact e1 c o e)
theorem ok_BestShows {f fAreMisses fAreWeights fGapOf : Addr} {fd fdAreMisses fdAreWeights fdGapOf : FuncData} {D : Ad} {fGi : Addr} {fBi : Addr}
    (O : OwnM K "shows" "Best.shows" ["self", "weights", "most"] sBestShows f fd) (B : Blt mg) (T : Ans K mg D fGi fBi)
    (GAreMisses : FnOk P w K mg base CX0 2 fAreMisses fdAreMisses ["misses", "weights", "most"] (spAreM K)) (OAreMisses : Own K mg "are_misses" ["misses", "weights", "most"] sAreMisses fAreMisses fdAreMisses)
    (GAreWeights : FnOk P w K mg base CX0 1 fAreWeights fdAreWeights ["numbers"] (spAreW K D)) (OAreWeights : Own K mg "are_weights" ["numbers"] sAreWeights fAreWeights fdAreWeights)
    (GGapOf : FnOk P w K mg base CX0 1 fGapOf fdGapOf ["weights"] (spGapOf K)) (OGapOf : Own K mg "gap_of" ["weights"] sGapOf fGapOf fdGapOf) :
    FnOk P w K mg base CX0 3 f fd ["self", "weights", "most"] (spBestShows K D) := by
  refine O.F.ok scBestShows (fun vs H Q E h => ?_) (fun cdv A outer s H vs Q E hr h => ?_)
  · obtain ⟨x, a, as, ms, ws, m, rfl, _⟩ := h
    rfl
  obtain ⟨x, a, as, ms, ws, m, rfl, ⟨dx, l1, l2, hx, h1, h2⟩, hS, tb, hz, q⟩ := h
  have hSq : SqL K H a (ws.map V.int) := sq_of hS
  refine ⟨_, 
      (pss_one (ps_ret (pe_and (pe_cmpR op_eq (pe_callB (r := rLenS K) (id := "len") call_len_seq (by rfl) B.len (by decide +kernel) (pa_cons (pe_fld (pv 0) rfl) pa_nil)) (pe_callB (r := rLenS K) (id := "len") call_len_seq (by rfl) B.len (by decide +kernel) (pa_cons (pe_fld (pv 0) rfl) pa_nil)) (nomark _)) (pe_and (pe_call GAreWeights (hr.mono (by decide)) (by rfl) OAreWeights.g OAreWeights.F.kp OAreWeights.b .nil pass0 (pa_cons (pe_fld (pv 0) rfl) pa_nil)) (pe_and (pe_call GAreMisses (hr.mono (by decide)) (by rfl) OAreMisses.g OAreMisses.F.kp OAreMisses.b .nil pass0 (pa_cons (pe_fld (pv 0) rfl) (pa_cons (pv 1) (pa_cons (pv 2) pa_nil)))) (pe_one (pe_cmpR op_gt (pe_call GGapOf (hr.mono (by decide)) (by rfl) OGapOf.g OGapOf.F.kp OGapOf.b .nil pass0 (pa_cons (pe_op op_cat (pv 1) (pe_fld (pv 0) rfl)) pa_nil)) (pv 2) (nomark _)))))))), ?_⟩
  have add : ∀ H1, Ex H H1 → Ev (tFld K (tVar 0) "added") [some (V.ref x), some (.ref a), some (.int m)] H1 (.ref l1) := fun H1 e1 => ev_fld (ev_var rfl) (e1 _ _ hx) T.clB.cls T.nB1 (fB_added l1 l2)
  have mis : ∀ H1, Ex H H1 → Ev (tFld K (tVar 0) "misses") [some (V.ref x), some (.ref a), some (.int m)] H1 (.ref l2) := fun H1 e1 => ev_fld (ev_var rfl) (e1 _ _ hx) T.clB.cls T.nB2 (fB_misses l1 l2)
  have r0 := Ex.refl H
  refine s_ret (v := .bl (bestOk as ms ws m)) (ev_is (ev_andV (a := decide (as.length = ms.length)) (b := ((as.all fun n => decide (1 ≤ n)) && (missF m 0 (srt ws) ms && decide (m < gap (ws ++ as)))))
    (ev_is (ev_eq (ev_len (add H r0) (sq_of h1)) (ev_len (mis H r0) (sq_of h2))) (by
      rw [List.length_map, List.length_map]
      by_cases z : as.length = ms.length
      · rw [decide_eq_true z, decide_eq_true (by omega)]
      · rw [decide_eq_false z, decide_eq_false (by omega)])) fun _ =>
    ev_andV (ev_call (ea_cons (add H r0) ea_nil) fun H3 e3 Q3 q3 E3 => ⟨l1, as, rfl, sq_of (e3 _ _ h1), e3 _ _ tb, q3⟩) fun _ =>
    ev_andV (ev_call (ea_cons (mis H r0) (ea_cons (ev_var rfl) (ea_cons (ev_var rfl) ea_nil))) fun H3 e3 Q3 q3 E3 => ⟨l2, a, ms, ws, m, rfl, sq_of (e3 _ _ h2), ex_l e3 hSq, q3⟩) fun _ =>
    ev_gt (ev_callN (xs := (ws ++ as).map V.int) ?_ fun p H3 hp e3 => fun H4 e4 Q4 q4 E4 => ⟨p, _, rfl, sq_of (e4 p _ hp), q4⟩) (ev_var rfl)) ?_) q
  · refine el_is (fun H5 e5 Q5 q5 => ?_) (List.map_append ..).symm
    refine ev_var (v := .ref a) rfl H5 (Ex.refl _) _ fun H6 e6 => add H6 (e5.trans e6) H6 (Ex.refl _) _ fun H7 e7 => ?_
    have E7 := e5.trans (e6.trans e7)
    refine ⟨a, l1, _, _, rfl, rfl, E7 _ _ hS, E7 _ _ h1, sz_of (by rw [List.length_map, List.length_map]; omega), fun p hp => q5 p _ (fresh_back (e6.trans e7) hp) ((e6.trans e7).trans (Ex.new hp)) upd_same⟩
  · unfold bestOk
    rw [Bool.and_assoc, Bool.and_assoc]
theorem ok_CheckAsked {f fCheckSet fIsWhole : Addr} {fd fdCheckSet fdIsWhole : FuncData}
    (O : Own K mg "check_asked" ["weights", "most"] sCheckAsked f fd) (B : Blt mg)
    (GCheckSet : FnOk P w K mg base CX0 2 fCheckSet fdCheckSet ["weights"] (spCheck K)) (OCheckSet : Own K mg "check_set" ["weights"] sCheckSet fCheckSet fdCheckSet)
    (GIsWhole : FnOk P w K mg base CX0 1 fIsWhole fdIsWhole ["value"] spWhole) (OIsWhole : Own K mg "is_whole" ["value"] sIsWhole fIsWhole fdIsWhole) :
    FnOk P w K mg base CX0 3 f fd ["weights", "most"] (spCheckAsked K) := by
  refine O.F.ok scCheckAsked (fun vs H Q E h => ?_) (fun cdv A outer s H vs Q E hr h => ?_)
  · obtain ⟨a, ws, m, rfl, _⟩ := h
    rfl
  obtain ⟨a, ws, m, rfl, hS, pos, m0, q⟩ := h
  refine ⟨_, 
      (pss_cons (ps_expr (pe_call GCheckSet (hr.mono (by decide)) (by rfl) OCheckSet.g OCheckSet.F.kp OCheckSet.b .nil pass0 (pa_cons (pv 0) pa_nil)))
      (pss_one (ps_if (PW.pt (pw_or (pt_not (pt_val (pe_call GIsWhole (hr.mono (by decide)) (by rfl) OIsWhole.g OIsWhole.F.kp OIsWhole.b .nil pass0 (pa_cons (pv 1) pa_nil)))) (pw_or1 (pt_cmpR op_lt (pv 1) pe_int (nomark _))))) 
        (pss_one ps_never) pss_nil))), ?_⟩
  refine q_drop (ev_call (ea_cons (ev_var rfl) ea_nil) fun H3 e3 Q3 q3 E3 => ⟨a, ws, rfl, ex_l e3 hS, pos, q3⟩) fun H1 e1 => ?_
  refine s_when (b := false) (et_is (et_or (a := false) (b := decide (m < 0)) (et_not (a := true) (et_B (ev_call (ea_cons (ev_var rfl) ea_nil) fun H e Q q E => ⟨m, rfl, q⟩))) fun _ => et_test (ev_lt (ev_var rfl) ev_c)) ?_) (fun z => nomatch z) fun _ H2 e2 => q H2 (e1.trans e2)
  rw [decide_eq_false (by omega)]
  rfl
theorem ok_GapsToClose {f : Addr} {fd : FuncData}
    (O : Own K mg "gaps_to_close" ["weights", "most"] sGapsToClose f fd) (B : Blt mg) :
    FnOk P w K mg base CX0 1 f fd ["weights", "most"] (spGaps K) := by
  refine O.F.ok scGapsToClose (fun vs H Q E h => ?_) (fun cdv A outer s H vs Q E hr h => ?_)
  · obtain ⟨a, ws, m, rfl, _⟩ := h
    rfl
  obtain ⟨a, ws, m, rfl, hS, pos, hz, m0, mN, q⟩ := h
  refine ⟨_, 
      (pss_cons (ps_set (i := 2) scGapsToClose.nd rfl (Or.inl rfl) pe_int)
      (pss_cons (ps_set (i := 3) scGapsToClose.nd rfl (Or.inl rfl) (pe_lst pa_nil))
      (pss_cons (ps_for PassesOwn.never rfl (pi_list (pe_op op_cat (pe_callB (r := rSortedI K) (id := "sorted") cr_sortedI (by rfl) B.sorted (by decide +kernel) (pa_cons (pv 0) pa_nil)) (pe_lst (pa_cons (pe_op op_add (pv 1) pe_int) pa_nil)))) (pg_name (i := 4) scGapsToClose.nd rfl (Or.inl rfl)) 
        (pss_cons (ps_while PassesOwn.never (PW.pt (pw_and (pt_cmpR op_lt (pv 2) (pv 4) (nomark _)) (pw_and1 (pt_cmpR op_le (pv 2) (pv 1) (nomark _))))) 
          (pss_cons (ps_expr (pe_bm PySem.F.plainAttrs_list PySem.F.slot_list_append PySem.F.type_list_append mt_append (pv 3) (pa_cons (pv 2) pa_nil)))
          (pss_one (ps_aug (i := 2) scGapsToClose.nd rfl (Or.inl rfl) (pv 2) ip_add))))
        (pss_one (ps_aug (i := 2) scGapsToClose.nd rfl (Or.inl rfl) (pv 4) ip_add))))
      (pss_one (ps_ret (pv 3)))))), ?_⟩
  refine q_asg ev_c fun H1 e1 => ?_
  refine q_asgL (xs := []) (el_lst ea_nil (Nat.zero_le _)) fun c H2 hc e2 h2 => ?_
  have e02 := e1.trans e2
  have hcH : H c = none := fresh_back e1 hc
  have pl : Pos (srt ws ++ [m + 1]) := pos_app (pos_srt pos) (pos_one (by omega))
  have hsl : (srt ws).length = ws.length := (srt_perm ws).length_eq
  unfold gapsC at q
  refine q_forNLn (xs := (srt ws ++ [m + 1]).map V.int) (el_is (el_catNN ?_ (el_sorted (ex_l e02 hS) (ev_var rfl)) (el_lst (ea_cons (ev_add (ev_var rfl) ev_c) ea_nil) (by show 1 ≤ 100000; decide))) (by rw [List.map_append]; rfl))
    (fun p i σ' H' => (∃ (g : Int) (gs : List Int) (y4 : Option V), σ' = [some (.ref a), some (.int m), some (.int g), some (.ref c), y4] ∧ H' c = some (.lst (gs.map V.int)) ∧ 1 ≤ g ∧ 2 ^ gs.length ≤ g ∧ gs.length ≤ 1000 ∧
      gs ++ closeL 1000 m g ((srt ws ++ [m + 1]).drop i) = closeL 1000 m 1 (srt ws ++ [m + 1])) ∧ H' p = some (.lst ((srt ws ++ [m + 1]).map V.int)) ∧ p ≠ c ∧ Ex H H')
    (fun p H3 hp e3 h3 => ⟨⟨1, [], none, rfl, e3 c _ h2, by decide, by decide, Nat.zero_le _, rfl⟩, h3, (ne_of_none h2 hp).symm, e02.trans e3⟩) (fun p i σ' H' _ h => sq_of h.2.1) (fun p i x σ' H' hx h => ?_) fun p σ' H' h => ?_
  · rw [List.length_map, hsl]
    show ws.length + 1 ≤ 100000
    omega
  · obtain ⟨⟨g, gs, y4, rfl, hc', g1, g2, gl, eC⟩, hp', npc, eH⟩ := h
    obtain ⟨w', hw, rfl⟩ := vget hx
    have hw1 := pl w' (mem_at hw)
    rw [drop_at hw] at eC
    have eC : gs ++ ((fillF 1000 g w' m).1 ++ closeL 1000 m ((fillF 1000 g w' m).2 + w') ((srt ws ++ [m + 1]).drop (i + 1))) = closeL 1000 m 1 (srt ws ++ [m + 1]) := eC
    have big : m < g * 2 ^ 1000 := Int.lt_of_lt_of_le mN (le_mul1 g1 (Int.le_of_lt (Int.pow_pos (by omega))))
    refine q_while (fun k σ2 H2 => ∃ (g2 : Int) (gs2 : List Int), σ2 = [some (.ref a), some (.int m), some (.int g2), some (.ref c), some (.int w')] ∧ H2 c = some (.lst (gs2.map V.int)) ∧ 1 ≤ g2 ∧ 2 ^ gs2.length ≤ g2 ∧ gs2.length ≤ 1000 ∧ m < g2 * 2 ^ k ∧
      gs2 ++ (fillF k g2 w' m).1 = gs ++ (fillF 1000 g w' m).1 ∧ (fillF k g2 w' m).2 = (fillF 1000 g w' m).2 ∧ H2 p = some (.lst ((srt ws ++ [m + 1]).map V.int)) ∧ Ex H H2) 1000 ⟨g, gs, rfl, hc', g1, g2, gl, big, rfl, rfl, hp', eH⟩ fun k σ2 H2 h => ?_
    obtain ⟨gg, gs2, rfl, hc2, k1, k2, k3, k4, k5, k6, hp2, e4⟩ := h
    refine ⟨decide (gg < w') && decide (gg ≤ m), et_and (et_test (ev_lt (ev_var rfl) (ev_var rfl))) fun _ => et_test (ev_le (ev_var rfl) (ev_var rfl)), fun hb H5 e5 => ?_, fun hb H5 e5 => ?_⟩
    · rw [Bool.and_eq_true, decide_eq_true_eq, decide_eq_true_eq] at hb
      cases k with
      | zero =>
        rw [Int.pow_zero, Int.mul_one] at k4
        omega
      | succ k =>
        rw [fill_go hb] at k5 k6
        have lt1000 : gs2.length < 1000 := by
          by_cases z : gs2.length < 1000
          · exact z
          · have e : gs2.length = 1000 := by omega
            rw [e] at k2
            omega
        refine ⟨fun σ3 H6 => ∃ (g3 : Int) (gs3 : List Int), σ3 = [some (.ref a), some (.int m), some (.int g3), some (.ref c), some (.int w')] ∧ H6 c = some (.lst (gs3.map V.int)) ∧ 1 ≤ g3 ∧ 2 ^ gs3.length ≤ g3 ∧ gs3.length ≤ 1000 ∧ m < g3 * 2 ^ k ∧
          gs3 ++ (fillF k g3 w' m).1 = gs ++ (fillF 1000 g w' m).1 ∧ (fillF k g3 w' m).2 = (fillF 1000 g w' m).2 ∧ H6 p = some (.lst ((srt ws ++ [m + 1]).map V.int)) ∧ Ex H H6, fun σ3 H6 h => ⟨k, Nat.lt_succ_self k, h⟩, ?_⟩
        refine q_app (e5 c _ hc2) (ev_var rfl) (ev_var rfl) (by rw [List.length_map]; omega) fun H6 e6 => ?_
        refine s_aug (a := gg) (b := gg) rfl (ev_var rfl) fun H7 e7 => ⟨gg + gg, gs2 ++ [gg], rfl, ?_, by omega, ?_, by rw [List.length_append]; show gs2.length + 1 ≤ 1000; omega, ?_, ?_, k6, ?_, (Ex.mut (e4.trans (e5.trans e6)) hcH).trans e7⟩
        · rw [List.map_append]
          exact e7 c _ upd_same
        · rw [List.length_append]
          show (2 : Int) ^ (gs2.length + 1) ≤ gg + gg
          rw [Int.pow_succ]
          omega
        · rw [show (gg + gg) * 2 ^ k = gg * 2 ^ (k + 1) by
            rw [Int.pow_succ, Int.mul_comm (2 ^ k) 2, ← Int.mul_assoc, show gg * 2 = gg + gg by omega]]
          exact k4
        · rw [List.append_assoc]
          exact k5
        · exact e7 p _ (by rw [upd_ne npc]; exact e6 p _ (e5 p _ hp2))
    · have hb : ¬ (gg < w' ∧ gg ≤ m) := fun z => by
        rw [decide_eq_true z.1, decide_eq_true z.2] at hb
        cases hb
      rw [fill_stop hb] at k5 k6
      have k5 : gs2 ++ [] = gs ++ (fillF 1000 g w' m).1 := k5
      rw [List.append_nil] at k5
      have k6 : gg = (fillF 1000 g w' m).2 := k6
      refine s_aug (a := gg) (b := w') rfl (ev_var rfl) fun H6 e6 => ⟨⟨gg + w', gs2, _, rfl, e6 c _ (e5 c _ hc2), by omega, by omega, k3, ?_⟩, e6 p _ (e5 p _ hp2), npc, e4.trans (e5.trans e6)⟩
      rw [k5, k6, List.append_assoc]
      exact eC
  · obtain ⟨⟨g, gs, y4, rfl, hc', g1, g2, gl, eC⟩, hp', npc, eH⟩ := h
    rw [List.length_map, List.drop_length] at eC
    have eC : gs ++ [] = closeL 1000 m 1 (srt ws ++ [m + 1]) := eC
    rw [List.append_nil] at eC
    exact s_ret (v := .ref c) (ev_var rfl) fun H3 e3 => q c H3 hcH (eH.trans e3) (by rw [← eC]; exact e3 c _ hc')
theorem ok_Told {f fGapInit fCheckAsked fGapOf : Addr} {fd fdGapInit fdCheckAsked fdGapOf : FuncData} {D : Ad} {fBi : Addr}
    (O : Own K mg "told" ["weights", "most"] sTold f fd) (B : Blt mg) (T : Ans K mg D fGapInit fBi)
    (GGapInit : FnOk P w K mg base CX0 1 fGapInit fdGapInit ["self", "number"] (spGapInit D)) (OGapInit : OwnM K "__init__" "Gap.__init__" ["self", "number"] sGapInit fGapInit fdGapInit)
    (GCheckAsked : FnOk P w K mg base CX0 3 fCheckAsked fdCheckAsked ["weights", "most"] (spCheckAsked K)) (OCheckAsked : Own K mg "check_asked" ["weights", "most"] sCheckAsked fCheckAsked fdCheckAsked)
    (GGapOf : FnOk P w K mg base CX0 1 fGapOf fdGapOf ["weights"] (spGapOf K)) (OGapOf : Own K mg "gap_of" ["weights"] sGapOf fGapOf fdGapOf) :
    FnOk P w K mg base CX0 4 f fd ["weights", "most"] (spTold K D) := by
  refine O.F.ok scTold (fun vs H Q E h => ?_) (fun cdv A outer s H vs Q E hr h => ?_)
  · obtain ⟨a, ws, m, rfl, _⟩ := h
    rfl
  obtain ⟨a, ws, m, rfl, hS, pos, m0, q⟩ := h
  refine ⟨_, 
      (pss_cons (ps_expr (pe_call GCheckAsked (hr.mono (by decide)) (by rfl) OCheckAsked.g OCheckAsked.F.kp OCheckAsked.b .nil pass0 (pa_cons (pv 0) (pa_cons (pv 1) pa_nil))))
      (pss_cons (ps_set (i := 2) scTold.nd rfl (Or.inl rfl) (pe_call GGapOf (hr.mono (by decide)) (by rfl) OGapOf.g OGapOf.F.kp OGapOf.b .nil pass0 (pa_cons (pv 0) pa_nil)))
      (pss_cons (ps_if (pt_cmpR op_gt (pv 2) (pv 1) (nomark _)) 
        (pss_one (ps_ret (pe_bare T.mkA (by rfl) T.mgA))) pss_nil)
      (pss_one (ps_ret (pe_make T.mkG GGapInit (hr.mono (by decide)) (by rfl) T.mgG OGapInit.b .nil pass0 (pa_cons (pv 2) pa_nil))))))), ?_⟩
  refine q_drop (ev_call (ea_cons (ev_var rfl) (ea_cons (ev_var rfl) ea_nil)) fun H3 e3 Q3 q3 E3 => ⟨a, ws, m, rfl, ex_l e3 hS, pos, m0, q3⟩) fun H1 e1 => ?_
  refine q_asg (ev_call (ea_cons (ev_var rfl) ea_nil) fun H3 e3 Q3 q3 E3 => ⟨a, ws, rfl, ex_l (e1.trans e3) hS, q3⟩) fun H2 e2 => ?_
  refine q_when (et_test (ev_gt (i := gap ws) (ev_var rfl) (ev_var rfl))) (fun hb H3 e3 => ?_) fun hb H3 e3 => ?_
  · refine s_retN en_bare fun p H4 hp e4 h4 => q p H4 (fresh_back (e1.trans (e2.trans e3)) hp) (e1.trans (e2.trans (e3.trans e4))) ?_
    show KAt D H4 p (tellO ws m)
    unfold tellO
    rw [if_pos (of_decide_eq_true hb)]
    exact h4
  · refine s_retN (W := fun p H4 => GapAt D H4 p (gap ws)) (en_make (vs := [.int (gap ws)]) (ea_cons (ev_var rfl) ea_nil) fun H4 x dx e4 hx hd ne Q4 q4 => ?_) fun p H4 hp e4 h4 => q p H4 (fresh_back (e1.trans (e2.trans e3)) hp) (e1.trans (e2.trans (e3.trans e4))) ?_
    · refine ⟨x, dx, gap ws, rfl, upd_same, fun H' h1 h2 => q4 H' (fun b o e => ?_) ⟨dx, h1⟩⟩
      have nb : b ≠ x := ne_of_none e hx
      exact h2 b o (by rw [upd_ne nb, upd_ne (ne_of_none e hd)]; exact e) nb
    · show KAt D H4 p (tellO ws m)
      unfold tellO
      rw [if_neg (of_decide_eq_false hb)]
      exact h4
theorem ok_Fewest {f fBestInit fCheckAsked fGapsToClose : Addr} {fd fdBestInit fdCheckAsked fdGapsToClose : FuncData} {D : Ad} {fGi : Addr}
    (O : Own K mg "fewest" ["weights", "most"] sFewest f fd) (B : Blt mg) (T : Ans K mg D fGi fBestInit)
    (GBestInit : FnOk P w K mg base CX0 1 fBestInit fdBestInit ["self", "added", "misses"] (spBestInit K D)) (OBestInit : OwnM K "__init__" "Best.__init__" ["self", "added", "misses"] sBestInit fBestInit fdBestInit)
    (GCheckAsked : FnOk P w K mg base CX0 3 fCheckAsked fdCheckAsked ["weights", "most"] (spCheckAsked K)) (OCheckAsked : Own K mg "check_asked" ["weights", "most"] sCheckAsked fCheckAsked fdCheckAsked)
    (GGapsToClose : FnOk P w K mg base CX0 1 fGapsToClose fdGapsToClose ["weights", "most"] (spGaps K)) (OGapsToClose : Own K mg "gaps_to_close" ["weights", "most"] sGapsToClose fGapsToClose fdGapsToClose) :
    FnOk P w K mg base CX0 4 f fd ["weights", "most"] (spFewest K D) := by
  refine O.F.ok scFewest (fun vs H Q E h => ?_) (fun cdv A outer s H vs Q E hr h => ?_)
  · obtain ⟨a, ws, m, rfl, _⟩ := h
    rfl
  obtain ⟨a, ws, m, rfl, hS, pos, hz, m0, mN, q⟩ := h
  refine ⟨_, 
      (pss_cons (ps_expr (pe_call GCheckAsked (hr.mono (by decide)) (by rfl) OCheckAsked.g OCheckAsked.F.kp OCheckAsked.b .nil pass0 (pa_cons (pv 0) (pa_cons (pv 1) pa_nil))))
      (pss_cons (ps_set (i := 2) scFewest.nd rfl (Or.inl rfl) (pe_call GGapsToClose (hr.mono (by decide)) (by rfl) OGapsToClose.g OGapsToClose.F.kp OGapsToClose.b .nil pass0 (pa_cons (pv 0) (pa_cons (pv 1) pa_nil))))
      (pss_one (ps_ret (pe_make T.mkB GBestInit (hr.mono (by decide)) (by rfl) T.mgB OBestInit.b .nil pass0 (pa_cons (pv 2) (pa_cons (pv 2) pa_nil))))))), ?_⟩
  refine q_drop (ev_call (ea_cons (ev_var rfl) (ea_cons (ev_var rfl) ea_nil)) fun H3 e3 Q3 q3 E3 => ⟨a, ws, m, rfl, ex_l e3 hS, pos, m0, q3⟩) fun H1 e1 => ?_
  refine q_asgL (el_call (ea_cons (ev_var rfl) (ea_cons (ev_var rfl) ea_nil)) fun H3 e3 Q3 q3 E3 => ⟨a, ws, m, rfl, ex_l (e1.trans e3) hS, pos, hz, m0, mN, q3⟩) fun c H2 hc e2 h2 => ?_
  have e02 := e1.trans e2
  refine s_retN (W := BestNew D H (gapsC ws m) (gapsC ws m)) (en_make (vs := [.ref c, .ref c]) (ea_cons (ev_var rfl) (ea_cons (ev_var rfl) ea_nil)) fun H4 x dx e4 hx hd ne Q4 q4 => ?_) fun p H4 hp e4 h4 => q p H4 (fresh_back e02 hp) (e02.trans e4) h4
  have hc4 : (upd (upd H4 dx (.own x)) x (.ins D.B dx [])) c = some (.lst ((gapsC ws m).map V.int)) := by
    have z := e4 c _ h2
    rw [upd_ne (ne_of_none z hx), upd_ne (ne_of_none z hd)]
    exact z
  have back : ∀ l, (upd (upd H4 dx (.own x)) x (.ins D.B dx [])) l = none → H l = none := fun l hl => by
    have n1 : l ≠ x := fun z => by
      rw [z, upd_same] at hl
      cases hl
    rw [upd_ne n1] at hl
    have n2 : l ≠ dx := fun z => by
      rw [z, upd_same] at hl
      cases hl
    rw [upd_ne n2] at hl
    exact fresh_back (e02.trans e4) hl
  refine ⟨x, dx, c, c, _, _, rfl, upd_same, sq_of hc4, sq_of hc4, fun H' l1 l2 k1 k2 k3 k4 k5 k6 k7 => q4 H' (fun b o e => ?_) ⟨dx, l1, l2, k4, k5, k6, back l1 k1, back l2 k2, k3⟩⟩
  have nb : b ≠ x := ne_of_none e hx
  exact k7 b o (by rw [upd_ne nb, upd_ne (ne_of_none e hd)]; exact e) nb
theorem shows_ok {D : Ad} {fGi fBi fA fG' fB' : Addr} {fdA fdG fdB : FuncData} (T : Ans K mg D fGi fBi) (mA : Meth K D.A "shows" fA) (mG : Meth K D.G "shows" fG') (mB : Meth K D.B "shows" fB')
    (GA : FnOk P w K mg base CX0 2 fA fdA ["self", "weights", "most"] (spAllShows K D)) (bA : Binds K fdA ["self", "weights", "most"] [])
    (GG : FnOk P w K mg base CX0 2 fG' fdG ["self", "weights", "most"] (spGapShows K D)) (bG : Binds K fdG ["self", "weights", "most"] [])
    (GB : FnOk P w K mg base CX0 3 fB' fdB ["self", "weights", "most"] (spBestShows K D)) (bB : Binds K fdB ["self", "weights", "most"] []) : MtOk P w K mg base 3 "shows" (ShowsMt K D) := by
  rintro C sp (⟨rfl, rfl⟩ | ⟨rfl, rfl⟩ | ⟨rfl, rfl⟩)
  · exact ⟨T.clA.cls, _, _, _, mA, GA.mono (by decide), bA⟩
  · exact ⟨T.clG.cls, _, _, _, mG, GG.mono (by decide), bG⟩
  · exact ⟨T.clB.cls, _, _, _, mB, GB, bB⟩
end
end Wt
/-! _law_gap -/
namespace Wt
open PySem PySem.Spec PyProof.Rows L2 Evl
section
variable {P : Program} {w : World} {K : PySem.W.Frag} {mg : Str → Option Value} {base : Heap}
theorem ok_LawGap {f : Addr} {fd : FuncData} (O : Own K mg "_law_gap" ["_law_weights"] sLawGap f fd) (B : Blt mg) : FnOk P w K mg base CX0 1 f fd ["_law_weights"] (spGapOf K) := by
  refine O.F.ok scLawGap (fun vs H Q E h => ?_) (fun cdv A outer s H vs Q E hr h => ?_)
  · obtain ⟨a, ws, rfl, _⟩ := h
    rfl
  obtain ⟨a, ws, rfl, hS, q⟩ := h
  refine ⟨_, 
      (pss_cons (ps_set (i := 1) scLawGap.nd rfl (Or.inl rfl) pe_int)
      (pss_cons (ps_for PassesOwn.never rfl (pi_list (pe_callB (r := rSortedI K) (id := "sorted") cr_sortedI (by rfl) B.sorted (by decide +kernel) (pa_cons (pv 0) pa_nil))) (pg_name (i := 2) scLawGap.nd rfl (Or.inl rfl)) 
        (pss_cons (ps_if (pt_cmpR op_gt (pv 2) (pe_op op_add (pv 1) pe_int) (nomark _)) 
          (pss_one (ps_ret (pe_op op_add (pv 1) pe_int))) pss_nil)
        (pss_one (ps_set (i := 1) scLawGap.nd rfl (Or.inl rfl) (pe_op op_add (pv 1) (pv 2))))))
      (pss_one (ps_ret (pe_op op_add (pv 1) pe_int))))), ?_⟩
  refine q_asg ev_c fun H1 e1 => ?_
  refine q_forNLn (el_sorted (ex_l e1 hS) (ev_var rfl)) (fun p i σ' H' => (∃ g y2, σ' = [some (.ref a), some (.int g), y2] ∧ gap ws = gapF (g + 1) ((srt ws).drop i)) ∧ H' p = some (.lst ((srt ws).map V.int)) ∧ Ex H H')
    (fun p H2 hp e2 h2 => ⟨⟨0, none, rfl, rfl⟩, h2, e1.trans e2⟩) (fun p i σ' H' _ h => sq_of h.2.1) (fun p i x σ' H' hx h => ?_) fun p σ' H' h => ?_
  · obtain ⟨⟨g, y2, rfl, eg⟩, hp, e2⟩ := h
    obtain ⟨n, hn, rfl⟩ := vget hx
    rw [drop_at hn] at eg
    have eg : gap ws = if g + 1 < n then g + 1 else gapF (g + 1 + n) ((srt ws).drop (i + 1)) := eg
    refine q_when (et_test (ev_gt (ev_var rfl) (ev_add (ev_var rfl) ev_c))) (fun hb H3 e3 => ?_) fun hb H3 e3 => ?_
    · rw [if_pos (of_decide_eq_true hb)] at eg
      exact s_ret (ev_add (i := g) (ev_var rfl) ev_c) fun H4 e4 => eg ▸ q H4 (e2.trans (e3.trans e4))
    · rw [if_neg (of_decide_eq_false hb), show g + 1 + n = g + n + 1 by omega] at eg
      exact s_asg (ev_add (i := g) (j := n) (ev_var rfl) (ev_var rfl)) fun H4 e4 => ⟨⟨g + n, _, rfl, eg⟩, e4 p _ (e3 p _ hp), e2.trans (e3.trans e4)⟩
  · obtain ⟨⟨g, y2, rfl, eg⟩, hp, e2⟩ := h
    rw [List.length_map, List.drop_length] at eg
    have eg : gap ws = g + 1 := eg
    exact s_ret (ev_add (i := g) (ev_var rfl) ev_c) fun H4 e4 => eg ▸ q H4 (e2.trans e4)
end
end Wt
/-! _law_set -/
namespace Wt
open PySem PySem.Spec PyProof.Rows L2 Evl
section
variable {P : Program} {w : World} {K : PySem.W.Frag} {mg : Str → Option Value} {base : Heap}
/-- some weights or other, of the number of the cells or so -/
def spLawSet (K : PySem.W.Frag) : Sp := fun vs H Q _ => ∃ (a : Addr) (ns : List Int), vs = [.ref a] ∧ SqL K H a (ns.map V.int) ∧ ns.length ≤ 63 ∧ ∀ ws : List Int, Pos ws → ws.length ≤ 200 → (∀ w ∈ ws, w ≤ 2 ^ 200) → RetL (ws.map V.int) H Q
theorem pos_snoc {fs : List Int} {wt : Int} (p : Pos fs) (h : 1 ≤ wt) : Pos (fs ++ [wt]) := pos_app p (pos_one h)
/-- no weight is greater than this, before the hundred -/
def bigW : Int := 2 ^ 63 * 10 ^ 30
theorem grow {wh wt : Int} {i : Nat} (h : wh + 10 ^ 30 ≤ 2 ^ i * 10 ^ 30) (h2 : wt ≤ wh + 10 ^ 30) (hi : i < 63) : wh + wt + 10 ^ 30 ≤ 2 ^ (i + 1) * 10 ^ 30 ∧ wt ≤ bigW := by
  have e : (2 : Int) ^ (i + 1) * 10 ^ 30 = 2 * (2 ^ i * 10 ^ 30) := by
    rw [Int.pow_succ, Int.mul_comm (2 ^ i) 2, Int.mul_assoc]
  have m : (2 : Int) ^ i ≤ 2 ^ 63 := by
    have := Nat.pow_le_pow_right (show 0 < 2 by decide) (show i ≤ 63 by omega)
    exact_mod_cast this
  have m2 : (2 : Int) ^ i * 10 ^ 30 ≤ 2 ^ 63 * 10 ^ 30 := Int.mul_le_mul_of_nonneg_right m (by decide)
  unfold bigW
  generalize (2 : Int) ^ i * 10 ^ 30 = y at *
  generalize (2 : Int) ^ 63 * 10 ^ 30 = z at *
  omega
theorem ok_LawSet {f : Addr} {fd : FuncData} (O : Own K mg "_law_set" ["_law_script"] sLawSet f fd) (B : Blt mg) : FnOk P w K mg base CX0 1 f fd ["_law_script"] (spLawSet K) := by
  refine O.F.ok scLawSet (fun vs H Q E h => ?_) (fun cdv A outer s H vs Q E hr h => ?_)
  · obtain ⟨a, ns, rfl, _⟩ := h
    rfl
  obtain ⟨a, ns, rfl, hS, hz, q⟩ := h
  refine ⟨_, 
      (pss_cons (ps_set (i := 1) scLawSet.nd rfl (Or.inl rfl) (pe_callB (r := rSum K) (id := "sum") (cr_sum rfl) (by rfl) B.sum (by decide +kernel) (pa_cons (pv 0) pa_nil)))
      (pss_cons (ps_set (i := 2) scLawSet.nd rfl (Or.inl rfl) (pe_op op_mod (pe_op op_fdivW (pv 1) pe_int) pe_int))
      (pss_cons (ps_set (i := 3) scLawSet.nd rfl (Or.inr rfl) (pe_lst pa_nil))
      (pss_cons (ps_set (i := 4) scLawSet.nd rfl (Or.inl rfl) pe_int)
      (pss_cons (ps_for PassesOwn.never rfl (pi_list (pv 0)) (pg_name (i := 5) scLawSet.nd rfl (Or.inl rfl)) 
        (pss_cut (ps_if (pt_cmpR op_lt (pv 2) pe_int (nomark _)) 
          (pss_one (ps_set (i := 6) scLawSet.nd rfl (Or.inl rfl) (pe_op op_add pe_int (pe_op op_mod (pv 5) (pe_ix (r := rIxT K) ix_tup (pe_tup (pa_cons pe_int (pa_cons (pe_op op_pow pe_int pe_int) pa_nil))) (pv 2) (fun _ _ => rfl)))))) 
          (pss_one (ps_if (pt_cmpR op_eq (pv 2) pe_int (nomark _)) 
            (pss_one (ps_set (i := 6) scLawSet.nd rfl (Or.inl rfl) (pe_op op_add pe_int (pe_op op_mod (pv 5) pe_int)))) 
            (pss_cons (ps_set (i := 6) scLawSet.nd rfl (Or.inl rfl) (pe_op op_add pe_int (pe_op op_mod (pv 5) (pe_op op_add (pv 4) pe_int))))
            (pss_one (ps_if (PW.pt (pw_and (pt_cmpR op_eq (pv 2) pe_int (nomark _)) (pw_and1 (pt_cmpR op_eq (pe_op op_mod (pe_op op_fdivW (pv 5) pe_int) pe_int) pe_int (nomark _))))) 
              (pss_one (ps_set (i := 6) scLawSet.nd rfl (Or.inl rfl) (pe_op op_add (pe_op op_add (pv 4) pe_int) (pe_op op_mod (pe_op op_fdivW (pv 5) pe_int) pe_int)))) pss_nil))))))
        (pss_cons (ps_expr (pe_bm PySem.F.plainAttrs_list PySem.F.slot_list_append PySem.F.type_list_append mt_append (pv 3) (pa_cons (pv 6) pa_nil)))
        (pss_one (ps_set (i := 4) scLawSet.nd rfl (Or.inl rfl) (pe_op op_add (pv 4) (pv 6)))))))
      (pss_cut (ps_if (pt_cmpR op_eq (pe_op op_mod (pe_op op_fdivW (pv 1) pe_int) pe_int) pe_int (nomark _)) 
        (pss_one (ps_set (i := 3) scLawSet.nd rfl (Or.inr rfl) (pe_revL (pv 3)))) pss_nil)
      (pss_cut (ps_if (PW.pt (pw_and (pt_cmpR op_eq (pe_op op_mod (pe_op op_fdivW (pv 1) pe_int) pe_int) pe_int (nomark _)) (pw_and1 (pt_cmpR (r := rNeD K) (op_neD hr.units) (pv 3) (pe_lst pa_nil) (nomark _))))) 
        (pss_one (ps_set (i := 3) scLawSet.nd rfl (Or.inr rfl) (pe_lc (own := [("_law_at", 7)]) (g := gName 7) (tt := tYes) rfl scLawSet.nd (pi_range1 (by rfl) B.range (pa_cons (pe_op op_add pe_int (pe_op op_mod (pv 1) pe_int)) pa_nil)) (blkOk_by (N := nLawSet) (sc := defScope sLawSet) (by decide +kernel)) (fun _ _ _ _ _ => (pg_name (i := 7) scLawSet.nd rfl (Or.inl rfl))) (fun _ _ _ _ _ => pts_nil) (fun _ _ _ _ _ => (pe_op op_add (pe_ix (r := rIxL K) ix_list (pv 3) (pe_op op_mod (pe_op op_mulX (pv 7) (pv 7)) (pe_callB (r := rLenS K) (id := "len") call_len_seq (by rfl) B.len (by decide +kernel) (pa_cons (pv 3) pa_nil))) (fun _ _ => rfl)) (pe_op op_fdivW (pv 7) (pe_callB (r := rLenS K) (id := "len") call_len_seq (by rfl) B.len (by decide +kernel) (pa_cons (pv 3) pa_nil)))))))) pss_nil)
      (pss_one (ps_ret (pv 3)))))))))), ?_⟩
  refine q_asg (ev_sum hS (ev_var rfl)) fun H1 e1 => ?_
  refine q_asg (ev_mod (ev_div (ev_var rfl) ev_c (div_lit (by decide) (by decide))) ev_c (by decide)) fun H2 e2 => ?_
  have k0 : 0 ≤ ns.sum / 7 % 5 := Int.emod_nonneg _ (by decide)
  generalize ns.sum / 7 % 5 = kd at k0 ⊢
  generalize hm : ns.sum = mx
  refine q_asgL (xs := []) (el_lst ea_nil (Nat.zero_le _)) fun c H3 hc e3 h3 => ?_
  refine q_asg ev_c fun H4 e4 => ?_
  have eb : Ex H H4 := e1.trans (e2.trans (e3.trans e4))
  have hcH : H c = none := fresh_back (e1.trans e2) hc
  -- the weights, cell by cell
  refine q_forLn (ev_var rfl) (ex_l eb hS) (fun i σ' H' => (∃ (fs : List Int) (wh : Int) (y5 y6 : Option V), σ' = [some (.ref a), some (.int mx), some (.int kd), some (.ref c), some (.int wh), y5, y6, none] ∧ H' c = some (.lst (fs.map V.int)) ∧ Pos fs ∧ fs.length = i ∧ 0 ≤ wh ∧ wh + 10 ^ 30 ≤ 2 ^ i * 10 ^ 30 ∧ ∀ w ∈ fs, w ≤ bigW) ∧ Ex H H')
    (fun H5 e5 => ⟨⟨[], 0, none, none, rfl, e5 c _ (e4 c _ h3), (fun _ h => nomatch h), rfl, Int.le_refl 0, by decide, fun _ h => nomatch h⟩, eb.trans e5⟩) (fun i σ' H' _ h => ex_l h.2 hS) (fun i x σ' H' hx h => ?_) fun σ' H' h => ?_
  · obtain ⟨⟨fs, wh, y5, y6, rfl, hc', pos, hl, w0, wB, fB⟩, eH⟩ := h
    obtain ⟨cell, hcell, rfl⟩ := vget hx
    have hi : i < 63 := by
      have := (List.getElem?_eq_some_iff.mp hcell).1
      omega
    refine q_cut (M := fun σ2 H5 => ∃ wt : Int, 1 ≤ wt ∧ wt ≤ wh + 10 ^ 30 ∧ σ2 = [some (.ref a), some (.int mx), some (.int kd), some (.ref c), some (.int wh), some (.int cell), some (.int wt), none] ∧ Ex H' H5) ?_ fun σ2 H5 hM => ?_
    · refine s_if (et_test (ev_lt (ev_var rfl) ev_c)) (fun hb H5 e5 => ?_) fun hb H5 e5 => ?_
      · have kl : kd < 2 := of_decide_eq_true hb
        obtain ⟨m, m0, mB, hm2⟩ : ∃ m : Int, 0 < m ∧ m ≤ 10 ^ 30 ∧ atI [V.int 6, V.int (10 ^ (30 : Int).toNat)] kd = some (.int m) := by
          rcases (show kd = ((0 : Nat) : Int) ∨ kd = ((1 : Nat) : Int) by omega) with e | e
          · exact ⟨6, by decide, by decide, at_of e rfl⟩
          · exact ⟨10 ^ (30 : Int).toNat, by decide, by decide, at_of e rfl⟩
        refine s_asg (ev_add ev_c (ev_mod (ev_var rfl) (ev_ixU (eu_tup (ea_cons ev_c (ea_cons (ev_op ev_c ev_c (rv_I ⟨by decide, by decide, by decide⟩)) ea_nil)) (by decide)) (ev_var rfl) hm2) m0)) fun H6 e6 => ?_
        have := Int.emod_nonneg cell (show m ≠ 0 by omega)
        have := Int.emod_lt_of_pos cell m0
        exact ⟨1 + cell % m, by omega, by omega, rfl, e5.trans e6⟩
      · refine s_if (et_test (ev_eq (ev_var rfl) ev_c)) (fun hb2 H6 e6 => ?_) fun hb2 H6 e6 => ?_
        · refine s_asg (ev_add ev_c (ev_mod (ev_var rfl) ev_c (by decide))) fun H7 e7 => ?_
          have := Int.emod_nonneg cell (show (60 : Int) ≠ 0 by decide)
          have := Int.emod_lt_of_pos cell (show (0 : Int) < 60 by decide)
          exact ⟨1 + cell % 60, by omega, by omega, rfl, e5.trans (e6.trans e7)⟩
        · refine q_asg (ev_add ev_c (ev_mod (ev_var rfl) (ev_add (ev_var rfl) ev_c) (show 0 < wh + 1 by omega))) fun H7 e7 => ?_
          have hm1 := Int.emod_nonneg cell (show wh + 1 ≠ 0 by omega)
          have hm2 := Int.emod_lt_of_pos cell (show 0 < wh + 1 by omega)
          have hm5 := Int.emod_lt_of_pos (cell / 63) (show (0 : Int) < 4 by decide)
          have hm4 := Int.emod_nonneg (cell / 63) (show (4 : Int) ≠ 0 by decide)
          refine s_when (et_and (et_test (ev_eq (ev_var rfl) ev_c)) fun _ => et_test (ev_eq (ev_mod (ev_div (ev_var rfl) ev_c (div_lit (by decide) (by decide))) ev_c (by decide)) ev_c)) (fun _ H8 e8 => ?_) fun _ H8 e8 => ?_
          · exact s_asg (ev_add (ev_add (ev_var rfl) ev_c) (ev_mod (ev_div (ev_var rfl) ev_c (div_lit (by decide) (by decide))) ev_c (by decide))) fun H9 e9 => ⟨wh + 2 + cell / 63 % 4, by omega, by omega, rfl, e5.trans (e6.trans (e7.trans (e8.trans e9)))⟩
          · exact ⟨1 + cell % (wh + 1), by omega, by omega, rfl, e5.trans (e6.trans (e7.trans e8))⟩
    · obtain ⟨wt, w1, wU, rfl, e5⟩ := hM
      have gr := grow wB wU hi
      refine q_app (e5 c _ hc') (ev_var rfl) (ev_var rfl) (by rw [List.length_map]; omega) fun H6 e6 => ?_
      refine s_asg (ev_add (ev_var rfl) (ev_var rfl)) fun H7 e7 => ?_
      refine ⟨⟨fs ++ [wt], wh + wt, _, _, rfl, ?_, pos_snoc pos w1, ?_, by omega, gr.1, fun z hz2 => ?_⟩, (Ex.mut (eH.trans (e5.trans e6)) hcH).trans e7⟩
      · rw [List.map_append]
        exact e7 c _ upd_same
      · rw [List.length_append, hl]
        rfl
      · rcases List.mem_append.mp hz2 with q2 | q2
        · exact fB z q2
        · rw [List.mem_singleton.mp q2]
          exact gr.2
  · obtain ⟨⟨fs, wh, y5, y6, rfl, hc', pos, hl, w0, wB, fB⟩, eH⟩ := h
    rw [List.length_map] at hl
    -- turned round, or not
    refine q_cut (M := fun σ2 H5 => ∃ (fs2 : List Int) (c2 : Addr), σ2 = [some (.ref a), some (.int mx), some (.int kd), some (.ref c2), some (.int wh), y5, y6, none] ∧ H c2 = none ∧ H5 c2 = some (.lst (fs2.map V.int)) ∧ Pos fs2 ∧ fs2.length ≤ 63 ∧ (∀ w ∈ fs2, w ≤ bigW) ∧ Ex H H5) ?_ fun σ2 H5 hM => ?_
    · refine s_when (et_test (ev_eq (ev_mod (ev_div (ev_var rfl) ev_c (div_lit (by decide) (by decide))) ev_c (by decide)) ev_c)) (fun _ H5 e5 => ?_) fun _ H5 e5 => ?_
      · refine s_asgL (el_rev (sq_of (e5 c _ hc')) (ev_var rfl)) fun c2 H6 hc2 e6 h6 => ?_
        exact ⟨fs.reverse, c2, rfl, fresh_back (eH.trans e5) hc2, by rw [h6, List.map_reverse], fun z hz2 => pos z (List.mem_reverse.mp hz2), by rw [List.length_reverse]; omega, fun z hz2 => fB z (List.mem_reverse.mp hz2), eH.trans (e5.trans e6)⟩
      · exact ⟨fs, c, rfl, hcH, e5 c _ hc', pos, by omega, fB, eH.trans e5⟩
    obtain ⟨fs2, c2, rfl, hc2H, hc2, pos2, hl2, fB2, e5⟩ := hM
    -- a hundred, or not
    refine q_cut (M := fun σ2 H6 => ∃ (ws : List Int) (c3 : Addr), σ2 = [some (.ref a), some (.int mx), some (.int kd), some (.ref c3), some (.int wh), y5, y6, none] ∧ H c3 = none ∧ H6 c3 = some (.lst (ws.map V.int)) ∧ Pos ws ∧ ws.length ≤ 200 ∧ (∀ w ∈ ws, w ≤ 2 ^ 200) ∧ Ex H H6) ?_ fun σ2 H6 hM => ?_
    · refine s_when (et_and (et_test (ev_eq (ev_mod (ev_div (ev_var rfl) ev_c (div_lit (by decide) (by decide))) ev_c (by decide)) ev_c)) fun _ => et_test (ev_opL (ev_var rfl) el_nil fun p H7 hp e7 => rv_neL (sq_of (e7 c2 _ hc2)) (sq_of hp))) (fun hb H6 e6 => ?_) fun _ H6 e6 => ?_
      · have hne : fs2 ≠ [] := by
          have z := (Bool.and_eq_true_iff.mp hb).2
          rw [Bool.not_eq_true'] at z
          exact of_decide_eq_false z
        have hp : 0 < fs2.length := List.length_pos_iff.mpr hne
        have mm := Int.emod_nonneg mx (show (40 : Int) ≠ 0 by decide)
        have ml := Int.emod_lt_of_pos mx (show (0 : Int) < 40 by decide)
        have hS2 : ∀ H7, Ex H6 H7 → SqL K H7 c2 (fs2.map V.int) := fun H7 e7 => sq_of (e7 c2 _ (e6 c2 _ hc2))
        refine s_asgL (el_lcR1 (fun _ => true) (fun i => V.int (fs2.getD (i * i % fs2.length) 0 + ((i : Int) / (fs2.length : Int)))) (ea_cons (ev_add ev_c (ev_mod (ev_var rfl) ev_c (by decide))) ea_nil) ⟨by omega, by omega⟩ (fun _ => rfl) (fun i H7 e7 hi => fun H8 e8 Q8 q8 => q8 H8 (Ex.refl H8)) fun i H7 e7 hi _ => ?_) fun c3 H7 hc3 e7 h7 => ?_
        · have hl : Ev (tCB (rLenS K) (tCons (tVar 3) tNil)) ([some (.ref a), some (.int mx), some (.int kd), some (.ref c2), some (.int wh), y5, y6, some (.int (i : Int))]) H7 (.int (fs2.length : Int)) :=
            ev_is (ev_len (ev_var rfl) (hS2 H7 e7)) (by rw [List.length_map])
          have hj : i * i % fs2.length < fs2.length := Nat.mod_lt _ hp
          refine ev_add (ev_ixL (hS2 H7 e7) (ev_var rfl) (ev_mod (ev_mul (ev_var rfl) (ev_var rfl) (small_mul (a := 10) (b := 10) (by omega) (by omega) (by decide) (by decide) (by decide))) hl (by omega)) (at_of (j := i * i % fs2.length) (by rw [Int.natCast_emod, Int.natCast_mul]) (vmap ?_))) (ev_div (ev_var rfl) hl (div_lit (by omega) (by omega)))
          rw [List.getD_eq_getElem?_getD, List.getElem?_eq_getElem hj]
          rfl
        · rw [given_all] at h7
          refine ⟨_, c3, rfl, fresh_back (e5.trans e6) hc3, h7, fun z hz2 => ?_, by rw [List.length_map, List.length_range]; omega, fun z hz2 => ?_, e5.trans (e6.trans e7)⟩
          rotate_left
          · obtain ⟨i, hir, rfl⟩ := List.mem_map.mp hz2
            have hir := List.mem_range.mp hir
            have hj : i * i % fs2.length < fs2.length := Nat.mod_lt _ hp
            have h1 : fs2.getD (i * i % fs2.length) 0 ≤ bigW := by
              rw [List.getD_eq_getElem?_getD, List.getElem?_eq_getElem hj]
              exact fB2 _ (List.getElem_mem hj)
            have h2 : (i : Int) / (fs2.length : Int) ≤ i := Int.ediv_le_self _ (by omega)
            have hb : bigW + 1000 ≤ 2 ^ 200 := by decide
            have h3 : fs2.getD (i * i % fs2.length) 0 + (i : Int) / (fs2.length : Int) ≤ bigW + 1000 := by omega
            exact Int.le_trans h3 hb
          obtain ⟨i, _, rfl⟩ := List.mem_map.mp hz2
          have hj : i * i % fs2.length < fs2.length := Nat.mod_lt _ hp
          have h1 : 1 ≤ fs2.getD (i * i % fs2.length) 0 := by
            rw [List.getD_eq_getElem?_getD, List.getElem?_eq_getElem hj]
            exact pos2 _ (List.getElem_mem hj)
          have h2 : 0 ≤ (i : Int) / (fs2.length : Int) := Int.ediv_nonneg (by omega) (by omega)
          omega
      · exact ⟨fs2, c2, rfl, hc2H, e6 c2 _ hc2, pos2, by omega, fun z hz2 => Int.le_trans (fB2 z hz2) (by decide), e5.trans e6⟩
    obtain ⟨ws, c3, rfl, hc3H, hc3, pos3, hl3, wB3, e6⟩ := hM
    exact s_ret (v := .ref c3) (ev_var rfl) fun H7 e7 => q ws pos3 hl3 wB3 c3 H7 hc3H (e6.trans e7) (e7 c3 _ hc3)
end
end Wt
/-! ### whether weights and misses are as told, as the statements look -/
namespace Wt
open PySem PySem.Spec PyProof.Rows L2 Evl
def spDue3 (K : PySem.W.Frag) : Sp := fun vs H Q _ => ∃ (a l1 l2 : Addr) (ws as ms : List Int) (m : Int), vs = [.ref a, .int m, .ref l1, .ref l2] ∧ H a = some (.lst (ws.map V.int)) ∧ H l1 = some (.lst (as.map V.int)) ∧ SqL K H l2 (ms.map V.int) ∧
  Pos ws ∧ ws.length ≤ 20000 ∧ as.length ≤ 20000 ∧ RetV (.bl (bestOk as ms ws m)) H Q
section
variable {P : Program} {w : World} {K : PySem.W.Frag} {mg : Str → Option Value} {base : Heap}
theorem ok_LawDue {f fLawGap : Addr} {fd fdLawGap : FuncData}
    (O : Own K mg "_law_due" ["_law_weights", "_law_most", "_law_added", "_law_misses"] sLawDue f fd) (B : Blt mg)
    (GLawGap : FnOk P w K mg base CX0 1 fLawGap fdLawGap ["_law_weights"] (spGapOf K)) (OLawGap : Own K mg "_law_gap" ["_law_weights"] sLawGap fLawGap fdLawGap) :
    FnOk P w K mg base CX0 2 f fd ["_law_weights", "_law_most", "_law_added", "_law_misses"] (spDue3 K) := by
  refine O.F.ok scLawDue (fun vs H Q E h => ?_) (fun cdv A outer s H vs Q E hr h => ?_)
  · obtain ⟨a, l1, l2, ws, as, ms, m, rfl, _⟩ := h
    rfl
  obtain ⟨a, l1, l2, ws, as, ms, m, rfl, hA, h1, h2, pos, hz, hz1, q⟩ := h
  refine ⟨_, 
      (pss_cons (ps_if (PW.pt (pw_or (pt_cmpR op_ne (pe_callB (r := rLenS K) (id := "len") call_len_seq (by rfl) B.len (by decide +kernel) (pa_cons (pv 2) pa_nil)) (pe_callB (r := rLenS K) (id := "len") call_len_seq (by rfl) B.len (by decide +kernel) (pa_cons (pv 3) pa_nil)) (nomark _)) (pw_or (pt_val (pe_callB (r := rAny K) (id := "any") (cr_any rfl) (by rfl) B.anyF (by decide +kernel) (pa_cons (pe_lc (own := [("_law_weight", 8)]) (g := gName 8) (tt := tYes) rfl scLawDue.nd (pi_list (pv 2)) (blkOk_by (N := nLawDue) (sc := defScope sLawDue) (by decide +kernel)) (fun _ _ _ _ _ => (pg_name (i := 8) scLawDue.nd rfl (Or.inl rfl))) (fun _ _ _ _ _ => pts_nil) (fun _ _ _ _ _ => (pe_cmpR op_lt (pv 8) pe_int (nomark _)))) pa_nil))) (pw_or1 (pt_cmpR op_le (pe_call GLawGap (hr.mono (by decide)) (by rfl) OLawGap.g OLawGap.F.kp OLawGap.b .nil pass0 (pa_cons (pe_op op_cat (pv 0) (pv 2)) pa_nil)) (pv 1) (nomark _)))))) 
        (pss_one (ps_ret pe_bl)) pss_nil)
      (pss_cons (ps_set (i := 4) scLawDue.nd rfl (Or.inl rfl) (pe_callB (r := rSortedI K) (id := "sorted") cr_sortedI (by rfl) B.sorted (by decide +kernel) (pa_cons (pv 0) pa_nil)))
      (pss_cons (ps_set (i := 5) scLawDue.nd rfl (Or.inl rfl) pe_int)
      (pss_cons (ps_set (i := 6) scLawDue.nd rfl (Or.inl rfl) pe_int)
      (pss_cons (ps_for PassesOwn.never rfl (pi_list (pv 3)) (pg_name (i := 7) scLawDue.nd rfl (Or.inl rfl)) 
        (pss_cons (ps_if (pt_not (pt_chain op_lt op_le (pv 6) (pv 7) (pv 1))) 
          (pss_one (ps_ret pe_bl)) pss_nil)
        (pss_cons (ps_while PassesOwn.never (PW.pt (pw_and (pt_cmpR (r := rNeD K) (op_neD hr.units) (pv 4) (pe_lst pa_nil) (nomark _)) (pw_and1 (pt_cmpR op_lt (pe_ix (r := rIxL K) ix_list (pv 4) pe_int (fun _ _ => rfl)) (pv 7) (nomark _))))) 
          (pss_one (ps_set (i := 5) scLawDue.nd rfl (Or.inl rfl) (pe_op op_add (pv 5) (pe_bm PySem.F.plainAttrs_list PySem.F.slot_list_pop PySem.F.type_list_pop mt_popAt (pv 4) (pa_cons pe_int pa_nil))))))
        (pss_cons (ps_if (PW.pt (pw_or (pt_cmpR (r := rEqD K) (op_eqD hr.units) (pe_slice (r := rSlL K) sl_list (pv 4) po_none (po_some pe_int)) (pe_lst (pa_cons (pv 7) pa_nil)) (nomark _)) (pw_or1 (pt_cmpR op_ne (pe_op op_add (pv 5) (pv 6)) (pe_op op_sub (pv 7) pe_int) (nomark _))))) 
          (pss_one (ps_ret pe_bl)) pss_nil)
        (pss_one (ps_set (i := 6) scLawDue.nd rfl (Or.inl rfl) (pe_op op_add (pv 6) (pv 7))))))))
      (pss_one (ps_ret pe_bl))))))), ?_⟩
  rw [due_best pos] at q
  have r0 := Ex.refl H
  refine q_when (b := (!decide (as.length = ms.length) || ((as.map fun n => decide (n < 1)).any id || decide (gap (ws ++ as) ≤ m)))) (et_or (et_is (et_test (ev_ne (ev_len (ev_var rfl) (sq_of h1)) (ev_len (ev_var rfl) h2))) (by
      rw [List.length_map, List.length_map]
      by_cases z : as.length = ms.length
      · rw [decide_eq_true z, decide_eq_true (by omega)]
      · rw [decide_eq_false z, decide_eq_false (by omega)])) fun _ =>
    et_or (et_B (ev_anyN (el_lcV (ns := as) (fun n => V.bl (decide (n < 1))) (ev_var rfl) (sq_of h1) (by omega) (fun _ => rfl) fun n H3 e3 _ => ev_lt (ev_var rfl) ev_c) (by rw [List.map_map]; rfl))) fun _ =>
      et_test (ev_le (ev_callN (xs := (ws ++ as).map V.int) (el_is (el_cat hA h1 (by rw [List.length_map, List.length_map]; omega) (ev_var rfl) (ev_var rfl)) (List.map_append ..).symm) fun p H3 hp e3 => fun H4 e4 Q4 q4 E4 => ⟨p, _, rfl, sq_of (e4 p _ hp), q4⟩) (ev_var rfl))) (fun hb H1 e1 => ?_) fun hb H1 e1 => ?_
  · have z : (decide (as.length = ms.length) && (as.all fun n => decide (1 ≤ n)) && dueF m 0 0 (srt ws) ms && decide (m < gap (ws ++ as))) = false := by
      rw [Bool.eq_false_iff]
      intro t
      rw [Bool.and_eq_true, Bool.and_eq_true, Bool.and_eq_true] at t
      obtain ⟨⟨⟨t1, t2⟩, _⟩, t4⟩ := t
      have t4 := of_decide_eq_true t4
      rw [t1, decide_eq_false (show ¬ gap (ws ++ as) ≤ m by omega)] at hb
      have hb : ((as.map fun n => decide (n < 1)).any id || false) = true := hb
      rw [Bool.or_false, List.any_map, List.any_eq_true] at hb
      obtain ⟨x, hx, hx2⟩ := hb
      have a1 := of_decide_eq_true (List.all_eq_true.mp t2 x hx)
      have a2 : x < 1 := of_decide_eq_true hx2
      omega
    rw [z] at q
    exact s_ret (v := .bl false) ev_c fun H9 e9 => q H9 (e1.trans e9)
  rw [Bool.or_eq_false_iff, Bool.or_eq_false_iff, Bool.not_eq_false'] at hb
  obtain ⟨b1, b2, b3⟩ := hb
  have z : (decide (as.length = ms.length) && (as.all fun n => decide (1 ≤ n)) && dueF m 0 0 (srt ws) ms && decide (m < gap (ws ++ as))) = dueF m 0 0 (srt ws) ms := by
    have b3 := of_decide_eq_false b3
    have b2' : (as.all fun n => decide (1 ≤ n)) = true := List.all_eq_true.mpr fun x hx => by
      by_cases z : 1 ≤ x
      · exact decide_eq_true z
      · rw [List.any_map, List.any_eq_false] at b2
        exact absurd (decide_eq_true (show x < 1 by omega)) (b2 x hx)
    rw [b1, b2', decide_eq_true (show m < gap (ws ++ as) by omega), Bool.and_true]
    rfl
  rw [z] at q
  clear z
  refine q_asgL (el_sorted (sq_of (e1 _ _ hA)) (ev_var rfl)) fun r H2 hr2 e2 h2r => ?_
  refine q_asg ev_c fun H3 e3 => ?_
  refine q_asg ev_c fun H4 e4 => ?_
  have hrH : H r = none := fresh_back e1 hr2
  have e04 := e1.trans (e2.trans (e3.trans e4))
  have hr4 : H4 r = some (.lst ((srt ws).map V.int)) := e4 r _ (e3 r _ h2r)
  have hsl : (srt ws).length ≤ 20000 := by rw [(srt_perm ws).length_eq]; exact hz
  generalize srt ws = rs at hr4 q hsl
  refine q_forLn (ev_var rfl) (ex_l e04 h2) (fun i σ' H' => (∃ (wh ah : Int) (rest : List Int) (y7 : Option V), σ' = [some (.ref a), some (.int m), some (.ref l1), some (.ref l2), some (.ref r), some (.int wh), some (.int ah), y7, none] ∧
      H' r = some (.lst (rest.map V.int)) ∧ rest.length ≤ 20000 ∧ dueF m 0 0 rs ms = dueF m wh ah rest (ms.drop i)) ∧ Ex H H') (fun H5 e5 => ⟨⟨0, 0, rs, none, rfl, e5 r _ hr4, hsl, rfl⟩, e04.trans e5⟩) (fun i σ' H' _ h => ex_l h.2 h2) (fun i x σ' H' hx0 h => ?_) fun σ' H' h => ?_
  · obtain ⟨⟨wh, ah, rest, y7, rfl, hrr, hrl, eD⟩, eH⟩ := h
    obtain ⟨x, hx, rfl⟩ := vget hx0
    rw [drop_at hx] at eD
    have eD : dueF m 0 0 rs ms = ((decide (ah < x) && decide (x ≤ m)) && (!(eat x wh rest).2.head?.any (· == x) && decide ((eat x wh rest).1 + ah = x - 1)) && dueF m (eat x wh rest).1 (ah + x) (eat x wh rest).2 (ms.drop (i + 1))) := eD
    refine q_when (et_not (et_test (ev_chainLt (ev_var rfl) (ev_var rfl) (ev_var rfl)))) (fun hb H5 e5 => ?_) fun hb H5 e5 => ?_
    · rw [Bool.not_eq_true'] at hb
      rw [hb] at eD
      have eD : dueF m 0 0 rs ms = false := eD
      rw [eD] at q
      exact s_ret (v := .bl false) ev_c fun H9 e9 => q H9 (eH.trans (e5.trans e9))
    rw [Bool.not_eq_false'] at hb
    rw [hb, Bool.true_and] at eD
    refine q_while (fun k σ2 H2 => ∃ (wh2 : Int) (rest2 : List Int), σ2 = [some (.ref a), some (.int m), some (.ref l1), some (.ref l2), some (.ref r), some (.int wh2), some (.int ah), some (.int x), none] ∧ H2 r = some (.lst (rest2.map V.int)) ∧ rest2.length ≤ 20000 ∧ k = rest2.length ∧
      eat x wh rest = eat x wh2 rest2 ∧ Ex H H2) rest.length ⟨wh, rest, rfl, e5 r _ hrr, hrl, rfl, rfl, eH.trans e5⟩ fun k σ2 H2 h => ?_
    obtain ⟨wh2, rest2, rfl, hr2', hl2, rfl, eE, e6⟩ := h
    have after : ∀ H7, Ex H2 H7 → eat x wh rest = (wh2, rest2) → dueF m 0 0 rs ms = (!rest2.head?.any (· == x) && decide (wh2 + ah = x - 1) && dueF m wh2 (ah + x) rest2 (ms.drop (i + 1))) := fun H7 e7 ee => by
      rw [eD, ee]
    have fin : ∀ H7, Ex H2 H7 → eat x wh rest = (wh2, rest2) →
        tSeq (tIfS (tOr (tTest (tOp (rEqD K) (tSl (rSlL K) (tVar 4) tNoPart (tPart (tC (.int 1)))) (tLst (tCons (tVar 7) tNil)))) (tTest (tOp rNe (tOp (rI0 fun i j => .int (i + j)) (tVar 5) (tVar 6)) (tOp (rI0 fun i j => .int (i - j)) (tVar 7) (tC (.int 1)))))) (tRet (tC (.bl false))) tNext)
          (tAsg (tOp (rI0 fun i j => .int (i + j)) (tVar 6) (tVar 7)) (gName 6))
          { nx := fun σ' H' => (∃ (wh ah : Int) (rest : List Int) (y7 : Option V), σ' = [some (.ref a), some (.int m), some (.ref l1), some (.ref l2), some (.ref r), some (.int wh), some (.int ah), y7, none] ∧
              H' r = some (.lst (rest.map V.int)) ∧ rest.length ≤ 20000 ∧ dueF m 0 0 rs ms = dueF m wh ah rest (ms.drop (i + 1))) ∧ Ex H H', rt := Q,
            ct := fun σ' H' => (∃ (wh ah : Int) (rest : List Int) (y7 : Option V), σ' = [some (.ref a), some (.int m), some (.ref l1), some (.ref l2), some (.ref r), some (.int wh), some (.int ah), y7, none] ∧
              H' r = some (.lst (rest.map V.int)) ∧ rest.length ≤ 20000 ∧ dueF m 0 0 rs ms = dueF m wh ah rest (ms.drop (i + 1))) ∧ Ex H H', bk := tRet (tC (.bl true)) { nx := fun _ H' => Q .non H', rt := Q } }
          [some (.ref a), some (.int m), some (.ref l1), some (.ref l2), some (.ref r), some (.int wh2), some (.int ah), some (.int x), none] H7 := fun H7 e7 ee => by
      have eD2 := after H7 e7 ee
      refine q_when (b := (rest2.head?.any (· == x) || !decide (wh2 + ah = x - 1))) (et_or (et_is (et_test (ev_opLL (el_take (k := 1) (sq_of (e7 r _ hr2')) (ev_var rfl) ev_c) (el_lst (ea_cons (ev_var rfl) ea_nil) (by show 1 ≤ 100000; decide)) fun p q' H8 hp hq e8 =>
        rv_eqL (ns := rest2.take 1) (ms := [x]) (by rw [List.map_take]; exact sq_of hp) (sq_of hq))) (head_take rest2 x)) fun _ => et_test (ev_ne (ev_add (ev_var rfl) (ev_var rfl)) (ev_sub (ev_var rfl) ev_c))) (fun hb H8 e8 => ?_) fun hb H8 e8 => ?_
      · have z : dueF m 0 0 rs ms = false := by
          rw [eD2]
          cases h1 : rest2.head?.any (· == x) <;> rw [h1] at hb <;> cases h2 : decide (wh2 + ah = x - 1) <;> rw [h2] at hb <;> first | rfl | cases hb
        rw [z] at q
        exact s_ret (v := .bl false) ev_c fun H9 e9 => q H9 (e6.trans (e7.trans (e8.trans e9)))
      · have z : dueF m 0 0 rs ms = dueF m wh2 (ah + x) rest2 (ms.drop (i + 1)) := by
          rw [eD2]
          cases h1 : rest2.head?.any (· == x) <;> rw [h1] at hb <;> cases h2 : decide (wh2 + ah = x - 1) <;> rw [h2] at hb <;> first | rfl | cases hb
        exact s_asg (ev_add (ev_var rfl) (ev_var rfl)) fun H9 e9 => ⟨⟨wh2, ah + x, rest2, _, rfl, e9 r _ (e8 r _ (e7 r _ hr2')), hl2, z⟩, e6.trans (e7.trans (e8.trans e9))⟩
    cases rest2 with
    | nil =>
      refine ⟨false, et_is (et_and (a := !decide (([] : List Int) = [])) (b := false) (et_test (ev_opL (ev_var rfl) el_nil fun p H7 hp e7 => rv_neL (sq_of (e7 r _ hr2')) (sq_of hp))) fun z => nomatch z) rfl, (fun z => nomatch z), fun _ H7 e7 => fin H7 e7 eE⟩
    | cons w' r' =>
      have hlr : r'.length + 1 ≤ 20000 := hl2
      refine ⟨decide (w' < x), et_is (et_and (a := !decide ((w' :: r') = ([] : List Int))) (et_test (ev_opL (ev_var rfl) el_nil fun p H7 hp e7 => rv_neL (ns := w' :: r') (sq_of (e7 r _ hr2')) (sq_of hp))) fun _ =>
        et_test (ev_lt (ev_ixL (sq_of hr2') (ev_var rfl) ev_c (at_of (j := 0) rfl rfl)) (ev_var rfl))) (by rw [decide_eq_false (fun z => nomatch z)]; rfl), fun hb H7 e7 => ?_, fun hb H7 e7 => ?_⟩
      · refine ⟨fun σ3 H8 => ∃ (wh2 : Int) (rest2 : List Int), σ3 = [some (.ref a), some (.int m), some (.ref l1), some (.ref l2), some (.ref r), some (.int wh2), some (.int ah), some (.int x), none] ∧ H8 r = some (.lst (rest2.map V.int)) ∧ rest2.length ≤ 20000 ∧ rest2.length < (w' :: r').length ∧
          eat x wh rest = eat x wh2 rest2 ∧ Ex H H8, fun σ3 H8 h => ?_, ?_⟩
        · obtain ⟨wh3, rest3, k1, k2, k3, k4, k5, k6⟩ := h
          exact ⟨rest3.length, k4, wh3, rest3, k1, k2, k3, rfl, k5, k6⟩
        · refine s_popAdd (a := wh2) (w' := w') (r := r') rfl rfl (e7 r _ hr2') (by omega) ⟨wh2 + w', r', rfl, upd_same, by omega, Nat.lt_succ_self _, ?_, Ex.mut (e6.trans e7) hrH⟩
          rw [eE]
          show (if w' < x then eat x (wh2 + w') r' else _) = _
          rw [if_pos (of_decide_eq_true hb)]
      · refine fin H7 e7 (eE.trans ?_)
        exact if_neg (of_decide_eq_false hb)
  · obtain ⟨⟨wh, ah, rest, y7, rfl, hrr, hrl, eD⟩, eH⟩ := h
    rw [List.length_map, List.drop_length] at eD
    have eD : dueF m 0 0 rs ms = true := eD
    rw [eD] at q
    exact s_ret (v := .bl true) ev_c fun H9 e9 => q H9 (eH.trans e9)
end
end Wt
/-! ### xs[a::k], of a list of ints: some of them -/
namespace Wt
open PySem PySem.Spec PyProof.Rows L2 Evl
def tSlS (K : PySem.W.Frag) (te : TE) (tl ts : TO) : TE := fun σ H Q => te σ H fun x H1 => tl σ H1 fun _ H2 => ts σ H2 fun b H3 => b ≠ some 0 ∧ ∃ (p : Addr) (ns : List Int), x = .ref p ∧ SqL K H3 p (ns.map V.int) ∧
  ∀ ms : List Int, ms.length ≤ ns.length → (∀ m ∈ ms, m ∈ ns) → ∀ q, H3 q = none → Q (.ref q) (upd H3 q (.lst (ms.map V.int)))
theorem slP_mem {its : Array Value} {lo hi st : Option Int} {v : Value} (h : v ∈ (slicePick its lo hi st).toList) : v ∈ its.toList := by
  unfold slicePick at h
  rw [List.toList_toArray] at h
  obtain ⟨i, _, hi⟩ := List.mem_filterMap.mp h
  exact Array.mem_toList_iff.mpr (Array.mem_of_getElem? hi)
theorem ints_mem {us : List Value} {ns : List Int} (h : IntsAre us ns) {v : Value} (hv : v ∈ us) : ∃ n t, v = Value.int n t ∧ n ∈ ns := by
  induction h with
  | nil => cases hv
  | cons n t h ih =>
    rcases List.mem_cons.mp hv with e | e
    · exact ⟨n, t, e, List.mem_cons_self⟩
    · obtain ⟨n', t', e', m'⟩ := ih e
      exact ⟨n', t', e', List.mem_cons_of_mem _ m'⟩
theorem ints_len {us : List Value} {ns : List Int} (h : IntsAre us ns) : us.length = ns.length := by
  induction h with
  | nil => rfl
  | cons n t h ih => rw [List.length_cons, List.length_cons, ih]
theorem pe_sliceS {X : Cx} {e lo st : PySem.Expr} {te : TE} {tl ts : TO} {p pos : PySem.Pos} (he : PE X e te) (hl : PO X (some lo) tl) (hs : PO X (some st) ts) (ht : ∀ o r, letTemporaryGo e o r = pure () := by intro o r; rfl) : PE X (.Subscript e (.Slice (some lo) none (some st) p) pos) (tSlS X.K te tl ts) := by
  refine ⟨fun pins s σ H Q I h => ?_⟩
  refine wpAny_Subscript_Slice_step (ht := ht) (T := "list") PySem.list_getitem_lookup (thn (he.run pins s σ H _ I h) fun u s1 ⟨x, H1, I1, rx, h1⟩ => ?_)
  refine wpAny_Slice (thn (hl.run pins s1 σ H1 _ I1 h1) fun vl s2 ⟨lo', H2, I2, pl, h2⟩ => ?_)
  refine wpAny_pure ?_
  refine thn (hs.run pins s2 σ H2 _ I2 h2) fun vs s3 ⟨st', H3, I3, ps, st0, p, ns, ex, hS, q⟩ => ?_
  subst ex
  obtain rfl : u = Value.ref p := rx
  obtain ⟨us, rv, pl', hz⟩ := I3.list hS
  obtain ⟨hp, g, dr, tk, os⟩ := s3
  obtain ⟨ob, at0, oc, od⟩ := pl'.isList
  have kp : ∀ b o, hp.get? b = some o → (hp.push { cls := .type "slice", data := .fields #[vl, .none, vs] }).get? b = some o := fun b o q => Heap.get?_push_of_some _ q
  refine ⟨⟨ob, kp _ _ at0, oc⟩, ?_⟩
  have ui := rv.ints
  have ul := ints_len ui
  have sz : us.toArray.size ≤ sizeLine := by
    rw [List.size_toArray, ul]
    rw [List.length_map] at hz
    exact hz
  refine wpAny_getItem_list_slice (items := us.toArray) (lo := lo') (hi := none) (st := st') ⟨ob, kp _ _ at0, oc, od⟩ ⟨_, Heap.get?_push_size _ rfl, rfl, rfl⟩ pl .none ps st0 ?_ sz
  generalize hout : slicePick us.toArray lo' none st' = out
  have om : ∀ v ∈ out.toList, ∃ n t, v = Value.int n t ∧ n ∈ ns := fun v hv => ints_mem ui (by
    rw [← hout] at hv
    have := slP_mem hv
    rw [List.toList_toArray] at this
    exact this)
  have oi : IntsAre out.toList (out.toList.map SrtO.iv) := SrtO.ints_iv fun v hv => let ⟨n, t, e, _⟩ := om v hv; ⟨n, t, e⟩
  have ol : out.toList.length ≤ ns.length := by
    have z : out.size ≤ us.toArray.size := hout ▸ slicePick_size_le us.toArray lo' none st'
    have z2 : us.toArray.size = ns.length := (List.size_toArray ..).trans ul
    rw [z2] at z
    exact z
  have e1 : (hp.push { cls := .type "slice", data := .fields #[vl, .none, vs] }).objs.size = hp.objs.size + 1 := size_push' _ _
  have J : Inv X pins σ (upd H3 (hp.objs.size + 1) (.lst ((out.toList.map SrtO.iv).map V.int))) ⟨(hp.push { cls := .type "slice", data := .fields #[vl, .none, vs] }).push { cls := .type "list", data := .seq out }, g, dr, tk, os⟩ := by
    refine I3.laid (t' := tk) (fun b o q => Heap.get?_push_of_some _ (kp b o q)) (Nat.le_succ _) ⟨?_, out.toList, 0, vals_of_ints oi, ?_⟩
    · rw [List.length_map, List.length_map]
      exact Nat.le_trans ol (by rw [List.length_map] at hz; exact hz)
    · have z := Heap.get?_push_size (hp.push { cls := .type "slice", data := .fields #[vl, .none, vs] }) (o := { cls := .type "list", data := .seq out }) rfl
      rw [e1] at z
      exact z
  show EP X pins σ Q (.ref (hp.push { cls := .type "slice", data := .fields #[vl, .none, vs] }).objs.size) ⟨(hp.push { cls := .type "slice", data := .fields #[vl, .none, vs] }).push { cls := .type "list", data := .seq out }, g, dr, tk, os⟩
  rw [e1]
  refine ⟨.ref (hp.objs.size + 1), _, J, rfl, q (out.toList.map SrtO.iv) ?_ ?_ _ (I3.hok.fresh (Nat.le_succ _))⟩
  · rw [List.length_map]
    exact ol
  · intro m hm
    obtain ⟨v, hv, rfl⟩ := List.mem_map.mp hm
    obtain ⟨n, t, rfl, hn⟩ := om v hv
    exact hn
end Wt
/-! ### the answers by hand: what is needed besides -/
namespace Wt
open PySem PySem.Spec PyProof.Rows L2 Evl
/-- C().m(e, ..) -/
theorem mtree {id m : Str} {p q apos pos : PySem.Pos} {e : PySem.Expr} {es : List PySem.Expr} {env : Env} (h : (id != ("super" : Str)) = true)
    (hn : methodCallForm ((e :: es).length + ([] : List Keyword).length) (backTo pos (starEach (e :: es) env)) (backToKw pos (keywordEach [] env)) = true) (hl : (apos.endLine == pos.line) = true) :
    eval (.Call (.Attribute (.Call (.Name id p) [] [] q) m apos) (e :: es) [] pos) env = (do
        let ov ← eval (.Call (.Name id p) [] [] q) env
        standAt apos.atName
        let (f, first) ← holding [ov] (getMethod ov m (do return (← importBound (.Call (.Name id p) [] [] q) env).getD true))
        callWith pos f first (backTo pos (starEach (e :: es) env)) (backToKw pos (keywordEach [] env))) :=
  mcall_of (abase_call h) fun ov => by
    unfold methodCall
    rw [hn]
    unfold methodCallPos
    rw [hl]
    rfl
theorem pe_fldK {X : Cx} {K : PySem.W.Frag} {e : PySem.Expr} {f : Str} {pos : PySem.Pos} {ta : TE} (hK : X.K = K) (he : PE X e ta) (hb : attributeBase e f X.env (eval e X.env) = eval e X.env) : PE X (.Attribute e f pos) (tFld K ta f) := by
  subst hK
  exact pe_fld he hb
/-- what is made there is read from then on, not written -/
def tFrz (te : TE) : TE := fun σ H Q => te σ H fun x H1 => ∃ d u, x = .ref d ∧ H1 d = some u ∧ Mut (some u) ∧ ∀ od, Q (.ref d) (upd H1 d (.frz od u))
theorem pe_frz {X : Cx} {e : PySem.Expr} {te : TE} (h : PE X e te) : PE X e (tFrz te) := by
  refine ⟨fun pins s σ H Q I q => ?_⟩
  refine thn (h.run pins s σ H _ I q) fun v s1 ⟨x, H1, I1, r, d, u, ex, hd, mu, q⟩ => ?_
  subst ex
  obtain ⟨od, I2⟩ := I1.lock hd mu
  exact ⟨.ref d, _, I2, r, q od⟩
theorem mem_putK {kvs : List (Key × V)} {k : Key} {v : V} {x : Key × V} (h : x ∈ putK kvs k v) : x.1 = k ∨ ∃ y ∈ kvs, x.1 = y.1 := by
  unfold putK at h
  split at h
  · obtain ⟨y, hy, e⟩ := List.mem_map.mp h
    subst e
    refine .inr ⟨y, hy, ?_⟩
    split <;> rfl
  · rcases List.mem_append.mp h with h | h
    · exact .inr ⟨x, h, rfl⟩
    · rw [List.mem_singleton.mp h]
      exact .inl rfl
theorem mem_mergeK : ∀ {more kvs : List (Key × V)} {x : Key × V}, x ∈ mergeK kvs more → (∃ y ∈ kvs, x.1 = y.1) ∨ ∃ y ∈ more, x.1 = y.1
  | [], kvs, x, h => .inl ⟨x, h, rfl⟩
  | p :: r, kvs, x, h => by
    rcases mem_mergeK (more := r) (kvs := putK kvs p.1 p.2) h with ⟨y, hy, e⟩ | ⟨y, hy, e⟩
    · rcases mem_putK hy with z | ⟨y2, h2, z⟩
      · exact .inr ⟨p, List.mem_cons_self, e.trans z⟩
      · exact .inl ⟨y2, h2, e.trans z⟩
    · exact .inr ⟨y, List.mem_cons_of_mem _ hy, e⟩
def KeysZ (ks : List Int) : Addr → Hp → Prop := fun p H => ∃ od kvs, H p = some (.frz od (.dK kvs)) ∧ ∀ kv ∈ kvs, ∃ n ∈ ks, kv.1 = Sum.inl n
def IntsN (n : Nat) : Addr → Hp → Prop := fun p H => ∃ ms : List Int, H p = some (.lst (ms.map V.int)) ∧ ms.length ≤ n
def ZL (Z : V → Hp → Prop) (n : Nat) : Addr → Hp → Prop := fun p H2 => ∃ xs, H2 p = some (.lst xs) ∧ (∀ x ∈ xs, Z x H2) ∧ xs.length = n
theorem ZL.ex {Z : V → Hp → Prop} {n : Nat} {p : Addr} {H H' : Hp} (S : Stays Z) (e : Ex H H') (h : ZL Z n p H) : ZL Z n p H' := let ⟨xs, a, b, c⟩ := h; ⟨xs, e _ _ a, fun x hx => S x _ _ e (b x hx), c⟩
section
variable {K : PySem.W.Frag} {σ : L2.St} {H : Hp} {ta tb tc td te tf : TE} {t : TA} {z v : V} {D : Ad}
/-! a dict's keys -/
def EvP (trs : List (TE × TE)) (σ : L2.St) (H : Hp) (ks : List Int) : Prop := ∀ H1, Ex H H1 → ∀ Q : List (V × V) → Hp → Prop, (∀ (kvs : List (Key × V)) H2, Ex H1 H2 → kvs.map (·.1) = ks.map Sum.inl → Q (kvs.map fun kv => (kV kv.1, kv.2)) H2) → tPairs trs σ H1 Q
theorem ep_nil : EvP [] σ H [] := fun H1 _ Q q => q [] H1 (Ex.refl H1) rfl
theorem ep_cons {r : List (TE × TE)} {k : Int} {ks : List Int} (h1 : Ev ta σ H (.int k)) (h2 : Ev tb σ H v) (hr : EvP r σ H ks) : EvP ((ta, tb) :: r) σ H (k :: ks) := fun H1 e Q q =>
  h1 H1 e _ fun H2 e2 => h2 H2 (e.trans e2) _ fun H3 e3 => hr H3 (e.trans (e2.trans e3)) _ fun kvs H4 e4 hk => q ((.inl k, v) :: kvs) H4 (e2.trans (e3.trans e4)) (by rw [List.map_cons, List.map_cons, hk])
theorem en_keys {trs : List (TE × TE)} {ks : List Int} (h : EvP trs σ H ks) (hl : ks.length ≤ 15) : EvN (tFrz (tDisp trs)) σ H (KeysZ ks) := fun H1 e Q q p hp =>
  h (upd H1 p (.dK [])) (e.trans (Ex.new hp)) _ fun kvs H2 e2 hk => by
    have hkl : kvs.length = ks.length := by
      have := congrArg List.length hk
      rw [List.length_map, List.length_map] at this
      exact this
    refine ⟨e2 p _ upd_same, kvs, rfl, by omega, p, _, rfl, upd_same, trivial, fun od => q p _ hp (Ex.mut (Ex.mut ((Ex.new hp).trans e2) hp) hp) ⟨od, _, upd_same, fun kv hkv => ?_⟩⟩
    rcases mem_mergeK hkv with ⟨y, hy, _⟩ | ⟨y, hy, e⟩
    · cases hy
    · have z : y.1 ∈ ks.map Sum.inl := hk ▸ List.mem_map.mpr ⟨y, hy, rfl⟩
      obtain ⟨n, hn, e2⟩ := List.mem_map.mp z
      exact ⟨n, hn, e.trans e2.symm⟩
theorem s_forK {D : Ends} {tu : TS} {tl : TE} {j : Nat} {ks : List Int} (h : EvN tl σ H (KeysZ ks)) (Pv : L2.St → Hp → Prop) (h0 : ∀ H1, Ex H H1 → Pv σ H1)
    (hs : ∀ (n : Int) σ' H', n ∈ ks → Pv σ' H' → ∀ M : L2.St → Hp → Prop, (∀ σ2 H2, Ex H' H2 → Pv σ2 H2 → M σ2 H2) → tu { D with nx := M, ct := M, bk := D.nx } (σ'.set j (some (.int n))) H') (hd : ∀ σ' H', Pv σ' H' → D.nx σ' H') : tFor (iKeys tl) (gName j) tu D σ H :=
  h H (Ex.refl H) _ fun p H1 _ e1 ⟨od, kvs, hp, hk⟩ => ⟨p, od, rfl, .inl ⟨kvs, hp, for_it walk_keys (fun i σ' H' => Pv σ' H' ∧ Ex H1 H') ⟨h0 H1 e1, Ex.refl H1⟩ (fun i σ' H' _ q => q.2 p _ hp)
    (fun i x σ' H' H'' hi q y => by
      obtain ⟨rfl, k, v, hkv, rfl⟩ := y
      obtain ⟨n, hn, e⟩ := hk _ (List.mem_of_getElem? hkv)
      have e : k = Sum.inl n := e
      subst e
      exact hs n σ' _ hn q.1 _ fun σ2 H2 e2 p2 => ⟨p2, q.2.trans e2⟩) fun σ' H' q => hd σ' H' q.1⟩⟩
/-! lists of some numbers -/
theorem en_ints {ms : List Int} (h : EvL te σ H (ms.map V.int)) : EvN te σ H (IntsN ms.length) := fun H1 e Q q => h H1 e _ fun p H2 hp e2 h2 => q p H2 hp e2 ⟨ms, h2, Nat.le_refl _⟩
theorem en_sliceS {a : Addr} {ns : List Int} {tl ts : TO} {lo st : Option Int} (h : Ev te σ H (.ref a)) (h1 : EvO tl σ H lo) (h2 : EvO ts σ H st) (hs : SqL K H a (ns.map V.int)) (h0 : st ≠ some 0) : EvN (tSlS K te tl ts) σ H (IntsN ns.length) := fun H1 e Q q =>
  h H1 e _ fun H2 e2 => h1 H2 (e.trans e2) _ fun H3 e3 => h2 H3 (e.trans (e2.trans e3)) _ fun H4 e4 => ⟨h0, a, ns, rfl, ex_l (e.trans (e2.trans (e3.trans e4))) hs, fun ms hl _ p hp =>
    q p _ (fresh_back (e2.trans (e3.trans e4)) hp) ((e2.trans (e3.trans e4)).trans (Ex.new hp)) ⟨ms, upd_same, hl⟩⟩
theorem en_catI {xs : List Int} {n k : Nat} (ha : EvL ta σ H (xs.map V.int)) (hb : EvN tb σ H (IntsN n)) (hk : xs.length + n ≤ k) (hl : k ≤ 100000) : EvN (tOp rCat ta tb) σ H (IntsN k) := fun H1 e Q q =>
  ha H1 e _ fun a H2 _ e2 hx => hb H2 (e.trans e2) _ fun b H3 _ e3 ⟨ms, hy, hm⟩ => ⟨a, b, _, _, rfl, rfl, e3 a _ hx, hy, sz_of (by rw [List.length_map, List.length_map]; omega), fun p hp =>
    q p _ (fresh_back (e2.trans e3) hp) ((e2.trans e3).trans (Ex.new hp)) ⟨xs ++ ms, by rw [upd_same, List.map_append], by rw [List.length_append]; omega⟩⟩
theorem q_forI {D : Ends} {tz tu : TS} {tl : TE} {j n : Nat} (h : EvN tl σ H (IntsN n)) (Pv : L2.St → Hp → Prop) (h0 : ∀ H1, Ex H H1 → Pv σ H1)
    (hs : ∀ (i : Int) σ' H', Pv σ' H' → ∀ M : L2.St → Hp → Prop, (∀ σ2 H2, Ex H' H2 → Pv σ2 H2 → M σ2 H2) → tu { D with nx := M, ct := M, bk := tz D } (σ'.set j (some (.int i))) H') (hd : ∀ σ' H', Pv σ' H' → tz D σ' H') : tSeq (tFor (iList K tl) (gName j) tu) tz D σ H :=
  h H (Ex.refl H) _ fun p H1 _ e1 ⟨ms, hp, _⟩ => ⟨p, rfl, ⟨ms.map V.int, sq_of hp⟩, for_list (D := { D with nx := tz D }) (fun i σ' H' => Pv σ' H' ∧ Ex H1 H') ⟨h0 H1 e1, Ex.refl H1⟩ (fun i σ' H' _ q => sq_of (q.2 p _ hp))
    (fun i x σ' H' hi q => by
      obtain ⟨n, _, rfl⟩ := vget hi
      exact hs n σ' H' q.1 _ fun σ2 H2 e2 p2 => ⟨p2, q.2.trans e2⟩) fun σ' H' q => hd σ' H' q.1⟩
/-! lists of cases -/
theorem en_catZ {Z : V → Hp → Prop} {a : Addr} {n m : Nat} (S : Stays Z) (ha : Ev ta σ H (.ref a)) (hz : ZL Z n a H) (hb : EvN tb σ H (ZL Z m)) (hl : n + m ≤ 100000) : EvN (tOp rCat ta tb) σ H (ZL Z (n + m)) := fun H1 e Q q =>
  ha H1 e _ fun H2 e2 => hb H2 (e.trans e2) _ fun b H3 _ e3 ⟨ys, hy, hyz, hyl⟩ => by
    obtain ⟨xs, hx, hxz, hxl⟩ := ZL.ex S (e.trans (e2.trans e3)) hz
    refine ⟨a, b, xs, ys, rfl, rfl, hx, hy, sz_of (by omega), fun p hp => q p _ (fresh_back (e2.trans e3) hp) ((e2.trans e3).trans (Ex.new hp)) ⟨xs ++ ys, upd_same, fun x hx2 => S x _ _ (Ex.new hp) ?_, by rw [List.length_append]; omega⟩⟩
    rcases List.mem_append.mp hx2 with h | h
    · exact hxz x h
    · exact hyz x h
theorem q_forZ {D : Ends} {tz tu : TS} {tl : TE} {g : TG} {Z : V → Hp → Prop} {n : Nat} {a : Addr} (S : Stays Z) (h : Ev tl σ H (.ref a)) (hz : ZL Z n a H) (Pv : L2.St → Hp → Prop) (h0 : ∀ H1, Ex H H1 → Pv σ H1)
    (hs : ∀ x σ' H', Z x H' → Pv σ' H' → ∀ M : L2.St → Hp → Prop, (∀ σ2 H2, Ex H' H2 → Pv σ2 H2 → M σ2 H2) → g x σ' H' fun σ2 H2 => tu { D with nx := M, ct := M, bk := tz D } σ2 H2) (hd : ∀ σ' H', Pv σ' H' → tz D σ' H') : tSeq (tFor (iList K tl) g tu) tz D σ H :=
  h H (Ex.refl H) _ fun H1 e1 => by
    obtain ⟨xs, hp, hz, _⟩ := ZL.ex S e1 hz
    exact ⟨a, rfl, ⟨xs, sq_of hp⟩, for_list (D := { D with nx := tz D }) (fun i σ' H' => Pv σ' H' ∧ Ex H1 H') ⟨h0 H1 e1, Ex.refl H1⟩ (fun i σ' H' _ q => sq_of (q.2 a _ hp))
      (fun i x σ' H' hi q => hs x σ' H' (S x _ _ q.2 (hz x (List.mem_of_getElem? hi))) q.1 _ fun σ2 H2 e2 p2 => ⟨p2, q.2.trans e2⟩) fun σ' H' q => hd σ' H' q.1⟩
def CaseP : V → Hp → Prop := fun x H => ∃ (t l : Addr) (ws : List Int), x = .ref t ∧ H t = some (.tup [.ref l, .int (gap ws)]) ∧ H l = some (.lst (ws.map V.int)) ∧ Pos ws ∧ ws.length ≤ 40
theorem caseP_stays : Stays CaseP := fun _ _ _ e ⟨t, l, ws, a, b, c, d⟩ => ⟨t, l, ws, a, e _ _ b, e _ _ c, d⟩
theorem ez_caseP {ws : List Int} {g : Int} (h : EvL ta σ H (ws.map V.int)) (hb : Ev tb σ H (.int g)) (hg : gap ws = g) (p : Pos ws) (hl : ws.length ≤ 40) : EvZ (tTup (tCons ta (tCons tb tNil))) σ H CaseP :=
  ez_pairL h hb fun t l H1 _ h1 h2 => ⟨t, l, ws, rfl, hg ▸ h1, h2, p, hl⟩
def CaseG : V → Hp → Prop := fun x H => ∃ (t l : Addr) (ws : List Int) (n m : Int), x = .ref t ∧ H t = some (.tup [.int n, .ref l, .int m, .bl (gapOk n ws m)]) ∧ H l = some (.lst (ws.map V.int))
theorem caseG_stays : Stays CaseG := fun _ _ _ e ⟨t, l, ws, n, m, a, b, c⟩ => ⟨t, l, ws, n, m, a, e _ _ b, e _ _ c⟩
theorem ez_caseG {ws : List Int} {n m : Int} {b : Bool} (ha : Ev ta σ H (.int n)) (hb : EvL tb σ H (ws.map V.int)) (hc : Ev tc σ H (.int m)) (hd : Ev td σ H (.bl b)) (hg : gapOk n ws m = b) : EvZ (tTup (tCons ta (tCons tb (tCons tc (tCons td tNil))))) σ H CaseG := fun H1 e Q q =>
  ha H1 e _ fun H2 e2 => hb H2 (e.trans e2) _ fun l H3 _ e3 hl => hc H3 (e.trans (e2.trans e3)) _ fun H4 e4 => hd H4 (e.trans (e2.trans (e3.trans e4))) _ fun H5 e5 => ⟨by show 4 ≤ sizeLine; decide, fun t ht =>
    q (.ref t) _ ((e2.trans (e3.trans (e4.trans e5))).trans (Ex.new ht)) ⟨t, l, ws, n, m, rfl, by rw [hg]; exact upd_same, (Ex.new ht) _ _ (e5 _ _ (e4 _ _ hl))⟩⟩
def CaseB : V → Hp → Prop := fun x H => ∃ (t l1 l2 l : Addr) (as ms ws : List Int) (m : Int), x = .ref t ∧ H t = some (.tup [.ref l1, .ref l2, .ref l, .int m, .bl (bestOk as ms ws m)]) ∧ H l1 = some (.lst (as.map V.int)) ∧ H l2 = some (.lst (ms.map V.int)) ∧ H l = some (.lst (ws.map V.int)) ∧
  ws.length + as.length ≤ 1000
theorem caseB_stays : Stays CaseB := fun _ _ _ e ⟨t, l1, l2, l, as, ms, ws, m, a, b, c, d, f, g⟩ => ⟨t, l1, l2, l, as, ms, ws, m, a, e _ _ b, e _ _ c, e _ _ d, e _ _ f, g⟩
theorem ez_caseB {as ms ws : List Int} {m : Int} {b : Bool} (ha : EvL ta σ H (as.map V.int)) (hb : EvL tb σ H (ms.map V.int)) (hc : EvL tc σ H (ws.map V.int)) (hd : Ev td σ H (.int m)) (he : Ev te σ H (.bl b)) (hg : bestOk as ms ws m = b) (hz : ws.length + as.length ≤ 1000) :
    EvZ (tTup (tCons ta (tCons tb (tCons tc (tCons td (tCons te tNil)))))) σ H CaseB := fun H1 e Q q =>
  ha H1 e _ fun l1 H2 _ e2 h1 => hb H2 (e.trans e2) _ fun l2 H3 _ e3 h2 => hc H3 (e.trans (e2.trans e3)) _ fun l H4 _ e4 h3 => hd H4 (e.trans (e2.trans (e3.trans e4))) _ fun H5 e5 => he H5 (e.trans (e2.trans (e3.trans (e4.trans e5)))) _ fun H6 e6 => ⟨by show 5 ≤ sizeLine; decide, fun t ht => by
    have x4 := e4.trans (e5.trans (e6.trans (Ex.new (o := .tup [.ref l1, .ref l2, .ref l, .int m, .bl b]) ht)))
    exact q (.ref t) _ (e2.trans (e3.trans x4)) ⟨t, l1, l2, l, as, ms, ws, m, rfl, by rw [hg]; exact upd_same, (e3.trans x4) _ _ h1, x4 _ _ h2, (e5.trans (e6.trans (Ex.new ht))) _ _ h3, hz⟩⟩
theorem cut_both (xs : List V) (k : Nat) : cutV xs (some (k : Int)) (some ((k + 1 : Nat) : Int)) = (xs.take (k + 1)).drop k := by
  unfold cutV
  rw [HT.sIx_nat, HT.sIx_nat, List.drop_take]
  by_cases h : k < xs.length
  · rw [Nat.min_eq_left (by omega), Nat.min_eq_left (by omega)]
  · rw [Nat.min_eq_right (by omega), Nat.min_eq_right (by omega), List.drop_of_length_le (Nat.le_refl _), List.drop_of_length_le (by omega), List.take_nil, List.take_nil]
/-! answers made by hand -/
theorem ex_ins {H : Hp} {x dx C : Addr} {fs : List (Str × V)} (hx : H x = none) (hd : H dx = none) : Ex H (upd (upd H dx (.own x)) x (.ins C dx fs)) := fun c o z => by
  rw [upd_ne (ne_of_none z hx), upd_ne (ne_of_none z hd)]
  exact z
theorem en_gap {n : Int} {E : XK} (h : Ev ta σ H (.int n)) : EvN (tMake D.G (spGapInit D) [] E (tCons ta tNil)) σ H (fun p H4 => KAt D H4 p (some n)) :=
  en_make (vs := [.int n]) (ea_cons h ea_nil) fun H4 x dx e4 hx hd ne Q4 q4 => ⟨x, dx, n, rfl, upd_same, fun H' h1 h2 => q4 H' (fun b o e => h2 b o (ex_ins hx hd b o e) (ne_of_none e hx)) ⟨dx, h1⟩⟩
theorem en_all : EvN (tBare D.A) σ H (fun p H4 => KAt D H4 p none) := en_bare
theorem en_best {a b : Addr} {as ms : List Int} {E : XK} (h : EvA t σ H [.ref a, .ref b]) (ha : SqL K H a (as.map V.int)) (hb : SqL K H b (ms.map V.int)) : EvN (tMake D.B (spBestInit K D) [] E t) σ H (BestNew D H as ms) :=
  en_make h fun H4 x dx e4 hx hd ne Q4 q4 => by
    have ex := ex_ins (C := D.B) (fs := []) hx hd
    have back : ∀ l, (upd (upd H4 dx (.own x)) x (.ins D.B dx [])) l = none → H l = none := fun l hl => fresh_back (e4.trans ex) hl
    exact ⟨x, dx, a, b, as, ms, rfl, upd_same, ex_l (e4.trans ex) ha, ex_l (e4.trans ex) hb, fun H' l1 l2 k1 k2 k3 k4 k5 k6 k7 => q4 H' (fun b o e => k7 b o (ex b o e) (ne_of_none e hx)) ⟨dx, l1, l2, k4, k5, k6, back l1 k1, back l2 k2, k3⟩⟩
theorem ev_showsKN {a : Addr} {o : Option Int} {ws : List Int} {m : Int} (h : EvN ta σ H (fun p H' => KAt D H' p o)) (ht : EvA t σ H [.ref a, .int m]) (hS : SqL K H a (ws.map V.int)) (tb : Tb H D.P1) :
    Ev (tMethP (ShowsMt K D) "shows" ta t) σ H (.bl (kVal o ws m)) := ev_methPN h ht fun p H1 e1 hw => by
  cases o with
  | none =>
    obtain ⟨dx, hp⟩ := hw
    exact ⟨D.A, dx, [], spAllShows K D, .inl ⟨rfl, rfl⟩, hp, rfl, fun H3 e3 Q3 q3 E3 => ⟨p, a, ws, m, rfl, ex_l (e1.trans e3) hS, q3⟩⟩
  | some n =>
    obtain ⟨dx, hp⟩ := hw
    exact ⟨D.G, dx, fG n, spGapShows K D, .inr (.inl ⟨rfl, rfl⟩), hp, fG_no n, fun H3 e3 Q3 q3 E3 => ⟨p, a, n, ws, m, rfl, ⟨dx, e3 _ _ hp⟩, ex_l (e1.trans e3) hS, (e1.trans e3) _ _ tb, q3⟩⟩
/-- .. on a new list -/
theorem ev_showsKL {n : Int} {ws : List Int} {m : Int} (h : EvN ta σ H (fun p H' => KAt D H' p (some n))) (hl : EvL tb σ H (ws.map V.int)) (hc : Ev tc σ H (.int m)) (tb' : Tb H D.P1) :
    Ev (tMethP (ShowsMt K D) "shows" ta (tCons tb (tCons tc tNil))) σ H (.bl (gapOk n ws m)) := fun H1 e Q q =>
  h H1 e _ fun p H2 _ e2 ⟨dx, hp⟩ => ⟨p, D.G, dx, fG n, spGapShows K D, rfl, .inr (.inl ⟨rfl, rfl⟩), hp, fG_no n, hl H2 (e.trans e2) _ fun l H3 _ e3 h3 => hc H3 (e.trans (e2.trans e3)) _ fun H4 e4 =>
    ⟨p, l, n, ws, m, rfl, ⟨dx, (e3.trans e4) _ _ hp⟩, sq_of (e4 l _ h3), (e.trans (e2.trans (e3.trans e4))) _ _ tb', fun H5 e5 => q H5 (e2.trans (e3.trans (e4.trans e5)))⟩⟩
theorem ev_isiNewG {o : Option Int} (T : ClF K D.A) (T2 : ClF K D.G) (KT : Kit K D) (h : EvN ta σ H (fun p H' => KAt D H' p o)) : Ev (tCB (rIsi K) (tCons ta (tCons (tC (.ref D.G)) tNil))) σ H (.bl o.isSome) := fun H1 e Q q =>
  h H1 e _ fun p H2 hp e2 hk => ev_isiG (ta := fun _ H Q => Q (.ref p) H) (σ := σ) (H := H2) T T2 KT (fun H3 e3 Q3 q3 => q3 H3 (Ex.refl H3)) hk H2 (Ex.refl H2) Q fun H3 e3 => q H3 (e2.trans e3)
/-- x.number, x a new Gap -/
theorem ev_numN {n : Int} (h : EvN ta σ H (fun p H' => KAt D H' p (some n))) (c : Cls K D.G) (nn : NoAttr K D.G "number") : Ev (tFld K ta "number") σ H (.int n) :=
  ev_fldN h fun p H1 _ ⟨dx, hp⟩ => ⟨D.G, dx, fG n, hp, c, nn, fG_at n⟩
/-- len(x.added), x a new Best -/
theorem ev_lenAdded {H0 : Hp} {as ms : List Int} (h : EvN ta σ H (BestNew D H0 as ms)) (c : Cls K D.B) (n : NoAttr K D.B "added") : Ev (tCB (rLenS K) (tCons (tFld K ta "added") tNil)) σ H (.int (as.length : Int)) := fun H1 e Q q =>
  h H1 e _ fun p H2 hp e2 hw => by
    obtain ⟨dx, l1, l2, a, b, _⟩ := hw
    exact ⟨p, D.B, dx, _, _, rfl, a, c, n, fB_added l1 l2, l1, _, rfl, .inl (sq_of b), by rw [List.length_map]; exact q H2 e2⟩
/-- x.misses == a new list, x a new Best -/
theorem ev_misEq {H0 : Hp} {as ms ks : List Int} (h : EvN ta σ H (BestNew D H0 as ms)) (c : Cls K D.B) (n : NoAttr K D.B "misses") (hb : EvL tb σ H (ks.map V.int)) : Ev (tOp (rEqD K) (tFld K ta "misses") tb) σ H (.bl (decide (ms = ks))) := fun H1 e Q q =>
  h H1 e _ fun p H2 hp e2 hw => by
    obtain ⟨dx, l1, l2, a, _, b, _⟩ := hw
    exact ⟨p, D.B, dx, _, _, rfl, a, c, n, fB_misses l1 l2, hb H2 (e.trans e2) _ fun k H3 hk e3 h3 => rv_eqL (sq_of (e3 _ _ b)) (sq_of h3) H3 (Ex.refl H3) Q fun H4 e4 => q H4 ((e2.trans e3).trans e4)⟩
/-- two new lists in a new list -/
def TwoN (H0 : Hp) (xs ys : List V) : Addr → Hp → Prop := fun p H2 => ∃ c d, H2 p = some (.lst [.ref c, .ref d]) ∧ H2 c = some (.lst xs) ∧ H2 d = some (.lst ys) ∧ H0 c = none ∧ H0 d = none ∧ c ≠ d
theorem en_two {xs ys : List V} (ha : EvL ta σ H xs) (hb : EvL tb σ H ys) : EvN (tLst (tCons ta (tCons tb tNil))) σ H (TwoN H xs ys) := fun H1 e Q q =>
  ha H1 e _ fun c H2 hc e2 h2 => hb H2 (e.trans e2) _ fun d H3 hd e3 h3 => ⟨by show 2 ≤ sizeLine; decide, fun p hp => q p _ (fresh_back (e2.trans e3) hp) ((e2.trans e3).trans (Ex.new hp))
    ⟨c, d, upd_same, ((e3.trans (Ex.new hp)) _ _ h2), (Ex.new hp) _ _ h3, fresh_back e hc, fresh_back (e.trans e2) hd, ne_of_none h2 hd⟩⟩
theorem ev_negI {i : Int} (ha : Ev ta σ H (.int i)) : Ev (tUn (rU fun i => V.int (-i)) ta) σ H (.int (-i)) := fun H1 e Q q => ha H1 e _ fun H2 e2 => ⟨i, rfl, q H2 e2⟩
theorem ev_isiBool {b : Bool} (ha : Ev ta σ H (.bl b)) : Ev (tCB (rIsi K) (tCons ta (tCons (tC (.ty "bool")) tNil))) σ H (.bl true) := fun H1 e Q q =>
  ha H1 e _ fun H2 e2 => ⟨.bl b, .ty "bool", .type "bool", .type "bool", true, rfl, .ty "bool", .base (.bl b), kit_ty (by decide +kernel), q H2 e2⟩
theorem ev_inLNI {n : Int} {ws : List Int} (ha : Ev ta σ H (.int n)) (hb : EvL tb σ H (ws.map V.int)) : Ev (tOp (rIn K false) ta tb) σ H (.bl (ws.contains n)) :=
  ev_is (ev_opL ha hb fun p H1 hp _ => rv_isL (sq_of hp) rfl (flat_ints ws)) (by rw [inV_int])
theorem el_rep1 {xs : List V} {k : Int} (ha : EvL ta σ H xs) (hb : Ev tb σ H (.int k)) (k0 : 0 ≤ k) (k1 : k ≤ 1000) (hl : xs.length ≤ 10) : EvL (tOp rRep ta tb) σ H (List.replicate k.toNat xs).flatten := fun H1 e Q q =>
  ha H1 e _ fun l H2 _ e2 hx => hb H2 (e.trans e2) _ fun H3 e3 => ⟨l, k, xs, rfl, rfl, e3 l _ hx, by omega, by omega, by
    refine sz_of (Nat.le_trans (Nat.mul_le_mul hl (show k.toNat ≤ 1000 by omega)) (by decide)), fun p hp => q p _ (fresh_back (e2.trans e3) hp) ((e2.trans e3).trans (Ex.new hp)) upd_same⟩
theorem el_ifL {tt : TT} {b : Bool} {xs : List V} (h : EvT tt σ H b) (h1 : b = true → EvL ta σ H xs) (h2 : b = false → EvL tb σ H xs) : EvL (tIf tt ta tb) σ H xs := fun H1 e Q q => h H1 e _ fun H2 e2 => by
  cases b with
  | true =>
    show ta σ H2 Q
    exact h1 rfl H2 (e.trans e2) Q fun p H3 hp e3 h3 => q p H3 (fresh_back e2 hp) (e2.trans e3) h3
  | false =>
    show tb σ H2 Q
    exact h2 rfl H2 (e.trans e2) Q fun p H3 hp e3 h3 => q p H3 (fresh_back e2 hp) (e2.trans e3) h3
theorem el_lcT {xs : List V} {tl : TE} {j : Nat} {vs : List Nat} (F : Nat → V) (h : EvU tl σ H xs) (hz : xs.length ≤ 40000) (hw : ∀ x, wipe ((wipe σ vs).set j (some x)) vs = wipe σ vs)
    (he : ∀ (i : Nat) (x : V) H1, Ex H H1 → xs[i]? = some x → Ev te ((wipe σ vs).set j (some x)) H1 (F i)) : EvL (tLc (iTup K tl) (gName j) tYes te vs) σ H ((List.range xs.length).map F) := by
  have g : given xs.length (fun _ => true) F = (List.range xs.length).map F := by
    unfold given
    rw [List.filter_eq_self.mpr (fun _ _ => rfl)]
  rw [← g]
  exact fun H0 e Q q => h H0 e _ fun a H1 ha e1 hx => ⟨a, rfl, ⟨xs, st_of hx⟩, fun Dl hD =>
    lc_tup (xs := xs) (Cw H1 (fun _ => true) F Dl) ⟨hD, Ex.new hD, upd_same⟩ (fun i H' _ p => st_of (p.2.1 a _ hx)) (fun i x H' hi p => ⟨hw x, cw_turn p (by have := (List.getElem?_eq_some_iff.mp hi).1; omega) (fun H8 e8 Q8 q8 => q8 H8 (Ex.refl H8)) (fun _ => he i x H1 (e.trans e1) hi)⟩)
      (fun H' p => q Dl H' (fresh_back e1 p.1) (e1.trans p.2.1) p.2.2)⟩
/-- any([x >= y for x, y in zip(xs, xs[1:])]), xs rising -/
theorem ev_anyZip {a : Addr} {ns : List Int} {i j k : Nat} {vs : List Nat} (hi : σ[i]? = some (some (.ref a))) (hS : H a = some (.lst (ns.map V.int))) (hz : ns.length ≤ 40000) (rise : ns.Pairwise (· < ·))
    (hw : ∀ x y, wipe (((wipe σ vs).set j (some x)).set k (some y)) vs = wipe σ vs) (hj : ∀ x y, (((wipe σ vs).set j (some x)).set k (some y))[j]? = some (some x)) (hk : ∀ x y, (((wipe σ vs).set j (some x)).set k (some y))[k]? = some (some y)) :
    Ev (tCB (rAny K) (tCons (tLc (iZip K (tCons (tVar i) (tCons (tSl (rSlL K) (tVar i) (tPart (tC (.int 1))) tNoPart) tNil))) (gTup K 2 (gCons (gName j) (gCons (gName k) gNil))) tYes (tOp (rI0 fun i j => .bl (decide (j ≤ i))) (tVar j) (tVar k)) vs) tNil)) σ H (.bl false) := by
  refine ev_is (ev_anyN (bs := List.replicate (min (ns.map V.int).length ((ns.map V.int).drop 1).length) false) (xs := (List.replicate (min (ns.map V.int).length ((ns.map V.int).drop 1).length) false).map V.bl) (fun H1 e Q q => ?_) rfl) ?_
  · refine ⟨.ref a, hi, ?_⟩
    show tSl (rSlL K) (tVar i) (tPart (tC (.int 1))) tNoPart σ H1 _
    refine (el_drop (k := 1) (sq_of (e _ _ hS)) (ev_var hi) ev_c) H1 (Ex.refl H1) _ fun p H3 hp e03 h3 => ?_
    refine ⟨a, p, ns.map V.int, (ns.map V.int).drop 1, rfl, sq_of ((e.trans e03) _ _ hS), sq_of h3, fun d hd => ?_⟩
    refine lc_it (walk_zip (K := K) (xs := ns.map V.int) (ys := (ns.map V.int).drop 1) rfl) (fun i H' => Ex H3 H' ∧ H' d = some (.lst ((List.replicate i false).map V.bl))) ⟨Ex.new hd, upd_same⟩ (fun i H' _ h => ⟨sq_of ((e.trans (e03.trans h.1)) _ _ hS), sq_of (h.1 _ _ h3)⟩) (fun i x H' H'' hi2 h y => ?_) fun H4 h => ?_
    · obtain ⟨T, x1, y1, rfl, hT, rfl, hx1, hy1⟩ := y
      obtain ⟨n1, hn1, rfl⟩ := vget hx1
      have hy1 : ((ns.map V.int).drop 1)[i]? = some y1 := hy1
      rw [List.getElem?_drop] at hy1
      obtain ⟨n2, hn2, rfl⟩ := vget hy1
      have lt : n1 < n2 := by
        obtain ⟨l1, g1⟩ := List.getElem?_eq_some_iff.mp hn1
        obtain ⟨l2, g2⟩ := List.getElem?_eq_some_iff.mp hn2
        have := List.pairwise_iff_getElem.mp rise i (1 + i) l1 l2 (by omega)
        rw [g1, g2] at this
        exact this
      obtain ⟨eX, hd2⟩ := h
      refine ⟨T, [.int n1, .int n2], rfl, .inl (.inl upd_same), rfl, _, _, rfl, _, _, rfl, rfl, hw _ _, ?_⟩
      have e5 := Ex.new (o := .tup [.int n1, .int n2]) hT
      refine (ev_ge (ev_var (hj _ _)) (ev_var (hk _ _))) _ (Ex.refl _) _ fun H6 e6 => ⟨_, e6 _ _ (e5 _ _ hd2), ?_, Ex.mut (eX.trans (e5.trans e6)) hd, ?_⟩
      · rw [List.length_map, List.length_replicate]
        refine lt_line ?_
        rw [List.length_map] at hi2
        omega
      · rw [upd_same, decide_eq_false (show ¬ n2 ≤ n1 by omega), List.replicate_succ', List.map_append]
        rfl
    · exact q d H4 (fresh_back e03 hd) (e03.trans h.1) h.2
  · refine congrArg V.bl (List.any_eq_false.mpr fun x hx => ?_)
    rw [(List.mem_replicate.mp hx).2]
    decide
end
/-! promises -/
def spSays : Sp := fun vs H Q _ => ∃ b c : Bool, vs = [.bl b, .bl c] ∧ RetV (.bl (b == c)) H Q
def spBent (K : PySem.W.Frag) : Sp := fun vs H Q _ => ∃ (a : Addr) (ns : List Int) (c : Int), vs = [.ref a, .int c] ∧ SqL K H a (ns.map V.int) ∧ ns.length ≤ 10000 ∧ RetN (IntsN (ns.length + 1)) H Q
def spBestR (K : PySem.W.Frag) (D : Ad) : Sp := fun vs H Q _ => ∃ (a l1 l2 : Addr) (ws as ms : List Int) (m : Int), vs = [.ref a, .int m, .ref l1, .ref l2] ∧ H a = some (.lst (ws.map V.int)) ∧ H l1 = some (.lst (as.map V.int)) ∧ H l2 = some (.lst (ms.map V.int)) ∧
  Pos ws ∧ ws.length ≤ 10000 ∧ as.length ≤ 10000 ∧ ms.length ≤ 10000 ∧ Tb H D.P2 ∧ RetV (.bl true) H Q
def spFewProm (K : PySem.W.Frag) (D : Ad) : Sp := fun vs H Q _ => vs = [.int 1000000000000000000000000000000] ∧ Tb H D.P2 ∧ RetV (.bl true) H Q
def spProm (K : PySem.W.Frag) (D : Ad) : Sp := fun vs H Q _ => vs = [] ∧ Tb H D.P1 ∧ Tb H D.P2 ∧ RetV (.bl true) H Q
theorem ev_says {σ : L2.St} {H : Hp} {ta tb : TE} {E : XK} {b c : Bool} (ha : Ev ta σ H (.bl b)) (hb : Ev tb σ H (.bl c)) : Ev (tCall spSays [] E (tCons ta (tCons tb tNil))) σ H (.bl (b == c)) :=
  ev_call (ea_cons ha (ea_cons hb ea_nil)) fun H e Q q E => ⟨b, c, rfl, q⟩
end Wt
/-! ### the answers by hand: says, bent, of a Best -/
namespace Wt
open PySem PySem.Spec PyProof.Rows L2 Evl
section
variable {P : Program} {w : World} {K : PySem.W.Frag} {mg : Str → Option Value} {base : Heap}
theorem ok_LawSays {f : Addr} {fd : FuncData}
    (O : Own K mg "_law_says" ["_law_said", "_law_due_here"] sLawSays f fd) (B : Blt mg) :
    FnOk P w K mg base CX0 1 f fd ["_law_said", "_law_due_here"] spSays := by
  refine O.F.ok scLawSays (fun vs H Q E h => ?_) (fun cdv A outer s H vs Q E hr h => ?_)
  · obtain ⟨b, c, rfl, _⟩ := h
    rfl
  obtain ⟨b, c, rfl, q⟩ := h
  refine ⟨_, 
      (pss_one (ps_ret (pe_and (pe_callB (r := rIsi K) (id := "isinstance") call_isi (by rfl) B.isinstance (by decide +kernel) (pa_cons (pv 0) (pa_cons (pe_bltn (v := .ty "bool") (by rfl) B.boolT (by decide +kernel) rfl) pa_nil))) (pe_one (pe_cmpR op_eq (pv 0) (pv 1) (nomark _)))))), ?_⟩
  exact s_ret (ev_is (ev_andV (a := true) (b := b == c) (ev_isiBool (ev_var rfl)) fun _ => ev_eqB (ev_var rfl) (ev_var rfl)) (by rw [Bool.true_and])) q
theorem bent_len (ns : List Int) (k : Nat) (f : Int → Int) : (ns.take k ++ ((ns.take (k + 1)).drop k).map f ++ ns.drop (k + 1)).length ≤ ns.length + 1 := by
  rw [List.length_append, List.length_append, List.length_map, List.length_take, List.length_drop, List.length_drop, List.length_take]
  omega
theorem ok_LawBent {f : Addr} {fd : FuncData}
    (O : Own K mg "_law_bent" ["_law_some", "_law_cell"] sLawBent f fd) (B : Blt mg) :
    FnOk P w K mg base CX0 1 f fd ["_law_some", "_law_cell"] (spBent K) := by
  refine O.F.ok scLawBent (fun vs H Q E h => ?_) (fun cdv A outer s H vs Q E hr h => ?_)
  · obtain ⟨a, ns, c, rfl, _⟩ := h
    rfl
  obtain ⟨a, ns, c, rfl, hS, hz, q⟩ := h
  refine ⟨_, 
      (pss_cons (ps_set (i := 2) scLawBent.nd rfl (Or.inr rfl) (pe_op op_mod (pv 1) pe_int))
      (pss_cons (ps_set (i := 3) scLawBent.nd rfl (Or.inl rfl) (pe_op op_mod (pe_op op_fdivW (pv 1) pe_int) (pe_op op_add (pe_callB (r := rLenS K) (id := "len") call_len_seq (by rfl) B.len (by decide +kernel) (pa_cons (pv 0) pa_nil)) pe_int)))
      (pss_cons (ps_if (pt_cmpR (r := rIn K false) op_in_seq (pv 2) (pe_lst (pa_cons pe_int (pa_cons pe_int pa_nil))) (by rfl)) 
        (pss_one (ps_ret (pe_op op_cat (pe_op op_cat (pe_slice (r := rSlL K) sl_list (pv 0) po_none (po_some (pv 3))) (pe_lc (own := [("_law_one", 4)]) (g := gName 4) (tt := tYes) rfl scLawBent.nd (pi_list (pe_slice (r := rSlL K) sl_list (pv 0) (po_some (pv 3)) (po_some (pe_op op_add (pv 3) pe_int)))) (blkOk_by (N := nLawBent) (sc := defScope sLawBent) (by decide +kernel)) (fun _ _ _ _ _ => (pg_name (i := 4) scLawBent.nd rfl (Or.inl rfl))) (fun _ _ _ _ _ => pts_nil) (fun _ _ _ _ _ => (pe_op op_add (pv 4) (pe_ix (r := rIxT K) ix_tup (pe_tup (pa_cons pe_int (pa_cons (pe_un un_neg pe_int) pa_nil))) (pe_op op_sub (pv 2) pe_int) (fun _ _ => rfl)))))) (pe_slice (r := rSlL K) sl_list (pv 0) (po_some (pe_op op_add (pv 3) pe_int)) po_none)))) pss_nil)
      (pss_cons (ps_if (pt_cmpR op_eq (pv 2) pe_int (nomark _)) 
        (pss_one (ps_ret (pe_op op_cat (pe_slice (r := rSlL K) sl_list (pv 0) po_none (po_some (pv 3))) (pe_slice (r := rSlL K) sl_list (pv 0) (po_some (pe_op op_add (pv 3) pe_int)) po_none)))) pss_nil)
      (pss_cons (ps_if (pt_cmpR op_eq (pv 2) pe_int (nomark _)) 
        (pss_one (ps_ret (pe_op op_cat (pe_op op_cat (pe_slice (r := rSlL K) sl_list (pv 0) po_none (po_some (pv 3))) (pe_slice (r := rSlL K) sl_list (pv 0) (po_some (pv 3)) (po_some (pe_op op_add (pv 3) pe_int)))) (pe_slice (r := rSlL K) sl_list (pv 0) (po_some (pv 3)) po_none)))) pss_nil)
      (pss_cons (ps_if (pt_cmpR op_eq (pv 2) pe_int (nomark _)) 
        (pss_one (ps_ret (pe_op op_cat (pe_op op_cat (pe_slice (r := rSlL K) sl_list (pv 0) po_none (po_some (pv 3))) (pe_lc (own := [("_law_one", 4)]) (g := gName 4) (tt := tYes) rfl scLawBent.nd (pi_list (pe_slice (r := rSlL K) sl_list (pv 0) (po_some (pv 3)) (po_some (pe_op op_add (pv 3) pe_int)))) (blkOk_by (N := nLawBent) (sc := defScope sLawBent) (by decide +kernel)) (fun _ _ _ _ _ => (pg_name (i := 4) scLawBent.nd rfl (Or.inl rfl))) (fun _ _ _ _ _ => pts_nil) (fun _ _ _ _ _ => (pe_un un_neg (pv 4))))) (pe_slice (r := rSlL K) sl_list (pv 0) (po_some (pe_op op_add (pv 3) pe_int)) po_none)))) pss_nil)
      (pss_cons (ps_if (pt_cmpR op_eq (pv 2) pe_int (nomark _)) 
        (pss_one (ps_ret (pe_op op_cat (pe_op op_cat (pe_slice (r := rSlL K) sl_list (pv 0) po_none (po_some (pv 3))) (pe_lst (pa_cons (pe_op op_mod (pe_op op_fdivW (pv 1) pe_int) pe_int) pa_nil))) (pe_slice (r := rSlL K) sl_list (pv 0) (po_some (pv 3)) po_none)))) pss_nil)
      (pss_one (ps_ret (pe_ifExp (pt_cmpR op_eq (pv 2) pe_int (nomark _)) (pe_revL (pv 0)) (pe_callTy (r := rListS K) (T := "list") call_list_of (by rfl) B.listT (by decide +kernel) (pa_cons (pv 0) pa_nil)))))))))))), ?_⟩
  refine q_asg (ev_mod (ev_var rfl) ev_c (by decide)) fun H1 e1 => ?_
  have k0 := Int.emod_nonneg c (show (8 : Int) ≠ 0 by decide)
  have k1 := Int.emod_lt_of_pos c (show (0 : Int) < 8 by decide)
  generalize c % 8 = kd at k0 k1
  refine q_asg (ev_mod (ev_div (ev_var rfl) ev_c (div_lit (by decide) (by decide))) (ev_add (ev_len (ev_var rfl) (ex_l e1 hS)) ev_c) (by omega)) fun H2 e2 => ?_
  rw [List.length_map]
  obtain ⟨k, hk⟩ : ∃ k : Nat, c / 8 % ((ns.length : Int) + 1) = (k : Int) := Int.eq_ofNat_of_zero_le (Int.emod_nonneg _ (by omega))
  rw [hk]
  have e02 := e1.trans e2
  have hS2 := ex_l e02 hS
  have give : ∀ {te : TE} {σ : L2.St} {H3 : Hp} {D : Ends} {ms : List Int}, Ex H H3 → EvL te σ H3 (ms.map V.int) → ms.length ≤ ns.length + 1 → (∀ v H', Q v H' → D.rt v H') → tRet te D σ H3 := fun e3 h hl hD => s_retL h fun p H4 hp e4 h4 => hD _ _ (q p H4 (fresh_back e3 hp) (e3.trans e4) ⟨_, h4, hl⟩)
  -- the pieces
  have lo : ∀ {H3 : Hp}, Ex H2 H3 → EvL (tSl (rSlL K) (tVar 0) tNoPart (tPart (tVar 3))) [some (.ref a), some (.int c), some (.int kd), some (.int (k : Int)), none] H3 ((ns.take k).map V.int) := fun e3 => el_is (el_take (ex_l e3 hS2) (ev_var rfl) (ev_var rfl)) (by rw [List.map_take])
  have hi : ∀ {H3 : Hp}, Ex H2 H3 → EvL (tSl (rSlL K) (tVar 0) (tPart (tOp (rI0 fun i j => .int (i + j)) (tVar 3) (tC (.int 1)))) tNoPart) [some (.ref a), some (.int c), some (.int kd), some (.int (k : Int)), none] H3 ((ns.drop (k + 1)).map V.int) := fun e3 =>
    el_is (el_drop (k := k + 1) (ex_l e3 hS2) (ev_var rfl) (ev_is (v := .int ((k : Int) + 1)) (ev_add (ev_var rfl) ev_c) (congrArg V.int (by omega)))) (by rw [List.map_drop])
  have hi0 : ∀ {H3 : Hp}, Ex H2 H3 → EvL (tSl (rSlL K) (tVar 0) (tPart (tVar 3)) tNoPart) [some (.ref a), some (.int c), some (.int kd), some (.int (k : Int)), none] H3 ((ns.drop k).map V.int) := fun e3 => el_is (el_drop (ex_l e3 hS2) (ev_var rfl) (ev_var rfl)) (by rw [List.map_drop])
  have at_ : ∀ {H3 : Hp} {x4 : Option V}, Ex H2 H3 → EvL (tSl (rSlL K) (tVar 0) (tPart (tVar 3)) (tPart (tOp (rI0 fun i j => .int (i + j)) (tVar 3) (tC (.int 1))))) [some (.ref a), some (.int c), some (.int kd), some (.int (k : Int)), x4] H3 (((ns.take (k + 1)).drop k).map V.int) := fun e3 =>
    el_is (el_sl (ev_var rfl) (eo_some (ev_var rfl)) (eo_some (ev_is (v := .int ((k : Int) + 1)) (ev_add (ev_var rfl) ev_c) (congrArg V.int (show (k : Int) + 1 = ((k + 1 : Nat) : Int) by omega)))) (ex_l e3 hS2)) (by rw [cut_both, List.map_drop, List.map_take])
  have cut : ∀ {H3 : Hp} {tm : TE} {f : Int → Int}, Ex H2 H3 → EvL tm [some (.ref a), some (.int c), some (.int kd), some (.int (k : Int)), none] H3 ((((ns.take (k + 1)).drop k).map f).map V.int) →
      EvL (tOp rCat (tOp rCat (tSl (rSlL K) (tVar 0) tNoPart (tPart (tVar 3))) tm) (tSl (rSlL K) (tVar 0) (tPart (tOp (rI0 fun i j => .int (i + j)) (tVar 3) (tC (.int 1)))) tNoPart)) [some (.ref a), some (.int c), some (.int kd), some (.int (k : Int)), none] H3 ((ns.take k ++ ((ns.take (k + 1)).drop k).map f ++ ns.drop (k + 1)).map V.int) := fun {H3 tm f} e3 hm => by
    have hl := bent_len ns k f
    simp only [List.length_append, List.length_map] at hl
    refine el_is (el_catNN ?_ (el_catNN ?_ (lo e3) hm) (hi e3)) (by rw [List.map_append, List.map_append])
    · simp only [List.length_append, List.length_map]
      omega
    · simp only [List.length_map]
      omega
  refine q_when (et_test (ev_inLNI (ws := [1, 2]) (ev_var rfl) (el_lst (ea_cons ev_c (ea_cons ev_c ea_nil)) (by show 2 ≤ 100000; decide)))) (fun hb H3 e3 => ?_) fun hb H3 e3 => ?_
  · have hb : kd = 1 ∨ kd = 2 := by
      have := List.contains_iff_mem.mp hb
      simpa using this
    obtain ⟨d, hd⟩ : ∃ d : Int, atI [V.int 1, V.int (-1)] (kd - 1) = some (.int d) := by
      rcases hb with e | e
      · exact ⟨1, at_of (j := 0) (by omega) rfl⟩
      · exact ⟨-1, at_of (j := 1) (by omega) rfl⟩
    exact give (e02.trans e3) (cut (f := fun n => n + d) e3 (el_lcIN (xs := (((ns.take (k + 1)).drop k).map V.int)) (fun n => n + d) (at_ e3) rfl (by rw [List.length_drop, List.length_take]; omega) (fun _ => rfl) fun n H4 e4 _ =>
      ev_add (ev_var rfl) (ev_ixU (eu_tup (ea_cons ev_c (ea_cons (ev_negI ev_c) ea_nil)) (by show 2 ≤ 100000; decide)) (ev_sub (ev_var rfl) ev_c) hd))) (bent_len ns k _) fun _ _ h => h
  refine q_when (et_test (ev_eq (ev_var rfl) ev_c)) (fun _ H4 e4 => ?_) fun _ H4 e4 => ?_
  · have e := e3.trans e4
    refine give (ms := ns.take k ++ ns.drop (k + 1)) (e02.trans e) (el_is (el_catNN ?_ (lo e) (hi e)) (by rw [List.map_append])) ?_ fun _ _ h => h
    · rw [List.length_map, List.length_map, List.length_take, List.length_drop]
      omega
    · rw [List.length_append, List.length_take, List.length_drop]
      omega
  refine q_when (et_test (ev_eq (ev_var rfl) ev_c)) (fun _ H5 e5 => ?_) fun _ H5 e5 => ?_
  · have e := e3.trans (e4.trans e5)
    refine give (ms := ns.take k ++ (ns.take (k + 1)).drop k ++ ns.drop k) (e02.trans e) (el_is (el_catNN ?_ (el_catNN ?_ (lo e) (at_ e)) (hi0 e)) (by rw [List.map_append, List.map_append])) ?_ fun _ _ h => h
    · rw [List.length_append, List.length_map, List.length_map, List.length_map, List.length_take, List.length_drop, List.length_drop, List.length_take]
      omega
    · rw [List.length_map, List.length_map, List.length_take, List.length_drop, List.length_take]
      omega
    · rw [List.length_append, List.length_append, List.length_take, List.length_drop, List.length_drop, List.length_take]
      omega
  refine q_when (et_test (ev_eq (ev_var rfl) ev_c)) (fun _ H6 e6 => ?_) fun _ H6 e6 => ?_
  · have e := e3.trans (e4.trans (e5.trans e6))
    exact give (e02.trans e) (cut (f := fun n => -n) e (el_lcIN (xs := (((ns.take (k + 1)).drop k).map V.int)) (fun n => -n) (at_ e) rfl (by rw [List.length_drop, List.length_take]; omega) (fun _ => rfl) fun n H4 e4 _ => ev_negI (ev_var rfl))) (bent_len ns k _) fun _ _ h => h
  refine q_when (et_test (ev_eq (ev_var rfl) ev_c)) (fun _ H7 e7 => ?_) fun _ H7 e7 => ?_
  · have e := e3.trans (e4.trans (e5.trans (e6.trans e7)))
    refine give (ms := ns.take k ++ [c / 64 % 20] ++ ns.drop k) (e02.trans e) (el_is (el_catNN ?_ (el_catNN (ys := [V.int (c / 64 % 20)]) ?_ (lo e) (el_lst (ea_cons (ev_mod (ev_div (ev_var rfl) ev_c (div_lit (by decide) (by decide))) ev_c (by decide)) ea_nil) (by show 1 ≤ 100000; decide))) (hi0 e)) (by rw [List.map_append, List.map_append]; rfl)) ?_ fun _ _ h => h
    · rw [List.length_append, List.length_map, List.length_map, List.length_take, List.length_drop]
      show min k ns.length + 1 + (ns.length - k) ≤ 100000
      omega
    · rw [List.length_map, List.length_take]
      show min k ns.length + 1 ≤ 100000
      omega
    · rw [List.length_append, List.length_append, List.length_take, List.length_drop]
      show min k ns.length + 1 + (ns.length - k) ≤ ns.length + 1
      omega
  have e := e3.trans (e4.trans (e5.trans (e6.trans e7)))
  by_cases h7 : kd = 7
  · exact give (ms := ns.reverse) (e02.trans e) (el_ifL (b := true) (et_is (et_test (ev_eq (ev_var rfl) ev_c)) (decide_eq_true h7)) (fun _ => el_is (el_rev (ex_l e hS2) (ev_var rfl)) (by rw [List.map_reverse])) fun z => nomatch z) (by rw [List.length_reverse]; omega) fun _ _ h => h
  · exact give (ms := ns) (e02.trans e) (el_ifL (b := false) (et_is (et_test (ev_eq (ev_var rfl) ev_c)) (decide_eq_false h7)) (fun z => nomatch z) fun _ => el_list (ev_var rfl) (ex_l e hS2)) (by omega) fun _ _ h => h
theorem ok_LawBestRight {f fBestInit fLawDue fLawSays : Addr} {fd fdBestInit fdLawDue fdLawSays : FuncData} {D : Ad} {fGi : Addr}
    (O : Own K mg "_law_best_right" ["_law_weights", "_law_most", "_law_added", "_law_misses"] sLawBestRight f fd) (B : Blt mg) (T : Ans K mg D fGi fBestInit) (KT : Kit K D)
    (GShows : MtOk P w K mg base 3 "shows" (ShowsMt K D))
    (GBestInit : FnOk P w K mg base CX0 1 fBestInit fdBestInit ["self", "added", "misses"] (spBestInit K D)) (OBestInit : OwnM K "__init__" "Best.__init__" ["self", "added", "misses"] sBestInit fBestInit fdBestInit)
    (GLawDue : FnOk P w K mg base CX0 2 fLawDue fdLawDue ["_law_weights", "_law_most", "_law_added", "_law_misses"] (spDue3 K)) (OLawDue : Own K mg "_law_due" ["_law_weights", "_law_most", "_law_added", "_law_misses"] sLawDue fLawDue fdLawDue)
    (GLawSays : FnOk P w K mg base CX0 1 fLawSays fdLawSays ["_law_said", "_law_due_here"] spSays) (OLawSays : Own K mg "_law_says" ["_law_said", "_law_due_here"] sLawSays fLawSays fdLawSays) :
    FnOk P w K mg base CX0 4 f fd ["_law_weights", "_law_most", "_law_added", "_law_misses"] (spBestR K D) := by
  refine O.F.ok scLawBestRight (fun vs H Q E h => ?_) (fun cdv A outer s H vs Q E hr h => ?_)
  · obtain ⟨a, l1, l2, ws, as, ms, m, rfl, _⟩ := h
    rfl
  obtain ⟨a, l1, l2, ws, as, ms, m, rfl, hA, h1, h2, pos, hz, hz1, hz2, tb, q⟩ := h
  refine ⟨_, 
      (pss_cons (ps_set (i := 4) scLawBestRight.nd rfl (Or.inl rfl) (pe_lst (pa_cons (pe_callTy (r := rListS K) (T := "list") call_list_of (by rfl) B.listT (by decide +kernel) (pa_cons (pv 2) pa_nil)) (pa_cons (pe_callTy (r := rListS K) (T := "list") call_list_of (by rfl) B.listT (by decide +kernel) (pa_cons (pv 3) pa_nil)) pa_nil))))
      (pss_cons (ps_set (i := 5) scLawBestRight.nd rfl (Or.inl rfl) (pe_make T.mkB GBestInit (hr.mono (by decide)) (by rfl) T.mgB OBestInit.b .nil pass0 (pa_cons (pe_ix (r := rIxL K) ix_list (pv 4) pe_int (fun _ _ => rfl)) (pa_cons (pe_ix (r := rIxL K) ix_list (pv 4) pe_int (fun _ _ => rfl)) pa_nil))))
      (pss_cons (ps_expr (pe_bm PySem.F.plainAttrs_list PySem.F.slot_list_append PySem.F.type_list_append mt_append (pe_ix (r := rIxL K) ix_list (pv 4) pe_int (fun _ _ => rfl)) (pa_cons pe_int pa_nil)))
      (pss_cons (ps_expr (pe_bm PySem.F.plainAttrs_list PySem.F.slot_list_append PySem.F.type_list_append mt_append (pe_ix (r := rIxL K) ix_list (pv 4) pe_int (fun _ _ => rfl)) (pa_cons pe_int pa_nil)))
      (pss_cons (ps_if (PW.pt (pw_or (pt_cmpR (r := rNeD K) (op_neD hr.units) (pe_fld (pv 5) rfl) (pv 2) (nomark _)) (pw_or1 (pt_cmpR (r := rNeD K) (op_neD hr.units) (pe_fld (pv 5) rfl) (pv 3) (nomark _))))) 
        (pss_one (ps_ret pe_bl)) pss_nil)
      (pss_one (ps_ret (pe_call GLawSays (hr.mono (by decide)) (by rfl) OLawSays.g OLawSays.F.kp OLawSays.b .nil pass0 (pa_cons (pe_methP GShows (hr.mono (by decide)) (pv 5) (pa_cons (pv 0) (pa_cons (pv 1) pa_nil))) (pa_cons (pe_call GLawDue (hr.mono (by decide)) (by rfl) OLawDue.g OLawDue.F.kp OLawDue.b .nil pass0 (pa_cons (pv 0) (pa_cons (pv 1) (pa_cons (pv 2) (pa_cons (pv 3) pa_nil))))) pa_nil)))))))))), ?_⟩
  refine q_asgN (en_two (el_list (ev_var rfl) (sq_of h1)) (el_list (ev_var rfl) (sq_of h2))) fun p H1 hp e1 ⟨c, d, hp1, hc1, hd1, hcn, hdn, hcd⟩ => ?_
  have i0 : atI [V.ref c, V.ref d] 0 = some (.ref c) := at_of (j := 0) rfl rfl
  have i1 : atI [V.ref c, V.ref d] 1 = some (.ref d) := at_of (j := 1) rfl rfl
  refine q_asgN (en_best (as := as) (ms := ms) (ea_cons (ev_ixL (sq_of hp1) (ev_var rfl) ev_c i0) (ea_cons (ev_ixL (sq_of hp1) (ev_var rfl) ev_c i1) ea_nil)) (sq_of hc1) (sq_of hd1)) fun f H2 hf e2 ⟨dx, b1, b2, f2, k1, k2, n1, n2, nb⟩ => ?_
  have hc2 := e2 _ _ hc1
  have hd2 := e2 _ _ hd1
  have pc : p ≠ c := ne_of hp1 hc1 (fun z => by cases as <;> cases z)
  have pd : p ≠ d := ne_of hp1 hd1 (fun z => by cases ms <;> cases z)
  refine q_app hc2 (ev_ixL (sq_of (e2 _ _ hp1)) (ev_var rfl) ev_c i0) ev_c (by rw [List.length_map]; omega) fun H3 e3 => ?_
  have c1 : c ≠ b1 := ne_of_none hc1 n1
  have c2 : c ≠ b2 := ne_of_none hc1 n2
  have d1 : d ≠ b1 := ne_of_none hd1 n1
  have d2 : d ≠ b2 := ne_of_none hd1 n2
  have x3 : Ex H (upd H3 c (.lst (as.map V.int ++ [.int 1]))) := Ex.mut (e1.trans (e2.trans e3)) hcn
  have fc : f ≠ c := ne_of f2 hc2 (fun z => by cases z)
  have fd : f ≠ d := ne_of f2 hd2 (fun z => by cases z)
  have u3 : ∀ b o, H2 b = some o → b ≠ c → (upd H3 c (.lst (as.map V.int ++ [.int 1]))) b = some o := fun b o h n => by
    rw [upd_ne n]
    exact e3 _ _ h
  refine q_app (u3 _ _ hd2 hcd.symm) (ev_ixL (sq_of (u3 _ _ (e2 _ _ hp1) pc)) (ev_var rfl) ev_c i1) ev_c (by rw [List.length_map]; omega) fun H4 e4 => ?_
  have x4 : Ex H (upd H4 d (.lst (ms.map V.int ++ [.int 1]))) := Ex.mut (x3.trans e4) hdn
  have u4 : ∀ b o, H2 b = some o → b ≠ c → b ≠ d → (upd H4 d (.lst (ms.map V.int ++ [.int 1]))) b = some o := fun b o h n n2 => by
    rw [upd_ne n2]
    exact e4 _ _ (u3 _ _ h n)
  have f4 := u4 _ _ f2 fc fd
  have k14 := u4 _ _ k1 c1.symm d1.symm
  have k24 := u4 _ _ k2 c2.symm d2.symm
  generalize (upd H4 d (.lst (ms.map V.int ++ [.int 1]))) = H5 at x4 f4 k14 k24
  refine q_when (b := false) (et_is (et_or (a := !decide (as = as)) (b := !decide (ms = ms)) (et_test (ev_op (ev_fld (ev_var rfl) f4 T.clB.cls T.nB1 (fB_added b1 b2)) (ev_var rfl) (rv_neL (sq_of k14) (sq_of (x4 _ _ h1))))) fun _ =>
    et_test (ev_op (ev_fld (ev_var rfl) f4 T.clB.cls T.nB2 (fB_misses b1 b2)) (ev_var rfl) (rv_neL (sq_of k24) (sq_of (x4 _ _ h2))))) (by rw [decide_eq_true rfl, decide_eq_true rfl]; rfl)) (fun z => nomatch z) fun _ H6 e6 => ?_
  exact s_ret (v := .bl true) (ev_is (ev_says (b := bestOk as ms ws m) (c := bestOk as ms ws m) (ev_showsB (ev_var rfl) (e6 _ _ f4) (e6 _ _ k14) (e6 _ _ k24) (ea_cons (ev_var rfl) (ea_cons (ev_var rfl) ea_nil)) ((x4.trans e6) _ _ hA) ((x4.trans e6) _ _ tb) (by omega))
    (ev_call (ea_cons (ev_var rfl) (ea_cons (ev_var rfl) (ea_cons (ev_var rfl) (ea_cons (ev_var rfl) ea_nil)))) fun H e Q q E => ⟨a, l1, l2, ws, as, ms, m, rfl, (x4.trans (e6.trans e)) _ _ hA, (x4.trans (e6.trans e)) _ _ h1, sq_of ((x4.trans (e6.trans e)) _ _ h2), pos, by omega, by omega, q⟩))
    (by cases bestOk as ms ws m <;> rfl)) fun H7 e7 => q H7 (x4.trans (e6.trans e7))
end
end Wt
/-! ### the answers by hand: as on paper -/
namespace Wt
open PySem PySem.Spec PyProof.Rows L2 Evl
theorem gC_0 : gapsC [] 0 = [] := by unfold gapsC; rw [srt_is]; decide +kernel
theorem gC_1 : gapsC [] 1 = [1] := by unfold gapsC; rw [srt_is]; decide +kernel
theorem gC_3 : gapsC [] 3 = [1, 2] := by unfold gapsC; rw [srt_is]; decide +kernel
theorem gC_7 : gapsC [] 7 = [1, 2, 4] := by unfold gapsC; rw [srt_is]; decide +kernel
theorem gC_g : (gapsC [] 1000000000000000000000000000000).length = 100 := by unfold gapsC; rw [srt_is]; decide +kernel
theorem gC_12 : gapsC [1, 2] 3 = [] := by unfold gapsC; rw [srt_is]; decide +kernel
section
variable {P : Program} {w : World} {K : PySem.W.Frag} {mg : Str → Option Value} {base : Heap}
set_option maxHeartbeats 16000000 in
theorem ok_LawFewestPromises {f fBestInit fFewest fTold : Addr} {fd fdBestInit fdFewest fdTold : FuncData} {D : Ad} {fGi : Addr}
    (O : Own K mg "_law_fewest_promises" ["_law_great"] sLawFewestPromises f fd) (B : Blt mg) (T : Ans K mg D fGi fBestInit) (KT : Kit K D)
    (GShows : MtOk P w K mg base 3 "shows" (ShowsMt K D))
    (GBestInit : FnOk P w K mg base CX0 1 fBestInit fdBestInit ["self", "added", "misses"] (spBestInit K D)) (OBestInit : OwnM K "__init__" "Best.__init__" ["self", "added", "misses"] sBestInit fBestInit fdBestInit)
    (GFewest : FnOk P w K mg base CX0 4 fFewest fdFewest ["weights", "most"] (spFewest K D)) (OFewest : Own K mg "fewest" ["weights", "most"] sFewest fFewest fdFewest)
    (GTold : FnOk P w K mg base CX0 4 fTold fdTold ["weights", "most"] (spTold K D)) (OTold : Own K mg "told" ["weights", "most"] sTold fTold fdTold) :
    FnOk P w K mg base CX0 5 f fd ["_law_great"] (spFewProm K D) := by
  refine O.F.ok scLawFewestPromises (fun vs H Q E h => ?_) (fun cdv A outer s H vs Q E hr h => ?_)
  · obtain ⟨rfl, _⟩ := h
    rfl
  obtain ⟨rfl, tb, q⟩ := h
  refine ⟨_, 
      (pss_cons (ps_if (PW.pt (pw_or (pt_not (pt_val (pe_callB (r := rIsi K) (id := "isinstance") call_isi (by rfl) B.isinstance (by decide +kernel) (pa_cons (pe_call GTold (hr.mono (by decide)) (by rfl) OTold.g OTold.F.kp OTold.b .nil pass0 (pa_cons (pe_lst pa_nil) (pa_cons pe_int pa_nil))) (pa_cons (pe_glob (v := .ref D.A) (by rfl) T.mgA rfl) pa_nil))))) (pw_or1 (pt_not (pt_val (pe_callB (r := rIsi K) (id := "isinstance") call_isi (by rfl) B.isinstance (by decide +kernel) (pa_cons (pe_call GTold (hr.mono (by decide)) (by rfl) OTold.g OTold.F.kp OTold.b .nil pass0 (pa_cons (pe_lst pa_nil) (pa_cons pe_int pa_nil))) (pa_cons (pe_glob (v := .ref D.G) (by rfl) T.mgG rfl) pa_nil)))))))) 
        (pss_one (ps_ret pe_bl)) pss_nil)
      (pss_cons (ps_if (PW.pt (pw_or (pt_not (pt_val (pe_callB (r := rIsi K) (id := "isinstance") call_isi (by rfl) B.isinstance (by decide +kernel) (pa_cons (pe_call GTold (hr.mono (by decide)) (by rfl) OTold.g OTold.F.kp OTold.b .nil pass0 (pa_cons (pe_lst (pa_cons pe_int (pa_cons pe_int pa_nil))) (pa_cons pe_int pa_nil))) (pa_cons (pe_glob (v := .ref D.A) (by rfl) T.mgA rfl) pa_nil))))) (pw_or1 (pt_not (pt_val (pe_callB (r := rIsi K) (id := "isinstance") call_isi (by rfl) B.isinstance (by decide +kernel) (pa_cons (pe_call GTold (hr.mono (by decide)) (by rfl) OTold.g OTold.F.kp OTold.b .nil pass0 (pa_cons (pe_lst (pa_cons (pv 0) pa_nil)) (pa_cons (pv 0) pa_nil))) (pa_cons (pe_glob (v := .ref D.G) (by rfl) T.mgG rfl) pa_nil)))))))) 
        (pss_one (ps_ret pe_bl)) pss_nil)
      (pss_cons (ps_set (i := 1) scLawFewestPromises.nd rfl (Or.inl rfl) (pe_lst (pa_cons (pe_tup (pa_cons (pe_lst (pa_cons pe_int (pa_cons pe_int pa_nil))) (pa_cons (pe_lst (pa_cons pe_int (pa_cons pe_int pa_nil))) (pa_cons (pe_lst pa_nil) (pa_cons pe_int (pa_cons pe_bl pa_nil)))))) (pa_cons (pe_tup (pa_cons (pe_lst (pa_cons pe_int (pa_cons pe_int pa_nil))) (pa_cons (pe_lst (pa_cons pe_int (pa_cons pe_int pa_nil))) (pa_cons (pe_lst pa_nil) (pa_cons pe_int (pa_cons pe_bl pa_nil)))))) pa_nil))))
      (pss_cons (ps_set (i := 1) scLawFewestPromises.nd rfl (Or.inl rfl) (pe_op op_cat (pv 1) (pe_lst (pa_cons (pe_tup (pa_cons (pe_lst (pa_cons pe_int (pa_cons pe_int pa_nil))) (pa_cons (pe_lst (pa_cons pe_int (pa_cons pe_int pa_nil))) (pa_cons (pe_lst pa_nil) (pa_cons pe_int (pa_cons pe_bl pa_nil)))))) (pa_cons (pe_tup (pa_cons (pe_lst (pa_cons pe_int (pa_cons pe_int pa_nil))) (pa_cons (pe_lst (pa_cons pe_int (pa_cons pe_int pa_nil))) (pa_cons (pe_lst pa_nil) (pa_cons pe_int (pa_cons pe_bl pa_nil)))))) pa_nil)))))
      (pss_cons (ps_set (i := 1) scLawFewestPromises.nd rfl (Or.inl rfl) (pe_op op_cat (pv 1) (pe_lst (pa_cons (pe_tup (pa_cons (pe_lst (pa_cons pe_int (pa_cons pe_int (pa_cons pe_int pa_nil)))) (pa_cons (pe_lst (pa_cons pe_int (pa_cons pe_int pa_nil))) (pa_cons (pe_lst pa_nil) (pa_cons pe_int (pa_cons pe_bl pa_nil)))))) (pa_cons (pe_tup (pa_cons (pe_lst (pa_cons pe_int (pa_cons pe_int pa_nil))) (pa_cons (pe_lst (pa_cons pe_int (pa_cons pe_int pa_nil))) (pa_cons (pe_lst pa_nil) (pa_cons pe_int (pa_cons pe_bl pa_nil)))))) pa_nil)))))
      (pss_cons (ps_set (i := 1) scLawFewestPromises.nd rfl (Or.inl rfl) (pe_op op_cat (pv 1) (pe_lst (pa_cons (pe_tup (pa_cons (pe_lst pa_nil) (pa_cons (pe_lst pa_nil) (pa_cons (pe_lst (pa_cons pe_int (pa_cons pe_int pa_nil))) (pa_cons pe_int (pa_cons pe_bl pa_nil)))))) (pa_cons (pe_tup (pa_cons (pe_lst pa_nil) (pa_cons (pe_lst pa_nil) (pa_cons (pe_lst pa_nil) (pa_cons pe_int (pa_cons pe_bl pa_nil)))))) (pa_cons (pe_tup (pa_cons (pe_lst pa_nil) (pa_cons (pe_lst pa_nil) (pa_cons (pe_lst pa_nil) (pa_cons pe_int (pa_cons pe_bl pa_nil)))))) pa_nil))))))
      (pss_cons (ps_set (i := 1) scLawFewestPromises.nd rfl (Or.inl rfl) (pe_op op_cat (pv 1) (pe_lst (pa_cons (pe_tup (pa_cons (pe_lst (pa_cons pe_int pa_nil)) (pa_cons (pe_lst (pa_cons pe_int pa_nil)) (pa_cons (pe_lst (pa_cons pe_int (pa_cons pe_int pa_nil))) (pa_cons pe_int (pa_cons pe_bl pa_nil)))))) (pa_cons (pe_tup (pa_cons (pe_lst (pa_cons pe_int pa_nil)) (pa_cons (pe_lst (pa_cons pe_int pa_nil)) (pa_cons (pe_lst (pa_cons pe_int (pa_cons pe_int pa_nil))) (pa_cons pe_int (pa_cons pe_bl pa_nil)))))) (pa_cons (pe_tup (pa_cons (pe_lst (pa_cons pe_int pa_nil)) (pa_cons (pe_lst (pa_cons pe_int pa_nil)) (pa_cons (pe_lst (pa_cons pe_int (pa_cons pe_int pa_nil))) (pa_cons pe_int (pa_cons pe_bl pa_nil)))))) pa_nil))))))
      (pss_cons (ps_set (i := 1) scLawFewestPromises.nd rfl (Or.inl rfl) (pe_op op_cat (pv 1) (pe_lst (pa_cons (pe_tup (pa_cons (pe_lst (pa_cons pe_int pa_nil)) (pa_cons (pe_lst (pa_cons pe_int pa_nil)) (pa_cons (pe_lst (pa_cons pe_int pa_nil)) (pa_cons pe_int (pa_cons pe_bl pa_nil)))))) (pa_cons (pe_tup (pa_cons (pe_lst (pa_cons pe_int pa_nil)) (pa_cons (pe_lst (pa_cons pe_int pa_nil)) (pa_cons (pe_lst (pa_cons pe_int pa_nil)) (pa_cons pe_int (pa_cons pe_bl pa_nil)))))) (pa_cons (pe_tup (pa_cons (pe_lst (pa_cons pe_int pa_nil)) (pa_cons (pe_lst (pa_cons pe_int pa_nil)) (pa_cons (pe_lst pa_nil) (pa_cons pe_int (pa_cons pe_bl pa_nil)))))) pa_nil))))))
      (pss_cons (ps_for PassesOwn.never rfl (pi_list (pv 1)) (pg_tup (by rfl) (pgs_cons (pg_name (i := 2) scLawFewestPromises.nd rfl (Or.inl rfl)) (pgs_cons (pg_name (i := 3) scLawFewestPromises.nd rfl (Or.inl rfl)) (pgs_cons (pg_name (i := 4) scLawFewestPromises.nd rfl (Or.inl rfl)) (pgs_cons (pg_name (i := 5) scLawFewestPromises.nd rfl (Or.inl rfl)) (pgs_cons (pg_name (i := 6) scLawFewestPromises.nd rfl (Or.inl rfl)) pgs_nil)))))) 
        (pss_one (ps_if (pt_cmpR op_ne (pe_methP GShows (hr.mono (by decide)) (pe_make T.mkB GBestInit (hr.mono (by decide)) (by rfl) T.mgB OBestInit.b .nil pass0 (pa_cons (pv 2) (pa_cons (pv 3) pa_nil))) (pa_cons (pv 4) (pa_cons (pv 5) pa_nil))) (pv 6) (nomark _)) 
          (pss_one (ps_ret pe_bl)) pss_nil)))
      (pss_cons (ps_if (pt_not (pt_cmpR (r := rEqD K) (op_eqD hr.units) (pe_lc (own := [("_law_most", 5)]) (g := gName 5) (tt := tYes) rfl scLawFewestPromises.nd (pi_tup (pe_tup (pa_cons pe_int (pa_cons pe_int (pa_cons pe_int (pa_cons pe_int (pa_cons (pv 0) pa_nil))))))) (blkOk_by (N := nLawFewestPromises) (sc := defScope sLawFewestPromises) (by decide +kernel)) (fun _ _ _ _ _ => (pg_name (i := 5) scLawFewestPromises.nd rfl (Or.inl rfl))) (fun _ _ _ _ _ => pts_nil) (fun _ _ _ _ _ => (pe_callB (r := rLenS K) (id := "len") call_len_seq (by rfl) B.len (by decide +kernel) (pa_cons (pe_fldK (K := K) rfl (pe_call GFewest (hr.mono (by decide)) (by rfl) OFewest.g OFewest.F.kp OFewest.b .nil pass0 (pa_cons (pe_lst pa_nil) (pa_cons (pv 5) pa_nil))) rfl) pa_nil)))) (pe_lst (pa_cons pe_int (pa_cons pe_int (pa_cons pe_int (pa_cons pe_int (pa_cons pe_int pa_nil)))))) (nomark _))) 
        (pss_one (ps_ret pe_bl)) pss_nil)
      (pss_one (ps_ret (pe_cmpR (r := rEqD K) (op_eqD hr.units) (pe_fld (pe_call GFewest (hr.mono (by decide)) (by rfl) OFewest.g OFewest.F.kp OFewest.b .nil pass0 (pa_cons (pe_lst (pa_cons pe_int (pa_cons pe_int pa_nil))) (pa_cons pe_int pa_nil))) rfl) (pe_lst pa_nil) (nomark _)))))))))))))), ?_⟩
  have toldL : ∀ {σ : L2.St} {H : Hp} {ta tb : TE} {ws : List Int} {m : Int}, EvL ta σ H (ws.map V.int) → Ev tb σ H (.int m) → Pos ws → 0 ≤ m → EvN (tCall (spTold K D) [] E0 (tCons ta (tCons tb tNil))) σ H (fun p H' => KAt D H' p (tellO ws m)) := fun {σ H ta tb ws m} ha hb p h0 =>
    en_callL ha hb fun p' H2 hp' e2 => fun H3 e3 Q3 q3 E3 => ⟨p', ws, m, rfl, sq_of (e3 _ _ hp'), p, h0, q3⟩
  have fewL : ∀ {σ : L2.St} {H : Hp} {ta tb : TE} {ws : List Int} {m : Int}, EvL ta σ H (ws.map V.int) → Ev tb σ H (.int m) → Pos ws → ws.length ≤ 1000 → 0 ≤ m → m < 2 ^ 1000 → EvN (tCall (spFewest K D) [] E0 (tCons ta (tCons tb tNil))) σ H (BestNew D H (gapsC ws m) (gapsC ws m)) := fun {σ H ta tb ws m} ha hb p hl h0 h1 =>
    en_callL ha hb fun p' H2 hp' e2 => fun H3 e3 Q3 q3 E3 => ⟨p', ws, m, rfl, sq_of (e3 _ _ hp'), p, by omega, h0, h1, fun p2 H4 hp2 e4 hw => q3 p2 H4 hp2 e4 (hw.back (e2.trans e3))⟩
  have p0 : Pos ([] : List Int) := fun _ h => nomatch h
  refine q_when (b := false) (et_is (et_or (a := false) (b := false) (et_is (et_not (et_B (ev_isiNew T.clA T.clG KT (toldL (ws := []) (m := 0) el_nil ev_c p0 (by decide))))) (by unfold tellO; rw [show gap [] = 1 by (rw [gap_is_F]; decide +kernel)]; rfl)) fun _ =>
    et_is (et_not (et_B (ev_isiNewG T.clA T.clG KT (toldL (ws := []) (m := 1) el_nil ev_c p0 (by decide))))) (by unfold tellO; rw [show gap [] = 1 by (rw [gap_is_F]; decide +kernel)]; rfl)) rfl) (fun z => nomatch z) fun _ H1 e1 => ?_
  refine q_when (b := false) (et_is (et_or (a := false) (b := false) (et_is (et_not (et_B (ev_isiNew T.clA T.clG KT (toldL (ws := [2, 1]) (m := 3) (el_lst (ea_cons ev_c (ea_cons ev_c ea_nil)) (by show 2 ≤ 100000; decide)) ev_c (by decide) (by decide))))) (by unfold tellO; rw [show gap [2, 1] = 4 by (rw [gap_is_F]; decide +kernel)]; rfl)) fun _ =>
    et_is (et_not (et_B (ev_isiNewG T.clA T.clG KT (toldL (ws := [1000000000000000000000000000000]) (m := 1000000000000000000000000000000) (el_lst (ea_cons (ev_var rfl) ea_nil) (by show 1 ≤ 100000; decide)) (ev_var rfl) (by decide) (by decide))))) (by unfold tellO; rw [show gap [1000000000000000000000000000000] = 1 by (rw [gap_is_F]; decide +kernel)]; rfl)) rfl) (fun z => nomatch z) fun _ H2 e2 => ?_
  refine q_asgN (W := ZL CaseB 2) (en_lstZ caseB_stays (ez_cons caseB_stays (ez_caseB (as := ([1, 2] : List Int)) (ms := ([1, 2] : List Int)) (ws := ([] : List Int)) (m := 3) (b := true) (el_lst (ea_cons ev_c (ea_cons ev_c ea_nil)) (by show 2 ≤ 100000; decide)) (el_lst (ea_cons ev_c (ea_cons ev_c ea_nil)) (by show 2 ≤ 100000; decide)) el_nil ev_c ev_c (by (unfold bestOk; simp only [srt_is, gap_is_F]; decide +kernel)) (by decide)) (ez_cons caseB_stays (ez_caseB (as := ([2, 1] : List Int)) (ms := ([1, 2] : List Int)) (ws := ([] : List Int)) (m := 3) (b := true) (el_lst (ea_cons ev_c (ea_cons ev_c ea_nil)) (by show 2 ≤ 100000; decide)) (el_lst (ea_cons ev_c (ea_cons ev_c ea_nil)) (by show 2 ≤ 100000; decide)) el_nil ev_c ev_c (by (unfold bestOk; simp only [srt_is, gap_is_F]; decide +kernel)) (by decide)) ez_nil)) (by decide)) fun a0 H3 _ e3 z0 => ?_
  refine q_asgN (W := ZL CaseB (2 + 2)) (en_catZ caseB_stays (ev_var rfl) z0 (en_lstZ caseB_stays (ez_cons caseB_stays (ez_caseB (as := ([1, 1] : List Int)) (ms := ([1, 2] : List Int)) (ws := ([] : List Int)) (m := 3) (b := false) (el_lst (ea_cons ev_c (ea_cons ev_c ea_nil)) (by show 2 ≤ 100000; decide)) (el_lst (ea_cons ev_c (ea_cons ev_c ea_nil)) (by show 2 ≤ 100000; decide)) el_nil ev_c ev_c (by (unfold bestOk; simp only [srt_is, gap_is_F]; decide +kernel)) (by decide)) (ez_cons caseB_stays (ez_caseB (as := ([1, 2] : List Int)) (ms := ([2, 1] : List Int)) (ws := ([] : List Int)) (m := 3) (b := false) (el_lst (ea_cons ev_c (ea_cons ev_c ea_nil)) (by show 2 ≤ 100000; decide)) (el_lst (ea_cons ev_c (ea_cons ev_c ea_nil)) (by show 2 ≤ 100000; decide)) el_nil ev_c ev_c (by (unfold bestOk; simp only [srt_is, gap_is_F]; decide +kernel)) (by decide)) ez_nil)) (by decide)) (by decide)) fun a1 H4 _ e4 z1 => ?_
  refine q_asgN (W := ZL CaseB (4 + 2)) (en_catZ caseB_stays (ev_var rfl) z1 (en_lstZ caseB_stays (ez_cons caseB_stays (ez_caseB (as := ([1, 2, 1] : List Int)) (ms := ([1, 2] : List Int)) (ws := ([] : List Int)) (m := 3) (b := false) (el_lst (ea_cons ev_c (ea_cons ev_c (ea_cons ev_c ea_nil))) (by show 3 ≤ 100000; decide)) (el_lst (ea_cons ev_c (ea_cons ev_c ea_nil)) (by show 2 ≤ 100000; decide)) el_nil ev_c ev_c (by (unfold bestOk; simp only [srt_is, gap_is_F]; decide +kernel)) (by decide)) (ez_cons caseB_stays (ez_caseB (as := ([0, 2] : List Int)) (ms := ([1, 2] : List Int)) (ws := ([] : List Int)) (m := 3) (b := false) (el_lst (ea_cons ev_c (ea_cons ev_c ea_nil)) (by show 2 ≤ 100000; decide)) (el_lst (ea_cons ev_c (ea_cons ev_c ea_nil)) (by show 2 ≤ 100000; decide)) el_nil ev_c ev_c (by (unfold bestOk; simp only [srt_is, gap_is_F]; decide +kernel)) (by decide)) ez_nil)) (by decide)) (by decide)) fun a2 H5 _ e5 z2 => ?_
  refine q_asgN (W := ZL CaseB (6 + 3)) (en_catZ caseB_stays (ev_var rfl) z2 (en_lstZ caseB_stays (ez_cons caseB_stays (ez_caseB (as := ([] : List Int)) (ms := ([] : List Int)) (ws := ([1, 2] : List Int)) (m := 3) (b := true) el_nil el_nil (el_lst (ea_cons ev_c (ea_cons ev_c ea_nil)) (by show 2 ≤ 100000; decide)) ev_c ev_c (by (unfold bestOk; simp only [srt_is, gap_is_F]; decide +kernel)) (by decide)) (ez_cons caseB_stays (ez_caseB (as := ([] : List Int)) (ms := ([] : List Int)) (ws := ([] : List Int)) (m := 0) (b := true) el_nil el_nil el_nil ev_c ev_c (by (unfold bestOk; simp only [srt_is, gap_is_F]; decide +kernel)) (by decide)) (ez_cons caseB_stays (ez_caseB (as := ([] : List Int)) (ms := ([] : List Int)) (ws := ([] : List Int)) (m := 1) (b := false) el_nil el_nil el_nil ev_c ev_c (by (unfold bestOk; simp only [srt_is, gap_is_F]; decide +kernel)) (by decide)) ez_nil))) (by decide)) (by decide)) fun a3 H6 _ e6 z3 => ?_
  refine q_asgN (W := ZL CaseB (9 + 3)) (en_catZ caseB_stays (ev_var rfl) z3 (en_lstZ caseB_stays (ez_cons caseB_stays (ez_caseB (as := ([4] : List Int)) (ms := ([4] : List Int)) (ws := ([1, 2] : List Int)) (m := 7) (b := true) (el_lst (ea_cons ev_c ea_nil) (by show 1 ≤ 100000; decide)) (el_lst (ea_cons ev_c ea_nil) (by show 1 ≤ 100000; decide)) (el_lst (ea_cons ev_c (ea_cons ev_c ea_nil)) (by show 2 ≤ 100000; decide)) ev_c ev_c (by (unfold bestOk; simp only [srt_is, gap_is_F]; decide +kernel)) (by decide)) (ez_cons caseB_stays (ez_caseB (as := ([3] : List Int)) (ms := ([4] : List Int)) (ws := ([1, 2] : List Int)) (m := 6) (b := true) (el_lst (ea_cons ev_c ea_nil) (by show 1 ≤ 100000; decide)) (el_lst (ea_cons ev_c ea_nil) (by show 1 ≤ 100000; decide)) (el_lst (ea_cons ev_c (ea_cons ev_c ea_nil)) (by show 2 ≤ 100000; decide)) ev_c ev_c (by (unfold bestOk; simp only [srt_is, gap_is_F]; decide +kernel)) (by decide)) (ez_cons caseB_stays (ez_caseB (as := ([3] : List Int)) (ms := ([3] : List Int)) (ws := ([1, 2] : List Int)) (m := 6) (b := false) (el_lst (ea_cons ev_c ea_nil) (by show 1 ≤ 100000; decide)) (el_lst (ea_cons ev_c ea_nil) (by show 1 ≤ 100000; decide)) (el_lst (ea_cons ev_c (ea_cons ev_c ea_nil)) (by show 2 ≤ 100000; decide)) ev_c ev_c (by (unfold bestOk; simp only [srt_is, gap_is_F]; decide +kernel)) (by decide)) ez_nil))) (by decide)) (by decide)) fun a4 H7 _ e7 z4 => ?_
  refine q_asgN (W := ZL CaseB (12 + 3)) (en_catZ caseB_stays (ev_var rfl) z4 (en_lstZ caseB_stays (ez_cons caseB_stays (ez_caseB (as := ([1] : List Int)) (ms := ([2] : List Int)) (ws := ([1] : List Int)) (m := 2) (b := true) (el_lst (ea_cons ev_c ea_nil) (by show 1 ≤ 100000; decide)) (el_lst (ea_cons ev_c ea_nil) (by show 1 ≤ 100000; decide)) (el_lst (ea_cons ev_c ea_nil) (by show 1 ≤ 100000; decide)) ev_c ev_c (by (unfold bestOk; simp only [srt_is, gap_is_F]; decide +kernel)) (by decide)) (ez_cons caseB_stays (ez_caseB (as := ([2] : List Int)) (ms := ([2] : List Int)) (ws := ([1] : List Int)) (m := 3) (b := true) (el_lst (ea_cons ev_c ea_nil) (by show 1 ≤ 100000; decide)) (el_lst (ea_cons ev_c ea_nil) (by show 1 ≤ 100000; decide)) (el_lst (ea_cons ev_c ea_nil) (by show 1 ≤ 100000; decide)) ev_c ev_c (by (unfold bestOk; simp only [srt_is, gap_is_F]; decide +kernel)) (by decide)) (ez_cons caseB_stays (ez_caseB (as := ([9] : List Int)) (ms := ([1] : List Int)) (ws := ([] : List Int)) (m := 1) (b := false) (el_lst (ea_cons ev_c ea_nil) (by show 1 ≤ 100000; decide)) (el_lst (ea_cons ev_c ea_nil) (by show 1 ≤ 100000; decide)) el_nil ev_c ev_c (by (unfold bestOk; simp only [srt_is, gap_is_F]; decide +kernel)) (by decide)) ez_nil))) (by decide)) (by decide)) fun a5 H8 _ e8 z5 => ?_
  have x0 : Ex H H8 := (e1.trans (e2.trans (e3.trans (e4.trans (e5.trans (e6.trans (e7.trans e8)))))))
  refine q_forZ caseB_stays (ev_var rfl) z5 (fun σ2 H' => (∃ y2 y3 y4 y5 y6, σ2 = [some (.int 1000000000000000000000000000000), some (.ref a5), y2, y3, y4, y5, y6]) ∧ Ex H H') (fun H' e => ⟨⟨_, _, _, _, _, rfl⟩, x0.trans e⟩) (fun x σ2 H' hx hv M hM => ?_) fun σ2 H' hv => ?_
  · obtain ⟨⟨y2, y3, y4, y5, y6, rfl⟩, ex⟩ := hv
    obtain ⟨t, l1, l2, l, as, ms, ws, m, rfl, ht, h1, h2, h3, hz⟩ := hx
    refine ⟨t, _, rfl, .inl (.inl ht), rfl, _, _, rfl, _, _, rfl, _, _, rfl, _, _, rfl, _, _, rfl, rfl, ?_⟩
    exact s_when (b := false) (et_is (et_test (ev_neB (ev_showsBN (en_best (as := as) (ms := ms) (ea_cons (ev_var rfl) (ea_cons (ev_var rfl) ea_nil)) (sq_of h1) (sq_of h2)) (ea_cons (ev_var rfl) (ea_cons (ev_var rfl) ea_nil)) h3 (ex _ _ tb) (by omega)) (ev_var rfl)))
      (by cases bestOk as ms ws m <;> rfl)) (fun z => nomatch z) fun _ H5 e5 => hM _ _ e5 ⟨⟨_, _, _, _, _, rfl⟩, ex.trans e5⟩
  obtain ⟨⟨y2, y3, y4, y5, y6, rfl⟩, ex⟩ := hv
  have big : (1000000000000000000000000000000 : Int) < 2 ^ 1000 := by decide
  refine q_when (b := false) (et_is (et_not (a := true) (et_test (ev_is (ev_opLL (xs := ([0, 1, 2, 3, 100] : List Int).map V.int) (ys := ([0, 1, 2, 3, 100] : List Int).map V.int) (el_is (el_lcT (xs := ([0, 1, 3, 7, 1000000000000000000000000000000] : List Int).map V.int) (vs := [5]) (j := 5) (fun i => V.int (([0, 1, 2, 3, 100] : List Int).getD i 0))
    (eu_tup (ea_cons ev_c (ea_cons ev_c (ea_cons ev_c (ea_cons ev_c (ea_cons (ev_var rfl) ea_nil))))) (by show 5 ≤ 100000; decide)) (by decide) (fun _ => rfl) fun i x H6 e6 hi => ?_) rfl) (el_lst (ea_cons ev_c (ea_cons ev_c (ea_cons ev_c (ea_cons ev_c (ea_cons ev_c ea_nil))))) (by show 5 ≤ 100000; decide))
    fun p q' H9 hp hq e9 => rv_eqL (sq_of hp) (sq_of hq)) rfl))) rfl) (fun z => nomatch z) fun _ H6 e6 => ?_
  · match i, hi with
    | 0, hi => cases hi; exact ev_is (ev_lenAdded (fewL (ws := []) (m := 0) el_nil (ev_var rfl) p0 (by decide) (by decide) (by decide)) T.clB.cls T.nB1) (by rw [gC_0]; rfl)
    | 1, hi => cases hi; exact ev_is (ev_lenAdded (fewL (ws := []) (m := 1) el_nil (ev_var rfl) p0 (by decide) (by decide) (by decide)) T.clB.cls T.nB1) (by rw [gC_1]; rfl)
    | 2, hi => cases hi; exact ev_is (ev_lenAdded (fewL (ws := []) (m := 3) el_nil (ev_var rfl) p0 (by decide) (by decide) (by decide)) T.clB.cls T.nB1) (by rw [gC_3]; rfl)
    | 3, hi => cases hi; exact ev_is (ev_lenAdded (fewL (ws := []) (m := 7) el_nil (ev_var rfl) p0 (by decide) (by decide) (by decide)) T.clB.cls T.nB1) (by rw [gC_7]; rfl)
    | 4, hi => cases hi; exact ev_is (ev_lenAdded (fewL (ws := []) (m := 1000000000000000000000000000000) el_nil (ev_var rfl) p0 (by decide) (by decide) big) T.clB.cls T.nB1) (by rw [gC_g]; rfl)
    | k + 5, hi => cases hi
  exact s_ret (v := .bl true) (ev_is (ev_misEq (ks := []) (fewL (ws := [1, 2]) (m := 3) (el_lst (ea_cons ev_c (ea_cons ev_c ea_nil)) (by show 2 ≤ 100000; decide)) ev_c (by decide) (by decide) (by decide) (by decide)) T.clB.cls T.nB2 el_nil) (by rw [gC_12]; rfl)) fun H7 e7 => q H7 (ex.trans (e6.trans e7))
end
end Wt
/-! ### the answers by hand: on paper, what is done otherwise -/
namespace Wt
open PySem PySem.Spec PyProof.Rows L2 Evl
theorem w_412 : weigh [4, 1, 2] 7 = [0, 1, 2] := by
  have e : down [4, 1, 2] = [(4, 0), (2, 2), (1, 1)] := (down_of (by decide) (by decide)).symm
  unfold weigh
  rw [e, srt_is]
  decide +kernel
section
variable {P : Program} {w : World} {K : PySem.W.Frag} {mg : Str → Option Value} {base : Heap}
set_option maxHeartbeats 16000000 in
theorem ok_LawPromisesRight {f fGapInit fLawFewestPromises fFirstGap fWeighing fWithout : Addr} {fd fdGapInit fdLawFewestPromises fdFirstGap fdWeighing fdWithout : FuncData} {D : Ad} {fBi : Addr}
    (O : Own K mg "_law_promises_right" [] sLawPromisesRight f fd) (B : Blt mg) (T : Ans K mg D fGapInit fBi) (KT : Kit K D)
    (GShows : MtOk P w K mg base 3 "shows" (ShowsMt K D))
    (GGapInit : FnOk P w K mg base CX0 1 fGapInit fdGapInit ["self", "number"] (spGapInit D)) (OGapInit : OwnM K "__init__" "Gap.__init__" ["self", "number"] sGapInit fGapInit fdGapInit)
    (GLawFewestPromises : FnOk P w K mg base CX0 5 fLawFewestPromises fdLawFewestPromises ["_law_great"] (spFewProm K D)) (OLawFewestPromises : Own K mg "_law_fewest_promises" ["_law_great"] sLawFewestPromises fLawFewestPromises fdLawFewestPromises)
    (GFirstGap : FnOk P w K mg base CX0 3 fFirstGap fdFirstGap ["weights"] (spFirst K)) (OFirstGap : Own K mg "first_gap" ["weights"] sFirstGap fFirstGap fdFirstGap)
    (GWeighing : FnOk P w K mg base CX0 3 fWeighing fdWeighing ["weights", "number"] (spWeighing K)) (OWeighing : Own K mg "weighing" ["weights", "number"] sWeighing fWeighing fdWeighing)
    (GWithout : FnOk P w K mg base CX0 3 fWithout fdWithout ["weights", "place"] (spWithout K)) (OWithout : Own K mg "without" ["weights", "place"] sWithout fWithout fdWithout) :
    FnOk P w K mg base CX0 6 f fd [] (spProm K D) := by
  refine O.F.ok scLawPromisesRight (fun vs H Q E h => ?_) (fun cdv A outer s H vs Q E hr h => ?_)
  · obtain ⟨rfl, _⟩ := h
    rfl
  obtain ⟨rfl, tb1, tb2, q⟩ := h
  refine ⟨_, 
      (pss_cons (ps_set (i := 0) scLawPromisesRight.nd rfl (Or.inl rfl) (pe_op op_pow pe_int pe_int))
      (pss_cons (ps_set (i := 1) scLawPromisesRight.nd rfl (Or.inl rfl) (pe_lst (pa_cons (pe_tup (pa_cons (pe_lst pa_nil) (pa_cons pe_int pa_nil))) (pa_cons (pe_tup (pa_cons (pe_lst (pa_cons pe_int pa_nil)) (pa_cons pe_int pa_nil))) (pa_cons (pe_tup (pa_cons (pe_lst (pa_cons pe_int pa_nil)) (pa_cons pe_int pa_nil))) (pa_cons (pe_tup (pa_cons (pe_lst (pa_cons pe_int (pa_cons pe_int (pa_cons pe_int pa_nil)))) (pa_cons pe_int pa_nil))) (pa_cons (pe_tup (pa_cons (pe_lst (pa_cons pe_int (pa_cons pe_int (pa_cons pe_int pa_nil)))) (pa_cons pe_int pa_nil))) (pa_cons (pe_tup (pa_cons (pe_lst (pa_cons pe_int (pa_cons pe_int (pa_cons pe_int pa_nil)))) (pa_cons pe_int pa_nil))) pa_nil))))))))
      (pss_cons (ps_set (i := 1) scLawPromisesRight.nd rfl (Or.inl rfl) (pe_op op_cat (pv 1) (pe_lst (pa_cons (pe_tup (pa_cons (pe_lst (pa_cons (pv 0) (pa_cons pe_int pa_nil))) (pa_cons pe_int pa_nil))) (pa_cons (pe_tup (pa_cons (pe_op op_rep (pe_lst (pa_cons pe_int pa_nil)) pe_int) (pa_cons pe_int pa_nil))) (pa_cons (pe_tup (pa_cons (pe_lst (pa_cons pe_int (pa_cons pe_int (pa_cons pe_int (pa_cons pe_int pa_nil))))) (pa_cons pe_int pa_nil))) pa_nil))))))
      (pss_cons (ps_for PassesOwn.never rfl (pi_list (pv 1)) (pg_tup (by rfl) (pgs_cons (pg_name (i := 2) scLawPromisesRight.nd rfl (Or.inr rfl)) (pgs_cons (pg_name (i := 3) scLawPromisesRight.nd rfl (Or.inl rfl)) pgs_nil))) 
        (pss_cons (ps_if (PW.pt (pw_or (pt_cmpR op_ne (pe_call GFirstGap (hr.mono (by decide)) (by rfl) OFirstGap.g OFirstGap.F.kp OFirstGap.b .nil pass0 (pa_cons (pv 2) pa_nil)) (pv 3) (nomark _)) (pw_or (pt_not (pt_val (pe_methP GShows (hr.mono (by decide)) (pe_bare T.mkA (by rfl) T.mgA) (pa_cons (pv 2) (pa_cons (pe_op op_sub (pv 3) pe_int) pa_nil)) (ht := mtree (by decide +kernel) (by rfl) (by rfl))))) (pw_or1 (pt_val (pe_methP GShows (hr.mono (by decide)) (pe_bare T.mkA (by rfl) T.mgA) (pa_cons (pv 2) (pa_cons (pv 3) pa_nil)) (ht := mtree (by decide +kernel) (by rfl) (by rfl)))))))) 
          (pss_one (ps_ret pe_bl)) pss_nil)
        (pss_one (ps_for PassesOwn.never rfl (pi_keys (pe_frz (pe_disp (pps_cons pe_int pe_bl (pps_cons pe_int pe_bl (pps_cons (pe_op op_fdivW (pv 3) pe_int) pe_bl (pps_cons (pe_op op_sub (pv 3) pe_int) pe_bl pps_nil)))) (by rfl) (by rfl) (fun z => by cases z) (by decide)))) (pg_name (i := 4) scLawPromisesRight.nd rfl (Or.inl rfl)) 
          (pss_one (ps_if (pt_cmpR op_lt (pv 4) (pv 3) (nomark _)) 
            (pss_cons (ps_set (i := 5) scLawPromisesRight.nd rfl (Or.inl rfl) (pe_call GWeighing (hr.mono (by decide)) (by rfl) OWeighing.g OWeighing.F.kp OWeighing.b .nil pass0 (pa_cons (pv 2) (pa_cons (pv 4) pa_nil))))
            (pss_cons (ps_if (pt_cmpR op_ne (pe_callB (r := rSum K) (id := "sum") (cr_sum rfl) (by rfl) B.sum (by decide +kernel) (pa_cons (pe_lc (own := [("_law_at", 10)]) (g := gName 10) (tt := tYes) rfl scLawPromisesRight.nd (pi_list (pv 5)) (blkOk_by (N := nLawPromisesRight) (sc := defScope sLawPromisesRight) (by decide +kernel)) (fun _ _ _ _ _ => (pg_name (i := 10) scLawPromisesRight.nd rfl (Or.inl rfl))) (fun _ _ _ _ _ => pts_nil) (fun _ _ _ _ _ => (pe_ix (r := rIxL K) ix_list (pv 2) (pv 10) (fun _ _ => rfl)))) pa_nil)) (pv 4) (nomark _)) 
              (pss_one (ps_ret pe_bl)) pss_nil)
            (pss_one (ps_if (pt_val (pe_callB (r := rAny K) (id := "any") (cr_any rfl) (by rfl) B.anyF (by decide +kernel) (pa_cons (pe_lc (own := [("_law_one", 8), ("_law_other", 9)]) (g := gTup K 2 (gCons (gName 8) (gCons (gName 9) gNil))) (tt := tYes) rfl scLawPromisesRight.nd (pi_zip (by rfl) B.zip (pa_cons (pv 5) (pa_cons (pe_slice (r := rSlL K) sl_list (pv 5) (po_some pe_int) po_none) pa_nil))) (blkOk_by (N := nLawPromisesRight) (sc := defScope sLawPromisesRight) (by decide +kernel)) (fun _ _ _ _ _ => (pg_tup (by rfl) (pgs_cons (pg_name (i := 8) scLawPromisesRight.nd rfl (Or.inl rfl)) (pgs_cons (pg_name (i := 9) scLawPromisesRight.nd rfl (Or.inl rfl)) pgs_nil)))) (fun _ _ _ _ _ => pts_nil) (fun _ _ _ _ _ => (pe_cmpR op_ge (pv 8) (pv 9) (nomark _)))) pa_nil))) 
              (pss_one (ps_ret pe_bl)) pss_nil)))) pss_nil))))))
      (pss_cons (ps_if (PW.pt (pw_or (pt_cmpR (r := rNeD K) (op_neD hr.units) (pe_call GWeighing (hr.mono (by decide)) (by rfl) OWeighing.g OWeighing.F.kp OWeighing.b .nil pass0 (pa_cons (pe_lst pa_nil) (pa_cons pe_int pa_nil))) (pe_lst pa_nil) (nomark _)) (pw_or (pt_cmpR (r := rNeD K) (op_neD hr.units) (pe_call GWeighing (hr.mono (by decide)) (by rfl) OWeighing.g OWeighing.F.kp OWeighing.b .nil pass0 (pa_cons (pe_lst (pa_cons pe_int (pa_cons pe_int (pa_cons pe_int pa_nil)))) (pa_cons pe_int pa_nil))) (pe_lst (pa_cons pe_int (pa_cons pe_int (pa_cons pe_int pa_nil)))) (nomark _)) (pw_or1 (pt_cmpR op_ne (pe_call GWithout (hr.mono (by decide)) (by rfl) OWithout.g OWithout.F.kp OWithout.b .nil pass0 (pa_cons (pe_lst (pa_cons pe_int (pa_cons pe_int pa_nil))) (pa_cons pe_int pa_nil))) pe_int (nomark _)))))) 
        (pss_one (ps_ret pe_bl)) pss_nil)
      (pss_cons (ps_if (PW.pt (pw_or (pt_cmpR op_ne (pe_call GWithout (hr.mono (by decide)) (by rfl) OWithout.g OWithout.F.kp OWithout.b .nil pass0 (pa_cons (pe_lst (pa_cons pe_int pa_nil)) (pa_cons pe_int pa_nil))) pe_int (nomark _)) (pw_or1 (pt_cmpR op_ne (pe_call GWithout (hr.mono (by decide)) (by rfl) OWithout.g OWithout.F.kp OWithout.b .nil pass0 (pa_cons (pe_lst (pa_cons pe_int (pa_cons pe_int (pa_cons pe_int pa_nil)))) (pa_cons pe_int pa_nil))) pe_int (nomark _))))) 
        (pss_one (ps_ret pe_bl)) pss_nil)
      (pss_cons (ps_set (i := 1) scLawPromisesRight.nd rfl (Or.inl rfl) (pe_lst (pa_cons (pe_tup (pa_cons pe_int (pa_cons (pe_lst pa_nil) (pa_cons pe_int (pa_cons pe_bl pa_nil))))) (pa_cons (pe_tup (pa_cons pe_int (pa_cons (pe_lst pa_nil) (pa_cons pe_int (pa_cons pe_bl pa_nil))))) (pa_cons (pe_tup (pa_cons pe_int (pa_cons (pe_lst (pa_cons pe_int (pa_cons pe_int pa_nil))) (pa_cons pe_int (pa_cons pe_bl pa_nil))))) (pa_cons (pe_tup (pa_cons pe_int (pa_cons (pe_lst (pa_cons pe_int (pa_cons pe_int pa_nil))) (pa_cons pe_int (pa_cons pe_bl pa_nil))))) pa_nil))))))
      (pss_cons (ps_set (i := 1) scLawPromisesRight.nd rfl (Or.inl rfl) (pe_op op_cat (pv 1) (pe_lst (pa_cons (pe_tup (pa_cons pe_int (pa_cons (pe_lst (pa_cons pe_int (pa_cons pe_int pa_nil))) (pa_cons pe_int (pa_cons pe_bl pa_nil))))) (pa_cons (pe_tup (pa_cons pe_int (pa_cons (pe_lst (pa_cons pe_int (pa_cons pe_int pa_nil))) (pa_cons pe_int (pa_cons pe_bl pa_nil))))) (pa_cons (pe_tup (pa_cons pe_int (pa_cons (pe_lst (pa_cons pe_int (pa_cons pe_int (pa_cons pe_int pa_nil)))) (pa_cons pe_int (pa_cons pe_bl pa_nil))))) pa_nil))))))
      (pss_cons (ps_set (i := 1) scLawPromisesRight.nd rfl (Or.inl rfl) (pe_op op_cat (pv 1) (pe_lst (pa_cons (pe_tup (pa_cons pe_int (pa_cons (pe_lst (pa_cons pe_int (pa_cons pe_int (pa_cons pe_int pa_nil)))) (pa_cons pe_int (pa_cons pe_bl pa_nil))))) (pa_cons (pe_tup (pa_cons pe_int (pa_cons (pe_lst (pa_cons pe_int (pa_cons pe_int (pa_cons pe_int pa_nil)))) (pa_cons pe_int (pa_cons pe_bl pa_nil))))) (pa_cons (pe_tup (pa_cons (pe_un un_neg pe_int) (pa_cons (pe_lst pa_nil) (pa_cons pe_int (pa_cons pe_bl pa_nil))))) pa_nil))))))
      (pss_cons (ps_for PassesOwn.never rfl (pi_list (pv 1)) (pg_tup (by rfl) (pgs_cons (pg_name (i := 4) scLawPromisesRight.nd rfl (Or.inl rfl)) (pgs_cons (pg_name (i := 2) scLawPromisesRight.nd rfl (Or.inr rfl)) (pgs_cons (pg_name (i := 6) scLawPromisesRight.nd rfl (Or.inl rfl)) (pgs_cons (pg_name (i := 7) scLawPromisesRight.nd rfl (Or.inl rfl)) pgs_nil))))) 
        (pss_one (ps_if (pt_cmpR op_ne (pe_methP GShows (hr.mono (by decide)) (pe_make T.mkG GGapInit (hr.mono (by decide)) (by rfl) T.mgG OGapInit.b .nil pass0 (pa_cons (pv 4) pa_nil)) (pa_cons (pv 2) (pa_cons (pv 6) pa_nil))) (pv 7) (nomark _)) 
          (pss_one (ps_ret pe_bl)) pss_nil)))
      (pss_one (ps_ret (pe_call GLawFewestPromises (hr.mono (by decide)) (by rfl) OLawFewestPromises.g OLawFewestPromises.F.kp OLawFewestPromises.b .nil pass0 (pa_cons (pv 0) pa_nil)))))))))))))), ?_⟩
  refine q_asg (v := .int 1000000000000000000000000000000) (ev_is (ev_op ev_c ev_c (rv_I ⟨by decide, by decide, by decide⟩)) (congrArg V.int (by decide +kernel))) fun H1 e1 => ?_
  refine q_asgN (W := ZL CaseP 6) (en_lstZ caseP_stays (ez_cons caseP_stays (ez_caseP (ws := ([] : List Int)) (g := 1) el_nil ev_c (by (rw [gap_is_F]; decide +kernel)) (by decide) (by decide)) (ez_cons caseP_stays (ez_caseP (ws := ([1] : List Int)) (g := 2) (el_lst (ea_cons ev_c ea_nil) (by show 1 ≤ 100000; decide)) ev_c (by (rw [gap_is_F]; decide +kernel)) (by decide) (by decide)) (ez_cons caseP_stays (ez_caseP (ws := ([2] : List Int)) (g := 1) (el_lst (ea_cons ev_c ea_nil) (by show 1 ≤ 100000; decide)) ev_c (by (rw [gap_is_F]; decide +kernel)) (by decide) (by decide)) (ez_cons caseP_stays (ez_caseP (ws := ([4, 1, 2] : List Int)) (g := 8) (el_lst (ea_cons ev_c (ea_cons ev_c (ea_cons ev_c ea_nil))) (by show 3 ≤ 100000; decide)) ev_c (by (rw [gap_is_F]; decide +kernel)) (by decide) (by decide)) (ez_cons caseP_stays (ez_caseP (ws := ([1, 1, 3] : List Int)) (g := 6) (el_lst (ea_cons ev_c (ea_cons ev_c (ea_cons ev_c ea_nil))) (by show 3 ≤ 100000; decide)) ev_c (by (rw [gap_is_F]; decide +kernel)) (by decide) (by decide)) (ez_cons caseP_stays (ez_caseP (ws := ([1, 2, 5] : List Int)) (g := 4) (el_lst (ea_cons ev_c (ea_cons ev_c (ea_cons ev_c ea_nil))) (by show 3 ≤ 100000; decide)) ev_c (by (rw [gap_is_F]; decide +kernel)) (by decide) (by decide)) ez_nil)))))) (by decide)) fun a0 H2 _ e2 z0 => ?_
  refine q_asgN (W := ZL CaseP (6 + 3)) (en_catZ caseP_stays (ev_var rfl) z0 (en_lstZ caseP_stays (ez_cons caseP_stays (ez_caseP (ws := ([1000000000000000000000000000000, 1] : List Int)) (g := 2) (el_lst (ea_cons (ev_var rfl) (ea_cons ev_c ea_nil)) (by show 2 ≤ 100000; decide)) ev_c (by (rw [gap_is_F]; decide +kernel)) (by decide) (by decide)) (ez_cons caseP_stays (ez_caseP (ws := List.replicate 40 1) (g := 41) (el_is (el_rep1 (xs := [V.int 1]) (k := 40) (el_lst (ea_cons ev_c ea_nil) (by show 1 ≤ 100000; decide)) ev_c (by decide) (by decide) (by show 1 ≤ 10; decide)) rfl) ev_c (by (rw [gap_is_F]; decide +kernel)) (by decide) (by decide)) (ez_cons caseP_stays (ez_caseP (ws := ([3, 3, 1, 1] : List Int)) (g := 9) (el_lst (ea_cons ev_c (ea_cons ev_c (ea_cons ev_c (ea_cons ev_c ea_nil)))) (by show 4 ≤ 100000; decide)) ev_c (by (rw [gap_is_F]; decide +kernel)) (by decide) (by decide)) ez_nil))) (by decide)) (by decide)) fun a1 H3 _ e3 z1 => ?_
  refine q_forZ caseP_stays (ev_var rfl) z1 (fun σ2 H' => (∃ y2 y3 y4 y5, σ2 = [some (.int 1000000000000000000000000000000), some (.ref a1), y2, y3, y4, y5, none, none, none, none, none]) ∧ Ex H H') (fun H' e => ⟨⟨_, _, _, _, rfl⟩, e1.trans (e2.trans (e3.trans e))⟩) (fun x σ2 H' hx hv M hM => ?_) fun σ2 H' hv => ?_
  · obtain ⟨⟨y2, y3, y4, y5, rfl⟩, ex⟩ := hv
    obtain ⟨t, l, ws, rfl, ht, hl, pos, hz⟩ := hx
    refine ⟨t, _, rfl, .inl (.inl ht), rfl, _, _, rfl, _, _, rfl, rfl, ?_⟩
    have g1 := gap_ge pos
    refine q_when (b := false) (et_is (et_or (a := false) (b := false) (et_is (et_test (ev_ne (i := gap ws) (ev_call (ea_cons (ev_var rfl) ea_nil) fun H e Q q E => ⟨l, ws, rfl, sq_of (e _ _ hl), pos, q⟩) (ev_var rfl))) (by rw [decide_eq_true rfl]; rfl)) fun _ => et_is (et_or (a := false) (b := false)
      (et_is (et_not (et_B (ev_showsKN (o := none) (ws := ws) (m := gap ws - 1) en_all (ea_cons (ev_var rfl) (ea_cons (ev_sub (ev_var rfl) ev_c) ea_nil)) (sq_of hl) (ex _ _ tb1)))) (by show (!decide (gap ws - 1 < gap ws)) = false; rw [decide_eq_true (by omega)]; rfl)) fun _ =>
      et_is (et_B (ev_showsKN (o := none) (ws := ws) (m := gap ws) en_all (ea_cons (ev_var rfl) (ea_cons (ev_var rfl) ea_nil)) (sq_of hl) (ex _ _ tb1))) (decide_eq_false (Int.lt_irrefl _))) rfl) rfl) (fun z => nomatch z) fun _ H4 e4 => ?_
    have hl4 := e4 _ _ hl
    -- some numbers below the gap
    refine s_forK (ks := [0, 1, gap ws / 2, gap ws - 1]) (en_keys (ep_cons ev_c ev_c (ep_cons ev_c ev_c (ep_cons (ev_div (ev_var rfl) ev_c (div_lit (by decide) (by decide))) ev_c (ep_cons (ev_sub (ev_var rfl) ev_c) ev_c ep_nil)))) (by show 4 ≤ 15; decide))
      (fun σ2 H' => (∃ y4 y5, σ2 = [some (.int 1000000000000000000000000000000), some (.ref a1), some (.ref l), some (.int (gap ws)), y4, y5, none, none, none, none, none]) ∧ Ex H4 H') (fun H' e => ⟨⟨_, _, rfl⟩, e⟩) (fun n σ2 H5 hn hv M hM2 => ?_) fun σ2 H5 hv => ?_
    · obtain ⟨⟨y4, y5, rfl⟩, e5⟩ := hv
      have n0 : 0 ≤ n := by
        simp only [List.mem_cons, List.not_mem_nil, or_false] at hn
        omega
      refine s_when (et_test (ev_lt (ev_var rfl) (ev_var rfl))) (fun hb H6 e6 => ?_) fun hb H6 e6 => hM2 _ _ e6 ⟨⟨_, _, rfl⟩, e5.trans e6⟩
      have hb := of_decide_eq_true hb
      have hl6 := (e5.trans e6) _ _ hl4
      have wl := weigh_len ws n
      refine q_asgL (xs := (weigh ws n).map V.int) (el_call (ea_cons (ev_var rfl) (ea_cons (ev_var rfl) ea_nil)) fun H e Q q E => ⟨l, ws, n, rfl, sq_of (e _ _ hl6), pos, by omega, n0, hb, q⟩) fun d H7 _ e7 hd => ?_
      refine q_when (b := false) (et_is (et_test (ev_ne (i := n) (ev_is (ev_sumN (el_lcI (fun i => ws.getD i.toNat 0) (ev_var rfl) (sq_of hd) (by omega) (fun _ => rfl) fun p H8 e8 hp => ?_) rfl) (congrArg V.int (weigh_sum pos n0 hb))) (ev_var rfl))) (by rw [decide_eq_true rfl]; rfl)) (fun z => nomatch z) fun _ H8 e8 => ?_
      · obtain ⟨p0, p1⟩ := weigh_place hp
        obtain ⟨k, rfl⟩ := Int.eq_ofNat_of_zero_le p0
        have hk : k < ws.length := by omega
        refine ev_ixL (sq_of ((e7.trans e8) _ _ hl6)) (ev_var rfl) (ev_var rfl) (at_of (j := k) rfl ?_)
        rw [List.getElem?_map, Int.toNat_natCast, List.getD_eq_getElem?_getD, List.getElem?_eq_getElem hk]
        rfl
      refine s_when (b := false) (et_B (ev_anyZip rfl (e8 _ _ hd) (by omega) (weigh_rise ws n) (fun _ _ => rfl) (fun _ _ => rfl) (fun _ _ => rfl))) (fun z => nomatch z) fun _ H9 e9 => hM2 _ _ (e6.trans (e7.trans (e8.trans e9))) ⟨⟨_, _, rfl⟩, e5.trans (e6.trans (e7.trans (e8.trans e9)))⟩
    · obtain ⟨⟨y4, y5, rfl⟩, e5⟩ := hv
      exact hM _ _ (e4.trans e5) ⟨⟨_, _, _, _, rfl⟩, ex.trans (e4.trans e5)⟩
  obtain ⟨⟨y2, y3, y4, y5, rfl⟩, ex⟩ := hv
  have weighL : ∀ {σ : L2.St} {H : Hp} {ta tb : TE} {ws : List Int} {n : Int}, EvL ta σ H (ws.map V.int) → Ev tb σ H (.int n) → Pos ws → ws.length ≤ 1000 → 0 ≤ n → n < gap ws → EvL (tCall (spWeighing K) [] E0 (tCons ta (tCons tb tNil))) σ H ((weigh ws n).map V.int) := fun {σ H ta tb ws n} ha hb p hl h0 h1 =>
    el_callN ha hb fun p' H1 hp' e1 => fun H e Q q E => ⟨p', ws, n, rfl, sq_of (e _ _ hp'), p, by omega, h0, h1, q⟩
  have withL : ∀ {σ : L2.St} {H : Hp} {ta tb : TE} {ws : List Int} {k : Nat}, EvL ta σ H (ws.map V.int) → Ev tb σ H (.int (k : Int)) → Pos ws → ws.length ≤ 1000 → k < ws.length → Ev (tCall (spWithout K) [] E0 (tCons ta (tCons tb tNil))) σ H (.int (gap (ws.take k ++ ws.drop (k + 1)))) := fun {σ H ta tb ws k} ha hb p hl h0 =>
    ev_callN2 ha hb fun p' H1 hp' e1 => fun H e Q q E => ⟨p', ws, k, rfl, sq_of (e _ _ hp'), p, by omega, h0, q⟩
  refine q_when (b := false) (et_is (et_or (a := false) (b := false) (et_is (et_test (ev_opLL (xs := (weigh [] 0).map V.int) (ys := ([] : List Int).map V.int) (weighL (ws := []) (n := 0) el_nil ev_c (fun _ h => nomatch h) (by decide) (by decide) (by rw [show gap [] = 1 by (rw [gap_is_F]; decide +kernel)]; decide)) el_nil fun p q' H9 hp hq e9 => rv_neL (sq_of hp) (sq_of hq))) (by rw [weigh_nil]; rfl)) fun _ => et_is (et_or (a := false) (b := false)
    (et_is (et_test (ev_opLL (xs := (weigh [4, 1, 2] 7).map V.int) (ys := ([0, 1, 2] : List Int).map V.int) (weighL (ws := [4, 1, 2]) (n := 7) (el_lst (ea_cons ev_c (ea_cons ev_c (ea_cons ev_c ea_nil))) (by show 3 ≤ 100000; decide)) ev_c (by decide) (by decide) (by decide) (by rw [show gap [4, 1, 2] = 8 by (rw [gap_is_F]; decide +kernel)]; decide)) (el_lst (ea_cons ev_c (ea_cons ev_c (ea_cons ev_c ea_nil))) (by show 3 ≤ 100000; decide)) fun p q' H9 hp hq e9 => rv_neL (sq_of hp) (sq_of hq))) (by rw [w_412]; rfl)) fun _ =>
    et_is (et_test (ev_ne (withL (ws := [1, 1]) (k := 0) (el_lst (ea_cons ev_c (ea_cons ev_c ea_nil)) (by show 2 ≤ 100000; decide)) ev_c (by decide) (by decide) (by decide)) ev_c)) (by rw [show gap (([1, 1] : List Int).take 0 ++ ([1, 1] : List Int).drop (0 + 1)) = 2 by (rw [gap_is_F]; decide +kernel)]; rfl)) rfl) rfl) (fun z => nomatch z) fun _ H4 e4 => ?_
  refine q_when (b := false) (et_is (et_or (a := false) (b := false) (et_is (et_test (ev_ne (withL (ws := [1]) (k := 0) (el_lst (ea_cons ev_c ea_nil) (by show 1 ≤ 100000; decide)) ev_c (by decide) (by decide) (by decide)) ev_c)) (by rw [show gap (([1] : List Int).take 0 ++ ([1] : List Int).drop (0 + 1)) = 1 by (rw [gap_is_F]; decide +kernel)]; rfl)) fun _ =>
    et_is (et_test (ev_ne (withL (ws := [4, 1, 2]) (k := 1) (el_lst (ea_cons ev_c (ea_cons ev_c (ea_cons ev_c ea_nil))) (by show 3 ≤ 100000; decide)) ev_c (by decide) (by decide) (by decide)) ev_c)) (by rw [show gap (([4, 1, 2] : List Int).take 1 ++ ([4, 1, 2] : List Int).drop (1 + 1)) = 1 by (rw [gap_is_F]; decide +kernel)]; rfl)) rfl) (fun z => nomatch z) fun _ H5 e5 => ?_
  refine q_asgN (W := ZL CaseG 4) (en_lstZ caseG_stays (ez_cons caseG_stays (ez_caseG (n := 1) (ws := ([] : List Int)) (m := 1) (b := true) ev_c el_nil ev_c ev_c (by decide +kernel)) (ez_cons caseG_stays (ez_caseG (n := 2) (ws := ([] : List Int)) (m := 2) (b := true) ev_c el_nil ev_c ev_c (by decide +kernel)) (ez_cons caseG_stays (ez_caseG (n := 0) (ws := ([1, 2] : List Int)) (m := 5) (b := false) ev_c (el_lst (ea_cons ev_c (ea_cons ev_c ea_nil)) (by show 2 ≤ 100000; decide)) ev_c ev_c (by decide +kernel)) (ez_cons caseG_stays (ez_caseG (n := 3) (ws := ([1, 2] : List Int)) (m := 5) (b := false) ev_c (el_lst (ea_cons ev_c (ea_cons ev_c ea_nil)) (by show 2 ≤ 100000; decide)) ev_c ev_c (by decide +kernel)) ez_nil)))) (by decide)) fun b0 H6 _ e6 g0 => ?_
  refine q_asgN (W := ZL CaseG (4 + 3)) (en_catZ caseG_stays (ev_var rfl) g0 (en_lstZ caseG_stays (ez_cons caseG_stays (ez_caseG (n := 4) (ws := ([1, 2] : List Int)) (m := 5) (b := true) ev_c (el_lst (ea_cons ev_c (ea_cons ev_c ea_nil)) (by show 2 ≤ 100000; decide)) ev_c ev_c (by decide +kernel)) (ez_cons caseG_stays (ez_caseG (n := 6) (ws := ([1, 2] : List Int)) (m := 5) (b := false) ev_c (el_lst (ea_cons ev_c (ea_cons ev_c ea_nil)) (by show 2 ≤ 100000; decide)) ev_c ev_c (by decide +kernel)) (ez_cons caseG_stays (ez_caseG (n := 4) (ws := ([1, 2, 4] : List Int)) (m := 7) (b := false) ev_c (el_lst (ea_cons ev_c (ea_cons ev_c (ea_cons ev_c ea_nil))) (by show 3 ≤ 100000; decide)) ev_c ev_c (by decide +kernel)) ez_nil))) (by decide)) (by decide)) fun b1 H7 _ e7 g1 => ?_
  refine q_asgN (W := ZL CaseG (4 + 3 + 3)) (en_catZ caseG_stays (ev_var rfl) g1 (en_lstZ caseG_stays (ez_cons caseG_stays (ez_caseG (n := 5) (ws := ([2, 9, 1] : List Int)) (m := 20) (b := true) ev_c (el_lst (ea_cons ev_c (ea_cons ev_c (ea_cons ev_c ea_nil))) (by show 3 ≤ 100000; decide)) ev_c ev_c (by decide +kernel)) (ez_cons caseG_stays (ez_caseG (n := 8) (ws := ([1, 2, 4] : List Int)) (m := 8) (b := true) ev_c (el_lst (ea_cons ev_c (ea_cons ev_c (ea_cons ev_c ea_nil))) (by show 3 ≤ 100000; decide)) ev_c ev_c (by decide +kernel)) (ez_cons caseG_stays (ez_caseG (n := (-1)) (ws := ([] : List Int)) (m := 5) (b := false) (ev_negI ev_c) el_nil ev_c ev_c (by decide +kernel)) ez_nil))) (by decide)) (by decide)) fun b2 H8 _ e8 g2 => ?_
  refine q_forZ caseG_stays (ev_var rfl) g2 (fun σ2 H' => (∃ y2 y3 y4 y5 y6 y7, σ2 = [some (.int 1000000000000000000000000000000), some (.ref b2), y2, y3, y4, y5, y6, y7, none, none, none]) ∧ Ex H H') (fun H' e => ⟨⟨_, _, _, _, _, _, rfl⟩, ex.trans (e4.trans (e5.trans (e6.trans (e7.trans (e8.trans e)))))⟩) (fun x σ2 H' hx hv M hM => ?_) fun σ2 H' hv => ?_
  · obtain ⟨⟨y2, y3, y4, y5, y6, y7, rfl⟩, ex⟩ := hv
    obtain ⟨t, l, ws, n, m, rfl, ht, hl⟩ := hx
    refine ⟨t, _, rfl, .inl (.inl ht), rfl, _, _, rfl, _, _, rfl, _, _, rfl, _, _, rfl, rfl, ?_⟩
    exact s_when (b := false) (et_is (et_test (ev_neB (ev_showsKN (o := some n) (en_gap (ev_var rfl)) (ea_cons (ev_var rfl) (ea_cons (ev_var rfl) ea_nil)) (sq_of hl) (ex _ _ tb1)) (ev_var rfl))) (by show (!(gapOk n ws m == gapOk n ws m)) = false; cases gapOk n ws m <;> rfl)) (fun z => nomatch z)
      fun _ H9 e9 => hM _ _ e9 ⟨⟨_, _, _, _, _, _, rfl⟩, ex.trans e9⟩
  obtain ⟨⟨y2, y3, y4, y5, y6, y7, rfl⟩, ex⟩ := hv
  exact s_ret (v := .bl true) (ev_call (ea_cons (ev_var rfl) ea_nil) fun H e Q q E => ⟨rfl, (ex.trans e) _ _ tb2, q⟩) fun H9 e9 => q H9 (ex.trans e9)
end
end Wt
/-! ### the answers by hand: the statement -/
namespace Wt
open PySem PySem.Spec PyProof.Rows L2 Evl
/-- some numbers, new or old -/
def EvS (te : TE) (σ : L2.St) (H : Hp) (n : Nat) : Prop := ∀ H1, Ex H H1 → ∀ Q : VK, (∀ p (ms : List Int) H2, Ex H1 H2 → H2 p = some (.lst (ms.map V.int)) → ms.length ≤ n → Q (.ref p) H2) → te σ H1 Q
section
variable {K : PySem.W.Frag} {σ : L2.St} {H : Hp} {ta tb tc td te : TE} {D : Ad}
theorem es_old {p : Addr} {ms : List Int} {n : Nat} (h : Ev te σ H (.ref p)) (hp : H p = some (.lst (ms.map V.int))) (hl : ms.length ≤ n) : EvS te σ H n := fun H1 e Q q => h H1 e _ fun H2 e2 => q p ms H2 e2 ((e.trans e2) _ _ hp) hl
theorem es_new {k n : Nat} (h : EvN te σ H (IntsN k)) (hl : k ≤ n) : EvS te σ H n := fun H1 e Q q => h H1 e _ fun p H2 _ e2 ⟨ms, hp, hm⟩ => q p ms H2 e2 hp (by omega)
theorem ev_bestR {b : Addr} {ws : List Int} {m : Int} {E : XK} (hw : Ev ta σ H (.ref b)) (hm : Ev tb σ H (.int m)) (h3 : EvS tc σ H 10000) (h4 : EvS td σ H 10000) (hb : H b = some (.lst (ws.map V.int))) (p : Pos ws) (hl : ws.length ≤ 10000) (t : Tb H D.P2) :
    Ev (tCall (spBestR K D) [] E (tCons ta (tCons tb (tCons tc (tCons td tNil))))) σ H (.bl true) := fun H1 e Q q =>
  hw H1 e _ fun H2 e2 => hm H2 (e.trans e2) _ fun H3 e3 => h3 H3 (e.trans (e2.trans e3)) _ fun l1 as H4 e4 k1 z1 => h4 H4 (e.trans (e2.trans (e3.trans e4))) _ fun l2 ms H5 e5 k2 z2 => by
    have x := e2.trans (e3.trans (e4.trans e5))
    exact ⟨b, l1, l2, ws, as, ms, m, rfl, (e.trans x) _ _ hb, e5 _ _ k1, k2, p, hl, z1, z2, (e.trans x) _ _ t, fun H6 e6 => q H6 (x.trans e6)⟩
theorem en_bent {a : Addr} {ns : List Int} {c : Int} {E : XK} (ha : Ev ta σ H (.ref a)) (hc : Ev tb σ H (.int c)) (h : H a = some (.lst (ns.map V.int))) (hl : ns.length ≤ 10000) : EvN (tCall (spBent K) [] E (tCons ta (tCons tb tNil))) σ H (IntsN (ns.length + 1)) :=
  en_call (vs := [.ref a, .int c]) (ea_cons ha (ea_cons hc ea_nil)) fun H e Q q E => ⟨a, ns, c, rfl, sq_of (e _ _ h), hl, q⟩
end
theorem gap_ok_and (n m : Int) (ws : List Int) : ((decide (1 ≤ n) && decide (n ≤ m) && !ws.contains n) && decide (lowSum n ws < n)) = gapOk n ws m := by
  unfold gapOk leftOut
  rw [Bool.and_assoc]
section
variable {P : Program} {w : World} {K : PySem.W.Frag} {mg : Str → Option Value} {base : Heap}
set_option maxHeartbeats 16000000 in
theorem ok_Law {f fGapInit fLawBent fLawBestRight fLawGap fLawPromisesRight fLawSays fLawSet fFewest : Addr} {fd fdGapInit fdLawBent fdLawBestRight fdLawGap fdLawPromisesRight fdLawSays fdLawSet fdFewest : FuncData} {D : Ad} {fBi : Addr} {c1 c2 : Addr}
    (O : Own K mg "law" ["_law_script"] sLaw f fd) (B : Blt mg) (T : Ans K mg D fGapInit fBi) (KT : Kit K D)
    (GShows : MtOk P w K mg base 3 "shows" (ShowsMt K D))
    (GGapInit : FnOk P w K mg base CX0 1 fGapInit fdGapInit ["self", "number"] (spGapInit D)) (OGapInit : OwnM K "__init__" "Gap.__init__" ["self", "number"] sGapInit fGapInit fdGapInit)
    (GLawBent : FnOk P w K mg base CX0 1 fLawBent fdLawBent ["_law_some", "_law_cell"] (spBent K)) (OLawBent : Own K mg "_law_bent" ["_law_some", "_law_cell"] sLawBent fLawBent fdLawBent)
    (GLawBestRight : FnOk P w K mg base CX0 4 fLawBestRight fdLawBestRight ["_law_weights", "_law_most", "_law_added", "_law_misses"] (spBestR K D)) (OLawBestRight : Own K mg "_law_best_right" ["_law_weights", "_law_most", "_law_added", "_law_misses"] sLawBestRight fLawBestRight fdLawBestRight)
    (GLawGap : FnOk P w K mg base CX0 1 fLawGap fdLawGap ["_law_weights"] (spGapOf K)) (OLawGap : Own K mg "_law_gap" ["_law_weights"] sLawGap fLawGap fdLawGap)
    (GLawPromisesRight : FnOk P w K mg base CX0 6 fLawPromisesRight fdLawPromisesRight [] (spProm K D)) (OLawPromisesRight : Own K mg "_law_promises_right" [] sLawPromisesRight fLawPromisesRight fdLawPromisesRight)
    (GLawSays : FnOk P w K mg base CX0 1 fLawSays fdLawSays ["_law_said", "_law_due_here"] spSays) (OLawSays : Own K mg "_law_says" ["_law_said", "_law_due_here"] sLawSays fLawSays fdLawSays)
    (GLawSet : FnOk P w K mg base CX0 1 fLawSet fdLawSet ["_law_script"] (spLawSet K)) (OLawSet : Own K mg "_law_set" ["_law_script"] sLawSet fLawSet fdLawSet)
    (GFewest : FnOk P w K mg base CX0 4 fFewest fdFewest ["weights", "most"] (spFewest K D)) (OFewest : Own K mg "fewest" ["weights", "most"] sFewest fFewest fdFewest) :
    FnOk P w K mg base CX0 7 f fd ["_law_script"] (spLaw K [(c1, D.P1), (c2, D.P2)]) := by
  refine O.F.ok scLaw (fun vs H Q E h => ?_) (fun cdv A outer s H vs Q E hr h => ?_)
  · obtain ⟨a, ns, rfl, _⟩ := h
    rfl
  obtain ⟨a0, ns, rfl, hS, hz, bits, tbs, q⟩ := h
  have tb1 : Tb H D.P1 := tbs (c1, D.P1) List.mem_cons_self
  have tb2 : Tb H D.P2 := tbs (c2, D.P2) (List.mem_cons_of_mem _ List.mem_cons_self)
  refine ⟨_, 
      (pss_cons (ps_if (pt_not (pt_val (pe_call0 GLawPromisesRight (hr.mono (by decide)) (by rfl) OLawPromisesRight.g OLawPromisesRight.F.kp OLawPromisesRight.b .nil pass0))) 
        (pss_one (ps_ret pe_bl)) pss_nil)
      (pss_cons (ps_set (i := 0) scLaw.nd rfl (Or.inl rfl) (pe_slice (r := rSlL K) sl_list (pv 0) po_none (po_some pe_int)))
      (pss_cons (ps_set (i := 1) scLaw.nd rfl (Or.inl rfl) (pe_call GLawSet (hr.mono (by decide)) (by rfl) OLawSet.g OLawSet.F.kp OLawSet.b .nil pass0 (pa_cons (pv 0) pa_nil)))
      (pss_cut (ps_if (pt_cmpR op_eq (pe_op op_mod (pe_callB (r := rSum K) (id := "sum") (cr_sum rfl) (by rfl) B.sum (by decide +kernel) (pa_cons (pv 0) pa_nil)) pe_int) pe_int (nomark _)) 
        (pss_one (ps_set (i := 1) scLaw.nd rfl (Or.inl rfl) (pe_slice (r := rSlL K) sl_list (pv 1) po_none (po_some pe_int)))) pss_nil)
      (pss_cons (ps_set (i := 2) scLaw.nd rfl (Or.inl rfl) (pe_call GLawGap (hr.mono (by decide)) (by rfl) OLawGap.g OLawGap.F.kp OLawGap.b .nil pass0 (pa_cons (pv 1) pa_nil)))
      (pss_cons (ps_for PassesOwn.never rfl (pi_list (pe_op op_cat (pe_slice (r := rSlL K) sl_list (pv 0) po_none (po_some pe_int)) (pe_sliceS (pv 0) (po_some pe_int) (po_some pe_int)))) (pg_name (i := 3) scLaw.nd rfl (Or.inl rfl)) 
        (pss_cons (ps_set (i := 4) scLaw.nd rfl (Or.inl rfl) (pe_op op_add (pv 2) (pe_op op_mod (pv 3) pe_int)))
        (pss_cons (ps_set (i := 5) scLaw.nd rfl (Or.inl rfl) (pe_call GFewest (hr.mono (by decide)) (by rfl) OFewest.g OFewest.F.kp OFewest.b .nil pass0 (pa_cons (pv 1) (pa_cons (pv 4) pa_nil))))
        (pss_cons (ps_if (PW.pt (pw_or (pt_not (pt_val (pe_call GLawSays (hr.mono (by decide)) (by rfl) OLawSays.g OLawSays.F.kp OLawSays.b .nil pass0 (pa_cons (pe_methP GShows (hr.mono (by decide)) (pe_bare T.mkA (by rfl) T.mgA) (pa_cons (pv 1) (pa_cons (pv 4) pa_nil)) (ht := mtree (by decide +kernel) (by rfl) (by rfl))) (pa_cons pe_bl pa_nil))))) (pw_or1 (pt_not (pt_val (pe_call GLawSays (hr.mono (by decide)) (by rfl) OLawSays.g OLawSays.F.kp OLawSays.b .nil pass0 (pa_cons (pe_methP GShows (hr.mono (by decide)) (pe_bare T.mkA (by rfl) T.mgA) (pa_cons (pv 1) (pa_cons (pe_op op_mod (pv 3) (pv 2)) pa_nil)) (ht := mtree (by decide +kernel) (by rfl) (by rfl))) (pa_cons pe_bl pa_nil)))))))) 
          (pss_one (ps_ret pe_bl)) pss_nil)
        (pss_cons (ps_for PassesOwn.never rfl (pi_list (pe_lst (pa_cons (pv 2) (pa_cons (pe_op op_add (pv 2) pe_int) (pa_cons (pe_op op_mod (pv 3) (pe_op op_mul pe_int (pv 2))) (pa_cons (pe_op op_sub (pe_op op_mod (pe_un un_neg (pv 3)) pe_int) pe_int) (pa_cons (pe_op op_add (pe_callB (r := rSum K) (id := "sum") (cr_sum rfl) (by rfl) B.sum (by decide +kernel) (pa_cons (pv 1) pa_nil)) pe_int) (pa_cons (pe_callB (r := rSum K) (id := "sum") (cr_sum rfl) (by rfl) B.sum (by decide +kernel) (pa_cons (pv 1) pa_nil)) (pa_cons (pv 4) (pa_cons pe_int pa_nil)))))))))) (pg_name (i := 6) scLaw.nd rfl (Or.inr rfl)) 
          (pss_cons (ps_set (i := 7) scLaw.nd rfl (Or.inl rfl) (pe_and (pe_chain op_le op_le pe_int (pv 6) (pv 4)) (pe_one (pe_cmpR (r := rIn K true) op_notIn_seq (pv 6) (pv 1) (by rfl)))))
          (pss_cons (ps_set (i := 7) scLaw.nd rfl (Or.inl rfl) (pe_and (pv 7) (pe_one (pe_cmpR op_lt (pe_callB (r := rSum K) (id := "sum") (cr_sum rfl) (by rfl) B.sum (by decide +kernel) (pa_cons (pe_lc (own := [("_law_weight", 9)]) (g := gName 9) (tt := tTest (tOp (rI0 fun i j => .bl (decide (i < j))) (tVar 9) (tVar 6))) rfl scLaw.nd (pi_list (pv 1)) (blkOk_by (N := nLaw) (sc := defScope sLaw) (by decide +kernel)) (fun _ _ _ _ _ => (pg_name (i := 9) scLaw.nd rfl (Or.inl rfl))) (fun _ _ _ _ _ => (pts_one (pt_cmpR op_lt (pv 9) (pv 6) (nomark _)))) (fun _ _ _ _ _ => (pv 9))) pa_nil)) (pv 6) (nomark _)))))
          (pss_one (ps_if (PW.pt (pw_or (pt_cmpR op_ne (pe_fld (pe_make T.mkG GGapInit (hr.mono (by decide)) (by rfl) T.mgG OGapInit.b .nil pass0 (pa_cons (pv 6) pa_nil)) rfl) (pv 6) (nomark _)) (pw_or1 (pt_not (pt_val (pe_call GLawSays (hr.mono (by decide)) (by rfl) OLawSays.g OLawSays.F.kp OLawSays.b .nil pass0 (pa_cons (pe_methP GShows (hr.mono (by decide)) (pe_make T.mkG GGapInit (hr.mono (by decide)) (by rfl) T.mgG OGapInit.b .nil pass0 (pa_cons (pv 6) pa_nil)) (pa_cons (pv 1) (pa_cons (pv 4) pa_nil))) (pa_cons (pv 7) pa_nil)))))))) 
            (pss_one (ps_ret pe_bl)) pss_nil)))))
        (pss_cons (ps_if (pt_not (pt_val (pe_call GLawBestRight (hr.mono (by decide)) (by rfl) OLawBestRight.g OLawBestRight.F.kp OLawBestRight.b .nil pass0 (pa_cons (pv 1) (pa_cons (pv 4) (pa_cons (pe_call GLawBent (hr.mono (by decide)) (by rfl) OLawBent.g OLawBent.F.kp OLawBent.b .nil pass0 (pa_cons (pe_fld (pv 5) rfl) (pa_cons (pe_op op_fdivW (pv 3) pe_int) pa_nil))) (pa_cons (pe_fld (pv 5) rfl) pa_nil))))))) 
          (pss_one (ps_ret pe_bl)) pss_nil)
        (pss_cons (ps_if (pt_not (pt_val (pe_call GLawBestRight (hr.mono (by decide)) (by rfl) OLawBestRight.g OLawBestRight.F.kp OLawBestRight.b .nil pass0 (pa_cons (pv 1) (pa_cons (pv 4) (pa_cons (pe_fld (pv 5) rfl) (pa_cons (pe_call GLawBent (hr.mono (by decide)) (by rfl) OLawBent.g OLawBent.F.kp OLawBent.b .nil pass0 (pa_cons (pe_fld (pv 5) rfl) (pa_cons (pe_op op_fdivW (pv 3) pe_int) pa_nil))) pa_nil))))))) 
          (pss_one (ps_ret pe_bl)) pss_nil)
        (pss_cons (ps_if (pt_not (pt_val (pe_call GLawBestRight (hr.mono (by decide)) (by rfl) OLawBestRight.g OLawBestRight.F.kp OLawBestRight.b .nil pass0 (pa_cons (pv 1) (pa_cons (pe_op op_sub (pe_op op_add (pv 4) (pe_op op_mod (pe_op op_fdivW (pv 3) pe_int) pe_int)) pe_int) (pa_cons (pe_fld (pv 5) rfl) (pa_cons (pe_fld (pv 5) rfl) pa_nil))))))) 
          (pss_one (ps_ret pe_bl)) pss_nil)
        (pss_cons (ps_set (i := 8) scLaw.nd rfl (Or.inl rfl) (pe_call GLawBent (hr.mono (by decide)) (by rfl) OLawBent.g OLawBent.F.kp OLawBent.b .nil pass0 (pa_cons (pe_fld (pv 5) rfl) (pa_cons (pe_op op_fdivW (pv 3) pe_int) pa_nil))))
        (pss_one (ps_if (pt_not (pt_val (pe_call GLawBestRight (hr.mono (by decide)) (by rfl) OLawBestRight.g OLawBestRight.F.kp OLawBestRight.b .nil pass0 (pa_cons (pv 1) (pa_cons (pv 4) (pa_cons (pv 8) (pa_cons (pv 8) pa_nil))))))) 
          (pss_one (ps_ret pe_bl)) pss_nil)))))))))))
      (pss_one (ps_ret (pe_and (pe_call GLawSays (hr.mono (by decide)) (by rfl) OLawSays.g OLawSays.F.kp OLawSays.b .nil pass0 (pa_cons (pe_methP GShows (hr.mono (by decide)) (pe_make T.mkG GGapInit (hr.mono (by decide)) (by rfl) T.mgG OGapInit.b .nil pass0 (pa_cons pe_int pa_nil)) (pa_cons (pe_lst (pa_cons pe_int (pa_cons pe_int pa_nil))) (pa_cons pe_int pa_nil))) (pa_cons pe_bl pa_nil))) (pe_one (pe_call GLawSays (hr.mono (by decide)) (by rfl) OLawSays.g OLawSays.F.kp OLawSays.b .nil pass0 (pa_cons (pe_methP GShows (hr.mono (by decide)) (pe_make T.mkG GGapInit (hr.mono (by decide)) (by rfl) T.mgG OGapInit.b .nil pass0 (pa_cons pe_int pa_nil)) (pa_cons (pe_lst (pa_cons pe_int (pa_cons pe_int pa_nil))) (pa_cons pe_int pa_nil))) (pa_cons pe_bl pa_nil))))))))))))), ?_⟩
  refine q_when (b := false) (et_is (et_not (a := true) (et_B (ev_call ea_nil fun H e Q q E => ⟨rfl, e _ _ tb1, e _ _ tb2, q⟩))) rfl) (fun z => nomatch z) fun _ H0 e0 => ?_
  refine q_asgL (el_take (k := 63) (ex_l e0 hS) (ev_var rfl) ev_c) fun a H1 _ e1 h1 => ?_
  rw [List.take_of_length_le (by rw [List.length_map]; exact hz)] at h1
  -- the weights
  refine ⟨.ref a, rfl, a, ns, rfl, sq_of h1, hz, fun ws0 pos0 wl0 wB0 b0 H2 _ e2 h2 => ?_⟩
  have x2 := e0.trans (e1.trans e2)
  refine q_cut (M := fun σ' H' => ∃ (b : Addr) (ws : List Int), σ' = [some (.ref a), some (.ref b), none, none, none, none, none, none, none, none] ∧ H' b = some (.lst (ws.map V.int)) ∧ Pos ws ∧ ws.length ≤ 200 ∧ (∀ w ∈ ws, w ≤ 2 ^ 200) ∧ Ex H2 H') ?_ fun σ' H3 hM => ?_
  · refine s_if (et_test (ev_eq (ev_mod (ev_sum (ns := ns) (sq_of (e2 _ _ h1)) (ev_var rfl)) ev_c (by decide)) ev_c)) (fun _ H3 e3 => ?_) fun _ H3 e3 => ?_
    · refine s_asgL (el_take (k := 12) (sq_of (e3 _ _ h2)) (ev_var rfl) ev_c) fun b H4 _ e4 h4 => ⟨b, ws0.take 12, rfl, by rw [List.map_take]; exact h4, fun w hw => pos0 w (List.mem_of_mem_take hw), by rw [List.length_take]; omega, fun w hw => wB0 w (List.mem_of_mem_take hw), e3.trans e4⟩
    · exact ⟨b0, ws0, rfl, e3 _ _ h2, pos0, wl0, wB0, e3⟩
  obtain ⟨b, ws, rfl, hb3, pos, wl, wB, e3⟩ := hM
  clear pos0 wl0 wB0 h2
  have x3 := x2.trans e3
  refine q_asg (ev_call (ea_cons (ev_var rfl) ea_nil) fun H e Q q E => ⟨b, ws, rfl, sq_of (e b _ hb3), q⟩) fun H4 e4 => ?_
  have g1 : 1 ≤ gap ws := gap_ge pos
  have gs := gap_le_sum pos
  have s0 := pos_sum pos
  have s1 := sum_small wl wB
  have hb4 := e4 _ _ hb3
  have ha4 := (e2.trans (e3.trans e4)) _ _ h1
  have x4 := x3.trans e4
  -- cell by cell
  refine q_forI (n := 130) (en_catI (xs := ns.take 4) (n := ns.length) (el_is (el_take (k := 4) (sq_of ha4) (ev_var rfl) ev_c) (by rw [List.map_take])) (en_sliceS (ev_var rfl) (eo_some ev_c) (eo_some ev_c) (sq_of ha4) (by decide)) (by rw [List.length_take]; omega) (by decide))
    (fun σ' H' => (∃ y3 y4 y5 y6 y7 y8, σ' = [some (.ref a), some (.ref b), some (.int (gap ws)), y3, y4, y5, y6, y7, y8, none]) ∧ Ex H4 H') (fun H' e => ⟨⟨_, _, _, _, _, _, rfl⟩, e⟩) (fun c σ' H' hv M hM => ?_) fun σ' H' hv => ?_
  · obtain ⟨⟨y3, y4, y5, y6, y7, y8, rfl⟩, ex⟩ := hv
    have c0 := Int.emod_nonneg c (show (90 : Int) ≠ 0 by decide)
    have c9 := Int.emod_lt_of_pos c (show (0 : Int) < 90 by decide)
    refine q_asg (ev_add (ev_var rfl) (ev_mod (ev_var rfl) ev_c (by decide))) fun H5 e5 => ?_
    have hm : 0 ≤ gap ws + c % 90 ∧ gap ws + c % 90 < 2 ^ 1000 := by
      have big2 : (2 : Int) ^ 210 + 1000 ≤ 2 ^ 300 := by decide
      have big3 : (2 : Int) ^ 300 < 2 ^ 1000 := by decide
      constructor
      · omega
      · refine Int.lt_of_le_of_lt ?_ big3
        generalize (2 : Int) ^ 300 = z at *
        generalize (2 : Int) ^ 210 = y at *
        omega
    have hmg : gap ws ≤ gap ws + c % 90 := by omega
    generalize gap ws + c % 90 = m at hm hmg
    obtain ⟨m0, mN⟩ := hm
    have hb5 := (ex.trans e5) _ _ hb4
    have x5 := x4.trans (ex.trans e5)
    refine q_asgN (W := BestNew D H5 (gapsC ws m) (gapsC ws m)) (en_call (vs := [.ref b, .int m]) (ea_cons (ev_var rfl) (ea_cons (ev_var rfl) ea_nil)) fun H e Q q E => ⟨b, ws, m, rfl, sq_of (e _ _ hb5), pos, by omega, m0, mN, fun p H4 hp e4 hw => q p H4 hp e4 (hw.back e)⟩) fun f H6 _ e6 hf => ?_
    have glen : (gapsC ws m).length ≤ 1500 := Nat.le_trans (gapsC_len pos m0 mN) (by decide)
    generalize gapsC ws m = cs at glen hf
    obtain ⟨dx, l1, l2, hf, hl1, hl2, _⟩ := hf
    have hb6 := e6 _ _ hb5
    have x6 := x5.trans e6
    -- that all can be weighed
    refine q_when (b := false) (et_is (et_or (a := false) (b := false) (et_is (et_not (et_B (ev_says (b := decide (m < gap ws)) (c := false) (ev_showsKN (o := none) (ws := ws) (m := m) en_all (ea_cons (ev_var rfl) (ea_cons (ev_var rfl) ea_nil)) (sq_of hb6) (x6 _ _ tb1)) ev_c))) (by rw [decide_eq_false (show ¬ m < gap ws by omega)]; rfl)) fun _ =>
      et_is (et_not (et_B (ev_says (b := decide (c % gap ws < gap ws)) (c := true) (ev_showsKN (o := none) (ws := ws) (m := c % gap ws) en_all (ea_cons (ev_var rfl) (ea_cons (ev_mod (ev_var rfl) (ev_var rfl) (by omega)) ea_nil)) (sq_of hb6) (x6 _ _ tb1)) ev_c))) (by rw [decide_eq_true (Int.emod_lt_of_pos c (show 0 < gap ws by omega))]; rfl)) rfl) (fun z => nomatch z) fun _ H7 e7 => ?_
    have hb7 := e7 _ _ hb6
    have x7 := x6.trans e7
    -- any numbers as gaps
    refine q_forI (n := 8) (en_ints (ms := [gap ws, gap ws + 1, c % (2 * gap ws), -c % 9 - 9, ws.sum + 1, ws.sum, m, 0]) (el_lst (ea_cons (ev_var rfl) (ea_cons (ev_add (ev_var rfl) ev_c) (ea_cons (ev_mod (ev_var rfl) (ev_mulC ev_c (ev_var rfl) ⟨by decide, by decide⟩) (by omega)) (ea_cons (ev_sub (ev_mod (ev_negI (ev_var rfl)) ev_c (by decide)) ev_c)
      (ea_cons (ev_add (ev_sum (ns := ws) (sq_of hb7) (ev_var rfl)) ev_c) (ea_cons (ev_sum (ns := ws) (sq_of hb7) (ev_var rfl)) (ea_cons (ev_var rfl) (ea_cons ev_c ea_nil)))))))) (by show 8 ≤ 100000; decide)))
      (fun σ' H' => (∃ y6 y7, σ' = [some (.ref a), some (.ref b), some (.int (gap ws)), some (.int c), some (.int m), some (.ref f), y6, y7, y8, none]) ∧ Ex H7 H') (fun H' e => ⟨⟨_, _, rfl⟩, e⟩) (fun n σ' H8 hv M2 hM2 => ?_) fun σ' H8 hv => ?_
    · obtain ⟨⟨y6, y7, rfl⟩, e8⟩ := hv
      have hb8 := e8 _ _ hb7
      refine q_asg (v := .bl (decide (1 ≤ n) && decide (n ≤ m) && !ws.contains n)) (ev_andV (ev_chainLe ev_c (ev_var rfl) (ev_var rfl)) fun _ => ev_notIn (ev_var rfl) (ev_var rfl) (sq_of hb8)) fun H9 e9 => ?_
      refine q_asg (v := .bl (gapOk n ws m)) (ev_is (ev_andV (a := decide (1 ≤ n) && decide (n ≤ m) && !ws.contains n) (b := decide (lowSum n ws < n)) (ev_var rfl) fun _ => ev_lt (i := lowSum n ws) (ev_sumN (el_lcF (fun w => decide (w < n)) (ev_var rfl) (sq_of (e9 _ _ hb8)) (by omega) (fun _ => rfl) (fun k H e => et_test (ev_lt (ev_var rfl) (ev_var rfl))) fun k H e => ev_var rfl) rfl) (ev_var rfl))
        (congrArg V.bl (gap_ok_and n m ws))) fun H10 e10 => ?_
      have x10 := e8.trans (e9.trans e10)
      exact s_when (b := false) (et_is (et_or (a := false) (b := false) (et_is (et_test (ev_ne (i := n) (ev_numN (en_gap (ev_var rfl)) T.clG.cls T.nG) (ev_var rfl))) (by rw [decide_eq_true rfl]; rfl)) fun _ =>
        et_is (et_not (et_B (ev_says (b := gapOk n ws m) (c := gapOk n ws m) (ev_showsKN (o := some n) (en_gap (ev_var rfl)) (ea_cons (ev_var rfl) (ea_cons (ev_var rfl) ea_nil)) (sq_of (x10 _ _ hb7)) ((x7.trans x10) _ _ tb1)) (ev_var rfl)))) (by cases gapOk n ws m <;> rfl)) rfl) (fun z => nomatch z)
        fun _ H11 e11 => hM2 _ _ (e9.trans (e10.trans e11)) ⟨⟨_, _, rfl⟩, x10.trans e11⟩
    obtain ⟨⟨y6, y7, rfl⟩, e8⟩ := hv
    have y0 := e7.trans e8
    have t2 : ∀ {H'}, Ex H8 H' → Tb H' D.P2 := fun e => (x7.trans (e8.trans e)) _ _ tb2
    have hb8 : ∀ {H'}, Ex H8 H' → H' b = some (.lst (ws.map V.int)) := fun e => (e8.trans e) _ _ hb7
    have add : ∀ {σ : L2.St} {H'}, Ex H8 H' → σ[5]? = some (some (V.ref f)) → Ev (tFld K (tVar 5) "added") σ H' (.ref l1) := fun e h => ev_fld (ev_var h) ((y0.trans e) _ _ hf) T.clB.cls T.nB1 (fB_added l1 l2)
    have mis : ∀ {σ : L2.St} {H'}, Ex H8 H' → σ[5]? = some (some (V.ref f)) → Ev (tFld K (tVar 5) "misses") σ H' (.ref l2) := fun e h => ev_fld (ev_var h) ((y0.trans e) _ _ hf) T.clB.cls T.nB2 (fB_misses l1 l2)
    have k1 : ∀ {H'}, Ex H8 H' → H' l1 = some (.lst (cs.map V.int)) := fun e => (y0.trans e) _ _ hl1
    have k2 : ∀ {H'}, Ex H8 H' → H' l2 = some (.lst (cs.map V.int)) := fun e => (y0.trans e) _ _ hl2
    have dv : ∀ {j : Int}, 0 < j → j < 1000000 → CDivW c j := fun h h2 => div_lit h h2
    have r8 := Ex.refl H8
    -- the weights bent, the misses bent, another number, both
    refine q_when (b := false) (et_is (et_not (a := true) (et_B (ev_bestR (ws := ws) (m := m) (ev_var rfl) (ev_var rfl) (es_new (en_bent (add r8 rfl) (ev_div (ev_var rfl) ev_c (dv (by decide) (by decide))) (k1 r8) (by omega)) (by omega)) (es_old (mis r8 rfl) (k2 r8) (by omega)) (hb8 r8) pos (by omega) (t2 r8)))) rfl) (fun z => nomatch z) fun _ H9 r9 => ?_
    refine q_when (b := false) (et_is (et_not (a := true) (et_B (ev_bestR (ws := ws) (m := m) (ev_var rfl) (ev_var rfl) (es_old (add r9 rfl) (k1 r9) (by omega)) (es_new (en_bent (mis r9 rfl) (ev_div (ev_var rfl) ev_c (dv (by decide) (by decide))) (k2 r9) (by omega)) (by omega)) (hb8 r9) pos (by omega) (t2 r9)))) rfl) (fun z => nomatch z) fun _ H10 e10 => ?_
    have r10 := r9.trans e10
    refine q_when (b := false) (et_is (et_not (a := true) (et_B (ev_bestR (ws := ws) (m := m + c / 5 % 3 - 1) (ev_var rfl) (ev_sub (ev_add (ev_var rfl) (ev_mod (ev_div (ev_var rfl) ev_c (dv (by decide) (by decide))) ev_c (by decide))) ev_c) (es_old (add r10 rfl) (k1 r10) (by omega)) (es_old (mis r10 rfl) (k2 r10) (by omega)) (hb8 r10) pos (by omega) (t2 r10)))) rfl) (fun z => nomatch z) fun _ H11 e11 => ?_
    have r11 := r10.trans e11
    refine q_asgN (W := IntsN (cs.length + 1)) (en_bent (mis r11 rfl) (ev_div (ev_var rfl) ev_c (dv (by decide) (by decide))) (k2 r11) (by omega)) fun d H12 _ e12 ⟨os, ho, hol⟩ => ?_
    have r12 := r11.trans e12
    refine s_when (b := false) (et_is (et_not (a := true) (et_B (ev_bestR (ws := ws) (m := m) (ev_var rfl) (ev_var rfl) (es_old (ev_var rfl) ho (by omega)) (es_old (ev_var rfl) ho (by omega)) (hb8 r12) pos (by omega) (t2 r12)))) rfl) (fun z => nomatch z) fun _ H13 e13 =>
      hM _ _ (e5.trans (e6.trans (e7.trans (e8.trans (r12.trans e13))))) ⟨⟨_, _, _, _, _, _, rfl⟩, ex.trans (e5.trans (e6.trans (e7.trans (e8.trans (r12.trans e13)))))⟩
  obtain ⟨⟨y3, y4, y5, y6, y7, y8, rfl⟩, ex⟩ := hv
  have tbE := (x4.trans ex) _ _ tb1
  have l15 : ∀ {σ : L2.St} {H : Hp}, EvL (tLst (tCons (tC (.int 1)) (tCons (tC (.int 5)) tNil))) σ H (([1, 5] : List Int).map V.int) := el_lst (ea_cons ev_c (ea_cons ev_c ea_nil)) (by show 2 ≤ 100000; decide)
  exact s_ret (v := .bl true) (ev_is (ev_andV (a := true == true) (b := false == false) (ev_is (ev_says (b := gapOk 7 [1, 5] 9) (c := true) (ev_showsKL (ws := [1, 5]) (en_gap ev_c) l15 ev_c tbE) ev_c) (by rw [show gapOk 7 [1, 5] 9 = true by decide +kernel])) fun _ =>
    ev_is (ev_says (b := gapOk 6 [1, 5] 9) (c := false) (ev_showsKL (ws := [1, 5]) (en_gap ev_c) l15 ev_c tbE) ev_c) (by rw [show gapOk 6 [1, 5] 9 = false by decide +kernel])) rfl) fun H' e => q H' (x4.trans (ex.trans e))
end
end Wt
/-! ### what the top has written, and the end -/
namespace Wt
open PySem PySem.Spec PyProof.Rows L2 Evl
theorem all_mk {l : PySem.W.OpenLaw} {w : World} {K : PySem.W.Frag} {h : Heap} {mg : Str → Option Value} {dN dA dG dB dP1 dP2 c1 c2 fa f0 f1 f2 f3 f4 f5 f6 f7 f8 f9 f10 f11 f12 f13 f14 f15 f16 f17 f18 f19 f20 f21 f22 f23 f24 f25 f26 f27 f28 : Addr} (X : K.In h) (G : h.Ns mainGlobals mg) (hfa : mg "law" = some (.ref fa))
    {od0 an0 : Option Addr} {sl0 : Array (Option Value)} {oc0 kV0 dc0 pm0 cd0 ct0 : Value}
    {od1 an1 : Option Addr} {sl1 : Array (Option Value)} {oc1 kV1 dc1 pm1 cd1 ct1 : Value}
    {od2 an2 : Option Addr} {sl2 : Array (Option Value)} {oc2 kV2 dc2 pm2 cd2 ct2 : Value}
    {od3 an3 : Option Addr} {sl3 : Array (Option Value)} {oc3 kV3 dc3 pm3 cd3 ct3 : Value}
    {od4 an4 : Option Addr} {sl4 : Array (Option Value)} {oc4 kV4 dc4 pm4 cd4 ct4 : Value}
    {od5 an5 : Option Addr} {sl5 : Array (Option Value)} {oc5 kV5 dc5 pm5 cd5 ct5 : Value}
    {od6 an6 : Option Addr} {sl6 : Array (Option Value)} {oc6 kV6 dc6 pm6 cd6 ct6 : Value}
    {od7 an7 : Option Addr} {sl7 : Array (Option Value)} {oc7 kV7 dc7 pm7 cd7 ct7 : Value}
    {od8 an8 : Option Addr} {sl8 : Array (Option Value)} {oc8 kV8 dc8 pm8 cd8 ct8 : Value}
    {od9 an9 : Option Addr} {sl9 : Array (Option Value)} {oc9 kV9 dc9 pm9 cd9 ct9 : Value}
    {od10 an10 : Option Addr} {sl10 : Array (Option Value)} {oc10 kV10 dc10 pm10 cd10 ct10 : Value}
    {od11 an11 : Option Addr} {sl11 : Array (Option Value)} {oc11 kV11 dc11 pm11 cd11 ct11 : Value}
    {od12 an12 : Option Addr} {sl12 : Array (Option Value)} {oc12 kV12 dc12 pm12 cd12 ct12 : Value}
    {od13 an13 : Option Addr} {sl13 : Array (Option Value)} {oc13 kV13 dc13 pm13 cd13 ct13 : Value}
    {od14 an14 : Option Addr} {sl14 : Array (Option Value)} {oc14 kV14 dc14 pm14 cd14 ct14 : Value}
    {od15 an15 : Option Addr} {sl15 : Array (Option Value)} {oc15 kV15 dc15 pm15 cd15 ct15 : Value}
    {od16 an16 : Option Addr} {sl16 : Array (Option Value)} {oc16 kV16 dc16 pm16 cd16 ct16 : Value}
    {od17 an17 : Option Addr} {sl17 : Array (Option Value)} {oc17 kV17 dc17 pm17 cd17 ct17 : Value}
    {od18 an18 : Option Addr} {sl18 : Array (Option Value)} {oc18 kV18 dc18 pm18 cd18 ct18 : Value}
    {od19 an19 : Option Addr} {sl19 : Array (Option Value)} {oc19 kV19 dc19 pm19 cd19 ct19 : Value}
    {od20 an20 : Option Addr} {sl20 : Array (Option Value)} {oc20 kV20 dc20 pm20 cd20 ct20 : Value}
    {od21 an21 : Option Addr} {sl21 : Array (Option Value)} {oc21 kV21 dc21 pm21 cd21 ct21 : Value}
    {od22 an22 : Option Addr} {sl22 : Array (Option Value)} {oc22 kV22 dc22 pm22 cd22 ct22 : Value}
    {od23 an23 : Option Addr} {sl23 : Array (Option Value)} {oc23 kV23 dc23 pm23 cd23 ct23 : Value}
    {od24 an24 : Option Addr} {sl24 : Array (Option Value)} {oc24 kV24 dc24 pm24 cd24 ct24 : Value}
    {od25 an25 : Option Addr} {sl25 : Array (Option Value)} {oc25 kV25 dc25 pm25 cd25 ct25 : Value}
    {od26 an26 : Option Addr} {sl26 : Array (Option Value)} {oc26 kV26 dc26 pm26 cd26 ct26 : Value}
    {od27 an27 : Option Addr} {sl27 : Array (Option Value)} {oc27 kV27 dc27 pm27 cd27 ct27 : Value}
    {od28 an28 : Option Addr} {sl28 : Array (Option Value)} {oc28 kV28 dc28 pm28 cd28 ct28 : Value}
    (gN : PySem.W.nsIn K mainGlobals "Answer" = some (some (.ref dN)))
    (gA : PySem.W.nsIn K mainGlobals "All" = some (some (.ref dA)))
    (gG : PySem.W.nsIn K mainGlobals "Gap" = some (some (.ref dG)))
    (gB : PySem.W.nsIn K mainGlobals "Best" = some (some (.ref dB)))
    (a0 : PySem.W.nsIn K mainGlobals "first_gap" = some (some (.ref f0)))
    (l0 : K.lookup f0 = some ⟨oc0, od0, .func (PySem.W.fnOf "first_gap" "first_gap" (defArgs sFirstGap) (defBody sFirstGap) (defScope sFirstGap) .none kV0 dc0 pm0 an0 cd0 ct0), sl0⟩)
    (cc0 : PySem.W.codeIn K cd0 "first_gap" = true)
    (k0 : PySem.W.keepIn K (.ref f0) = true)
    (a1 : PySem.W.nsIn K mainGlobals "weighing" = some (some (.ref f1)))
    (l1 : K.lookup f1 = some ⟨oc1, od1, .func (PySem.W.fnOf "weighing" "weighing" (defArgs sWeighing) (defBody sWeighing) (defScope sWeighing) .none kV1 dc1 pm1 an1 cd1 ct1), sl1⟩)
    (cc1 : PySem.W.codeIn K cd1 "weighing" = true)
    (k1 : PySem.W.keepIn K (.ref f1) = true)
    (a2 : PySem.W.nsIn K mainGlobals "without" = some (some (.ref f2)))
    (l2 : K.lookup f2 = some ⟨oc2, od2, .func (PySem.W.fnOf "without" "without" (defArgs sWithout) (defBody sWithout) (defScope sWithout) .none kV2 dc2 pm2 an2 cd2 ct2), sl2⟩)
    (cc2 : PySem.W.codeIn K cd2 "without" = true)
    (k2 : PySem.W.keepIn K (.ref f2) = true)
    (a3 : PySem.W.nsIn K mainGlobals "check_set" = some (some (.ref f3)))
    (l3 : K.lookup f3 = some ⟨oc3, od3, .func (PySem.W.fnOf "check_set" "check_set" (defArgs sCheckSet) (defBody sCheckSet) (defScope sCheckSet) .none kV3 dc3 pm3 an3 cd3 ct3), sl3⟩)
    (cc3 : PySem.W.codeIn K cd3 "check_set" = true)
    (k3 : PySem.W.keepIn K (.ref f3) = true)
    (a4 : PySem.W.nsIn K mainGlobals "is_whole" = some (some (.ref f4)))
    (l4 : K.lookup f4 = some ⟨oc4, od4, .func (PySem.W.fnOf "is_whole" "is_whole" (defArgs sIsWhole) (defBody sIsWhole) (defScope sIsWhole) .none kV4 dc4 pm4 an4 cd4 ct4), sl4⟩)
    (cc4 : PySem.W.codeIn K cd4 "is_whole" = true)
    (k4 : PySem.W.keepIn K (.ref f4) = true)
    (a5 : PySem.W.nsIn K mainGlobals "gap_of" = some (some (.ref f5)))
    (l5 : K.lookup f5 = some ⟨oc5, od5, .func (PySem.W.fnOf "gap_of" "gap_of" (defArgs sGapOf) (defBody sGapOf) (defScope sGapOf) .none kV5 dc5 pm5 an5 cd5 ct5), sl5⟩)
    (cc5 : PySem.W.codeIn K cd5 "gap_of" = true)
    (k5 : PySem.W.keepIn K (.ref f5) = true)
    (a6 : PySem.W.nsIn K mainGlobals "places_chosen" = some (some (.ref f6)))
    (l6 : K.lookup f6 = some ⟨oc6, od6, .func (PySem.W.fnOf "places_chosen" "places_chosen" (defArgs sPlacesChosen) (defBody sPlacesChosen) (defScope sPlacesChosen) .none kV6 dc6 pm6 an6 cd6 ct6), sl6⟩)
    (cc6 : PySem.W.codeIn K cd6 "places_chosen" = true)
    (k6 : PySem.W.keepIn K (.ref f6) = true)
    (m7 : PySem.W.findIn K (.ref dA) "shows" = some (some (.ref f7)))
    (i7 : PySem.W.isFn K (.ref f7) = true)
    (l7 : K.lookup f7 = some ⟨oc7, od7, .func (PySem.W.fnOf "shows" "All.shows" (defArgs sAllShows) (defBody sAllShows) (defScope sAllShows) .none kV7 dc7 pm7 an7 cd7 ct7), sl7⟩)
    (cc7 : PySem.W.codeIn K cd7 "All.shows" = true)
    (k7 : PySem.W.keepIn K (.ref f7) = true)
    (m8 : PySem.W.findIn K (.ref dG) "__init__" = some (some (.ref f8)))
    (i8 : PySem.W.isFn K (.ref f8) = true)
    (l8 : K.lookup f8 = some ⟨oc8, od8, .func (PySem.W.fnOf "__init__" "Gap.__init__" (defArgs sGapInit) (defBody sGapInit) (defScope sGapInit) .none kV8 dc8 pm8 an8 cd8 ct8), sl8⟩)
    (cc8 : PySem.W.codeIn K cd8 "Gap.__init__" = true)
    (k8 : PySem.W.keepIn K (.ref f8) = true)
    (m9 : PySem.W.findIn K (.ref dG) "shows" = some (some (.ref f9)))
    (i9 : PySem.W.isFn K (.ref f9) = true)
    (l9 : K.lookup f9 = some ⟨oc9, od9, .func (PySem.W.fnOf "shows" "Gap.shows" (defArgs sGapShows) (defBody sGapShows) (defScope sGapShows) .none kV9 dc9 pm9 an9 cd9 ct9), sl9⟩)
    (cc9 : PySem.W.codeIn K cd9 "Gap.shows" = true)
    (k9 : PySem.W.keepIn K (.ref f9) = true)
    (m10 : PySem.W.findIn K (.ref dB) "__init__" = some (some (.ref f10)))
    (i10 : PySem.W.isFn K (.ref f10) = true)
    (l10 : K.lookup f10 = some ⟨oc10, od10, .func (PySem.W.fnOf "__init__" "Best.__init__" (defArgs sBestInit) (defBody sBestInit) (defScope sBestInit) .none kV10 dc10 pm10 an10 cd10 ct10), sl10⟩)
    (cc10 : PySem.W.codeIn K cd10 "Best.__init__" = true)
    (k10 : PySem.W.keepIn K (.ref f10) = true)
    (m11 : PySem.W.findIn K (.ref dB) "shows" = some (some (.ref f11)))
    (i11 : PySem.W.isFn K (.ref f11) = true)
    (l11 : K.lookup f11 = some ⟨oc11, od11, .func (PySem.W.fnOf "shows" "Best.shows" (defArgs sBestShows) (defBody sBestShows) (defScope sBestShows) .none kV11 dc11 pm11 an11 cd11 ct11), sl11⟩)
    (cc11 : PySem.W.codeIn K cd11 "Best.shows" = true)
    (k11 : PySem.W.keepIn K (.ref f11) = true)
    (a12 : PySem.W.nsIn K mainGlobals "is_from_1_to" = some (some (.ref f12)))
    (l12 : K.lookup f12 = some ⟨oc12, od12, .func (PySem.W.fnOf "is_from_1_to" "is_from_1_to" (defArgs sIsFrom1To) (defBody sIsFrom1To) (defScope sIsFrom1To) .none kV12 dc12 pm12 an12 cd12 ct12), sl12⟩)
    (cc12 : PySem.W.codeIn K cd12 "is_from_1_to" = true)
    (k12 : PySem.W.keepIn K (.ref f12) = true)
    (a13 : PySem.W.nsIn K mainGlobals "is_left_out" = some (some (.ref f13)))
    (l13 : K.lookup f13 = some ⟨oc13, od13, .func (PySem.W.fnOf "is_left_out" "is_left_out" (defArgs sIsLeftOut) (defBody sIsLeftOut) (defScope sIsLeftOut) .none kV13 dc13 pm13 an13 cd13 ct13), sl13⟩)
    (cc13 : PySem.W.codeIn K cd13 "is_left_out" = true)
    (k13 : PySem.W.keepIn K (.ref f13) = true)
    (a14 : PySem.W.nsIn K mainGlobals "are_weights" = some (some (.ref f14)))
    (l14 : K.lookup f14 = some ⟨oc14, od14, .func (PySem.W.fnOf "are_weights" "are_weights" (defArgs sAreWeights) (defBody sAreWeights) (defScope sAreWeights) .none kV14 dc14 pm14 an14 cd14 ct14), sl14⟩)
    (cc14 : PySem.W.codeIn K cd14 "are_weights" = true)
    (k14 : PySem.W.keepIn K (.ref f14) = true)
    (a15 : PySem.W.nsIn K mainGlobals "are_misses" = some (some (.ref f15)))
    (l15 : K.lookup f15 = some ⟨oc15, od15, .func (PySem.W.fnOf "are_misses" "are_misses" (defArgs sAreMisses) (defBody sAreMisses) (defScope sAreMisses) .none kV15 dc15 pm15 an15 cd15 ct15), sl15⟩)
    (cc15 : PySem.W.codeIn K cd15 "are_misses" = true)
    (k15 : PySem.W.keepIn K (.ref f15) = true)
    (a16 : PySem.W.nsIn K mainGlobals "told" = some (some (.ref f16)))
    (l16 : K.lookup f16 = some ⟨oc16, od16, .func (PySem.W.fnOf "told" "told" (defArgs sTold) (defBody sTold) (defScope sTold) .none kV16 dc16 pm16 an16 cd16 ct16), sl16⟩)
    (cc16 : PySem.W.codeIn K cd16 "told" = true)
    (k16 : PySem.W.keepIn K (.ref f16) = true)
    (a17 : PySem.W.nsIn K mainGlobals "fewest" = some (some (.ref f17)))
    (l17 : K.lookup f17 = some ⟨oc17, od17, .func (PySem.W.fnOf "fewest" "fewest" (defArgs sFewest) (defBody sFewest) (defScope sFewest) .none kV17 dc17 pm17 an17 cd17 ct17), sl17⟩)
    (cc17 : PySem.W.codeIn K cd17 "fewest" = true)
    (k17 : PySem.W.keepIn K (.ref f17) = true)
    (a18 : PySem.W.nsIn K mainGlobals "check_asked" = some (some (.ref f18)))
    (l18 : K.lookup f18 = some ⟨oc18, od18, .func (PySem.W.fnOf "check_asked" "check_asked" (defArgs sCheckAsked) (defBody sCheckAsked) (defScope sCheckAsked) .none kV18 dc18 pm18 an18 cd18 ct18), sl18⟩)
    (cc18 : PySem.W.codeIn K cd18 "check_asked" = true)
    (k18 : PySem.W.keepIn K (.ref f18) = true)
    (a19 : PySem.W.nsIn K mainGlobals "gaps_to_close" = some (some (.ref f19)))
    (l19 : K.lookup f19 = some ⟨oc19, od19, .func (PySem.W.fnOf "gaps_to_close" "gaps_to_close" (defArgs sGapsToClose) (defBody sGapsToClose) (defScope sGapsToClose) .none kV19 dc19 pm19 an19 cd19 ct19), sl19⟩)
    (cc19 : PySem.W.codeIn K cd19 "gaps_to_close" = true)
    (k19 : PySem.W.keepIn K (.ref f19) = true)
    (a20 : PySem.W.nsIn K mainGlobals "_law_set" = some (some (.ref f20)))
    (l20 : K.lookup f20 = some ⟨oc20, od20, .func (PySem.W.fnOf "_law_set" "_law_set" (defArgs sLawSet) (defBody sLawSet) (defScope sLawSet) .none kV20 dc20 pm20 an20 cd20 ct20), sl20⟩)
    (cc20 : PySem.W.codeIn K cd20 "_law_set" = true)
    (k20 : PySem.W.keepIn K (.ref f20) = true)
    (a21 : PySem.W.nsIn K mainGlobals "_law_gap" = some (some (.ref f21)))
    (l21 : K.lookup f21 = some ⟨oc21, od21, .func (PySem.W.fnOf "_law_gap" "_law_gap" (defArgs sLawGap) (defBody sLawGap) (defScope sLawGap) .none kV21 dc21 pm21 an21 cd21 ct21), sl21⟩)
    (cc21 : PySem.W.codeIn K cd21 "_law_gap" = true)
    (k21 : PySem.W.keepIn K (.ref f21) = true)
    (a22 : PySem.W.nsIn K mainGlobals "_law_due" = some (some (.ref f22)))
    (l22 : K.lookup f22 = some ⟨oc22, od22, .func (PySem.W.fnOf "_law_due" "_law_due" (defArgs sLawDue) (defBody sLawDue) (defScope sLawDue) .none kV22 dc22 pm22 an22 cd22 ct22), sl22⟩)
    (cc22 : PySem.W.codeIn K cd22 "_law_due" = true)
    (k22 : PySem.W.keepIn K (.ref f22) = true)
    (a23 : PySem.W.nsIn K mainGlobals "_law_says" = some (some (.ref f23)))
    (l23 : K.lookup f23 = some ⟨oc23, od23, .func (PySem.W.fnOf "_law_says" "_law_says" (defArgs sLawSays) (defBody sLawSays) (defScope sLawSays) .none kV23 dc23 pm23 an23 cd23 ct23), sl23⟩)
    (cc23 : PySem.W.codeIn K cd23 "_law_says" = true)
    (k23 : PySem.W.keepIn K (.ref f23) = true)
    (a24 : PySem.W.nsIn K mainGlobals "_law_bent" = some (some (.ref f24)))
    (l24 : K.lookup f24 = some ⟨oc24, od24, .func (PySem.W.fnOf "_law_bent" "_law_bent" (defArgs sLawBent) (defBody sLawBent) (defScope sLawBent) .none kV24 dc24 pm24 an24 cd24 ct24), sl24⟩)
    (cc24 : PySem.W.codeIn K cd24 "_law_bent" = true)
    (k24 : PySem.W.keepIn K (.ref f24) = true)
    (a25 : PySem.W.nsIn K mainGlobals "_law_best_right" = some (some (.ref f25)))
    (l25 : K.lookup f25 = some ⟨oc25, od25, .func (PySem.W.fnOf "_law_best_right" "_law_best_right" (defArgs sLawBestRight) (defBody sLawBestRight) (defScope sLawBestRight) .none kV25 dc25 pm25 an25 cd25 ct25), sl25⟩)
    (cc25 : PySem.W.codeIn K cd25 "_law_best_right" = true)
    (k25 : PySem.W.keepIn K (.ref f25) = true)
    (a26 : PySem.W.nsIn K mainGlobals "_law_promises_right" = some (some (.ref f26)))
    (l26 : K.lookup f26 = some ⟨oc26, od26, .func (PySem.W.fnOf "_law_promises_right" "_law_promises_right" (defArgs sLawPromisesRight) (defBody sLawPromisesRight) (defScope sLawPromisesRight) .none kV26 dc26 pm26 an26 cd26 ct26), sl26⟩)
    (cc26 : PySem.W.codeIn K cd26 "_law_promises_right" = true)
    (k26 : PySem.W.keepIn K (.ref f26) = true)
    (a27 : PySem.W.nsIn K mainGlobals "_law_fewest_promises" = some (some (.ref f27)))
    (l27 : K.lookup f27 = some ⟨oc27, od27, .func (PySem.W.fnOf "_law_fewest_promises" "_law_fewest_promises" (defArgs sLawFewestPromises) (defBody sLawFewestPromises) (defScope sLawFewestPromises) .none kV27 dc27 pm27 an27 cd27 ct27), sl27⟩)
    (cc27 : PySem.W.codeIn K cd27 "_law_fewest_promises" = true)
    (k27 : PySem.W.keepIn K (.ref f27) = true)
    (a28 : PySem.W.nsIn K mainGlobals "law" = some (some (.ref f28)))
    (l28 : K.lookup f28 = some ⟨oc28, od28, .func (PySem.W.fnOf "law" "law" (defArgs sLaw) (defBody sLaw) (defScope sLaw) .none kV28 dc28 pm28 an28 cd28 ct28), sl28⟩)
    (cc28 : PySem.W.codeIn K cd28 "law" = true)
    (k28 : PySem.W.keepIn K (.ref f28) = true)
    (z_len : PySem.W.nsIn K mainGlobals "len" = some none)
    (z_sorted : PySem.W.nsIn K mainGlobals "sorted" = some none)
    (z_sum : PySem.W.nsIn K mainGlobals "sum" = some none)
    (z_allF : PySem.W.nsIn K mainGlobals "all" = some none)
    (z_isinstance : PySem.W.nsIn K mainGlobals "isinstance" = some none)
    (z_range : PySem.W.nsIn K mainGlobals "range" = some none)
    (z_enumerate : PySem.W.nsIn K mainGlobals "enumerate" = some none)
    (z_setT : PySem.W.nsIn K mainGlobals "set" = some none)
    (z_listT : PySem.W.nsIn K mainGlobals "list" = some none)
    (z_intT : PySem.W.nsIn K mainGlobals "int" = some none)
    (z_boolT : PySem.W.nsIn K mainGlobals "bool" = some none)
    (z_anyF : PySem.W.nsIn K mainGlobals "any" = some none)
    (z_tupleT : PySem.W.nsIn K mainGlobals "tuple" = some none)
    (z_strT : PySem.W.nsIn K mainGlobals "str" = some none)
    (z_abs : PySem.W.nsIn K mainGlobals "abs" = some none)
    (z_zip : PySem.W.nsIn K mainGlobals "zip" = some none)
    (pgA : PySem.W.plainGet K dA Str.empty = true)
    (hdA : PySem.W.hasDictIn K dA = true)
    (poA : PySem.W.plainOver K dA = true)
    (saA : PySem.W.findIn K (.ref dA) "__setattr__" = some (some (.builtin "object.__setattr__")))
    (haA : PySem.W.findIn K (.ref dA) "__class__" = some (some (.builtin "object.__class__")))
    (hmA : PySem.W.mroIn K dA (.type "object") = some true)
    (mkA : PySem.W.makesIn K dA = true)
    (kcA : PySem.W.keepIn K (.ref dA) = true)
    (pgG : PySem.W.plainGet K dG Str.empty = true)
    (hdG : PySem.W.hasDictIn K dG = true)
    (poG : PySem.W.plainOver K dG = true)
    (saG : PySem.W.findIn K (.ref dG) "__setattr__" = some (some (.builtin "object.__setattr__")))
    (haG : PySem.W.findIn K (.ref dG) "__class__" = some (some (.builtin "object.__class__")))
    (hmG : PySem.W.mroIn K dG (.type "object") = some true)
    (mkG : PySem.W.makesIn K dG = true)
    (kcG : PySem.W.keepIn K (.ref dG) = true)
    (pgB : PySem.W.plainGet K dB Str.empty = true)
    (hdB : PySem.W.hasDictIn K dB = true)
    (poB : PySem.W.plainOver K dB = true)
    (saB : PySem.W.findIn K (.ref dB) "__setattr__" = some (some (.builtin "object.__setattr__")))
    (haB : PySem.W.findIn K (.ref dB) "__class__" = some (some (.builtin "object.__class__")))
    (hmB : PySem.W.mroIn K dB (.type "object") = some true)
    (mkB : PySem.W.makesIn K dB = true)
    (kcB : PySem.W.keepIn K (.ref dB) = true)
    (iA : PySem.W.findIn K (.ref dA) "__init__" = some (some (.builtin "object.__init__")))
    (hn : PySem.W.specialIn K (.builtin "object.__class__") "__get__" = some (some (.builtin "getset_descriptor.__get__")))
    (htk : PySem.W.takesIn K (.builtin "object.__class__") = some true)
    (n_number : PySem.W.findIn K (.ref dG) "number" = some none)
    (n_added : PySem.W.findIn K (.ref dB) "added" = some none)
    (n_misses : PySem.W.findIn K (.ref dB) "misses" = some none)
    (qAN : PySem.W.kitOne K (.ref dA) (.ref dN) = some true)
    (qAA : PySem.W.kitOne K (.ref dA) (.ref dA) = some true)
    (qAG : PySem.W.kitOne K (.ref dA) (.ref dG) = some false)
    (qAB : PySem.W.kitOne K (.ref dA) (.ref dB) = some false)
    (qGN : PySem.W.kitOne K (.ref dG) (.ref dN) = some true)
    (qGA : PySem.W.kitOne K (.ref dG) (.ref dA) = some false)
    (qGG : PySem.W.kitOne K (.ref dG) (.ref dG) = some true)
    (qGB : PySem.W.kitOne K (.ref dG) (.ref dB) = some false)
    (qBN : PySem.W.kitOne K (.ref dB) (.ref dN) = some true)
    (qBA : PySem.W.kitOne K (.ref dB) (.ref dA) = some false)
    (qBG : PySem.W.kitOne K (.ref dB) (.ref dG) = some false)
    (qBB : PySem.W.kitOne K (.ref dB) (.ref dB) = some true)
    (t1 : PySem.W.tabIn K "is_left_out" = some (c1, dP1))
    (t2 : PySem.W.tabIn K "are_weights" = some (c2, dP2))
    : ∃ (fd : FuncData) (cs : List (Addr × Addr)), (∀ p ∈ cs, ∃ y ∈ (["is_left_out", "are_weights"] : List Str), PySem.W.tabIn K y = some p) ∧ (∀ (s : Shared) (v : Value), BindsTo s fd ⟨[v], []⟩ [("_law_script", v)]) ∧ ∀ base : Heap, K.In base → base.Ns mainGlobals mg → (∀ p ∈ cs, GxR.TabB base mg p.1 p.2) → FnOk l.prog w K mg base CX0 7 fa fd ["_law_script"] (spLaw K cs) := by
  have e := hfa.symm.trans (PySem.W.mg_of X G a28)
  cases e
  have B : Blt mg := ⟨PySem.W.mg_none_of X G z_len, PySem.W.mg_none_of X G z_sorted, PySem.W.mg_none_of X G z_sum, PySem.W.mg_none_of X G z_allF, PySem.W.mg_none_of X G z_isinstance, PySem.W.mg_none_of X G z_range, PySem.W.mg_none_of X G z_enumerate, PySem.W.mg_none_of X G z_setT, PySem.W.mg_none_of X G z_listT, PySem.W.mg_none_of X G z_intT, PySem.W.mg_none_of X G z_boolT, PySem.W.mg_none_of X G z_anyF, PySem.W.mg_none_of X G z_tupleT, PySem.W.mg_none_of X G z_strT, PySem.W.mg_none_of X G z_abs, PySem.W.mg_none_of X G z_zip⟩
  have T : Ans K mg ⟨dN, dA, dG, dB, dP1, dP2⟩ f8 f10 := ⟨⟨⟨pgA, hdA, poA, saA⟩, haA, hn, htk, hmA⟩, ⟨⟨pgG, hdG, poG, saG⟩, haG, hn, htk, hmG⟩, ⟨⟨pgB, hdB, poB, saB⟩, haB, hn, htk, hmB⟩, ⟨mkA, iA, kcA⟩, ⟨mkG, m8, i8, kcG⟩, ⟨mkB, m10, i10, kcB⟩, PySem.W.mg_of X G gN, PySem.W.mg_of X G gA, PySem.W.mg_of X G gG, PySem.W.mg_of X G gB, n_number, n_added, n_misses⟩
  have KT : Kit K ⟨dN, dA, dG, dB, dP1, dP2⟩ := ⟨qAN, qAA, qAG, qAB, qGN, qGA, qGG, qGB, qBN, qBA, qBG, qBB⟩
  have OFirstGap : Own K mg "first_gap" ["weights"] sFirstGap f0 _ := ⟨fun_mk (st := sFirstGap) l0 cc0 k0, (fun_mk (st := sFirstGap) l0 cc0 k0).binds (ps := ["weights"]) fun _ _ _ _ _ _ us hl => match us, hl with | [_], _ => rfl, PySem.W.mg_of X G a0⟩
  have OWeighing : Own K mg "weighing" ["weights", "number"] sWeighing f1 _ := ⟨fun_mk (st := sWeighing) l1 cc1 k1, (fun_mk (st := sWeighing) l1 cc1 k1).binds (ps := ["weights", "number"]) fun _ _ _ _ _ _ us hl => match us, hl with | [_, _], _ => rfl, PySem.W.mg_of X G a1⟩
  have OWithout : Own K mg "without" ["weights", "place"] sWithout f2 _ := ⟨fun_mk (st := sWithout) l2 cc2 k2, (fun_mk (st := sWithout) l2 cc2 k2).binds (ps := ["weights", "place"]) fun _ _ _ _ _ _ us hl => match us, hl with | [_, _], _ => rfl, PySem.W.mg_of X G a2⟩
  have OCheckSet : Own K mg "check_set" ["weights"] sCheckSet f3 _ := ⟨fun_mk (st := sCheckSet) l3 cc3 k3, (fun_mk (st := sCheckSet) l3 cc3 k3).binds (ps := ["weights"]) fun _ _ _ _ _ _ us hl => match us, hl with | [_], _ => rfl, PySem.W.mg_of X G a3⟩
  have OIsWhole : Own K mg "is_whole" ["value"] sIsWhole f4 _ := ⟨fun_mk (st := sIsWhole) l4 cc4 k4, (fun_mk (st := sIsWhole) l4 cc4 k4).binds (ps := ["value"]) fun _ _ _ _ _ _ us hl => match us, hl with | [_], _ => rfl, PySem.W.mg_of X G a4⟩
  have OGapOf : Own K mg "gap_of" ["weights"] sGapOf f5 _ := ⟨fun_mk (st := sGapOf) l5 cc5 k5, (fun_mk (st := sGapOf) l5 cc5 k5).binds (ps := ["weights"]) fun _ _ _ _ _ _ us hl => match us, hl with | [_], _ => rfl, PySem.W.mg_of X G a5⟩
  have OPlacesChosen : Own K mg "places_chosen" ["weights", "number"] sPlacesChosen f6 _ := ⟨fun_mk (st := sPlacesChosen) l6 cc6 k6, (fun_mk (st := sPlacesChosen) l6 cc6 k6).binds (ps := ["weights", "number"]) fun _ _ _ _ _ _ us hl => match us, hl with | [_, _], _ => rfl, PySem.W.mg_of X G a6⟩
  have OAllShows : OwnM K "shows" "All.shows" ["self", "weights", "most"] sAllShows f7 _ := ⟨fun_mk (st := sAllShows) l7 cc7 k7, (fun_mk (st := sAllShows) l7 cc7 k7).binds (ps := ["self", "weights", "most"]) fun _ _ _ _ _ _ us hl => match us, hl with | [_, _, _], _ => rfl⟩
  have OGapInit : OwnM K "__init__" "Gap.__init__" ["self", "number"] sGapInit f8 _ := ⟨fun_mk (st := sGapInit) l8 cc8 k8, (fun_mk (st := sGapInit) l8 cc8 k8).binds (ps := ["self", "number"]) fun _ _ _ _ _ _ us hl => match us, hl with | [_, _], _ => rfl⟩
  have OGapShows : OwnM K "shows" "Gap.shows" ["self", "weights", "most"] sGapShows f9 _ := ⟨fun_mk (st := sGapShows) l9 cc9 k9, (fun_mk (st := sGapShows) l9 cc9 k9).binds (ps := ["self", "weights", "most"]) fun _ _ _ _ _ _ us hl => match us, hl with | [_, _, _], _ => rfl⟩
  have OBestInit : OwnM K "__init__" "Best.__init__" ["self", "added", "misses"] sBestInit f10 _ := ⟨fun_mk (st := sBestInit) l10 cc10 k10, (fun_mk (st := sBestInit) l10 cc10 k10).binds (ps := ["self", "added", "misses"]) fun _ _ _ _ _ _ us hl => match us, hl with | [_, _, _], _ => rfl⟩
  have OBestShows : OwnM K "shows" "Best.shows" ["self", "weights", "most"] sBestShows f11 _ := ⟨fun_mk (st := sBestShows) l11 cc11 k11, (fun_mk (st := sBestShows) l11 cc11 k11).binds (ps := ["self", "weights", "most"]) fun _ _ _ _ _ _ us hl => match us, hl with | [_, _, _], _ => rfl⟩
  have OIsFrom1To : Own K mg "is_from_1_to" ["number", "most"] sIsFrom1To f12 _ := ⟨fun_mk (st := sIsFrom1To) l12 cc12 k12, (fun_mk (st := sIsFrom1To) l12 cc12 k12).binds (ps := ["number", "most"]) fun _ _ _ _ _ _ us hl => match us, hl with | [_, _], _ => rfl, PySem.W.mg_of X G a12⟩
  have OIsLeftOut : Own K mg "is_left_out" ["number", "weights"] sIsLeftOut f13 _ := ⟨fun_mk (st := sIsLeftOut) l13 cc13 k13, (fun_mk (st := sIsLeftOut) l13 cc13 k13).binds (ps := ["number", "weights"]) fun _ _ _ _ _ _ us hl => match us, hl with | [_, _], _ => rfl, PySem.W.mg_of X G a13⟩
  have OAreWeights : Own K mg "are_weights" ["numbers"] sAreWeights f14 _ := ⟨fun_mk (st := sAreWeights) l14 cc14 k14, (fun_mk (st := sAreWeights) l14 cc14 k14).binds (ps := ["numbers"]) fun _ _ _ _ _ _ us hl => match us, hl with | [_], _ => rfl, PySem.W.mg_of X G a14⟩
  have OAreMisses : Own K mg "are_misses" ["misses", "weights", "most"] sAreMisses f15 _ := ⟨fun_mk (st := sAreMisses) l15 cc15 k15, (fun_mk (st := sAreMisses) l15 cc15 k15).binds (ps := ["misses", "weights", "most"]) fun _ _ _ _ _ _ us hl => match us, hl with | [_, _, _], _ => rfl, PySem.W.mg_of X G a15⟩
  have OTold : Own K mg "told" ["weights", "most"] sTold f16 _ := ⟨fun_mk (st := sTold) l16 cc16 k16, (fun_mk (st := sTold) l16 cc16 k16).binds (ps := ["weights", "most"]) fun _ _ _ _ _ _ us hl => match us, hl with | [_, _], _ => rfl, PySem.W.mg_of X G a16⟩
  have OFewest : Own K mg "fewest" ["weights", "most"] sFewest f17 _ := ⟨fun_mk (st := sFewest) l17 cc17 k17, (fun_mk (st := sFewest) l17 cc17 k17).binds (ps := ["weights", "most"]) fun _ _ _ _ _ _ us hl => match us, hl with | [_, _], _ => rfl, PySem.W.mg_of X G a17⟩
  have OCheckAsked : Own K mg "check_asked" ["weights", "most"] sCheckAsked f18 _ := ⟨fun_mk (st := sCheckAsked) l18 cc18 k18, (fun_mk (st := sCheckAsked) l18 cc18 k18).binds (ps := ["weights", "most"]) fun _ _ _ _ _ _ us hl => match us, hl with | [_, _], _ => rfl, PySem.W.mg_of X G a18⟩
  have OGapsToClose : Own K mg "gaps_to_close" ["weights", "most"] sGapsToClose f19 _ := ⟨fun_mk (st := sGapsToClose) l19 cc19 k19, (fun_mk (st := sGapsToClose) l19 cc19 k19).binds (ps := ["weights", "most"]) fun _ _ _ _ _ _ us hl => match us, hl with | [_, _], _ => rfl, PySem.W.mg_of X G a19⟩
  have OLawSet : Own K mg "_law_set" ["_law_script"] sLawSet f20 _ := ⟨fun_mk (st := sLawSet) l20 cc20 k20, (fun_mk (st := sLawSet) l20 cc20 k20).binds (ps := ["_law_script"]) fun _ _ _ _ _ _ us hl => match us, hl with | [_], _ => rfl, PySem.W.mg_of X G a20⟩
  have OLawGap : Own K mg "_law_gap" ["_law_weights"] sLawGap f21 _ := ⟨fun_mk (st := sLawGap) l21 cc21 k21, (fun_mk (st := sLawGap) l21 cc21 k21).binds (ps := ["_law_weights"]) fun _ _ _ _ _ _ us hl => match us, hl with | [_], _ => rfl, PySem.W.mg_of X G a21⟩
  have OLawDue : Own K mg "_law_due" ["_law_weights", "_law_most", "_law_added", "_law_misses"] sLawDue f22 _ := ⟨fun_mk (st := sLawDue) l22 cc22 k22, (fun_mk (st := sLawDue) l22 cc22 k22).binds (ps := ["_law_weights", "_law_most", "_law_added", "_law_misses"]) fun _ _ _ _ _ _ us hl => match us, hl with | [_, _, _, _], _ => rfl, PySem.W.mg_of X G a22⟩
  have OLawSays : Own K mg "_law_says" ["_law_said", "_law_due_here"] sLawSays f23 _ := ⟨fun_mk (st := sLawSays) l23 cc23 k23, (fun_mk (st := sLawSays) l23 cc23 k23).binds (ps := ["_law_said", "_law_due_here"]) fun _ _ _ _ _ _ us hl => match us, hl with | [_, _], _ => rfl, PySem.W.mg_of X G a23⟩
  have OLawBent : Own K mg "_law_bent" ["_law_some", "_law_cell"] sLawBent f24 _ := ⟨fun_mk (st := sLawBent) l24 cc24 k24, (fun_mk (st := sLawBent) l24 cc24 k24).binds (ps := ["_law_some", "_law_cell"]) fun _ _ _ _ _ _ us hl => match us, hl with | [_, _], _ => rfl, PySem.W.mg_of X G a24⟩
  have OLawBestRight : Own K mg "_law_best_right" ["_law_weights", "_law_most", "_law_added", "_law_misses"] sLawBestRight f25 _ := ⟨fun_mk (st := sLawBestRight) l25 cc25 k25, (fun_mk (st := sLawBestRight) l25 cc25 k25).binds (ps := ["_law_weights", "_law_most", "_law_added", "_law_misses"]) fun _ _ _ _ _ _ us hl => match us, hl with | [_, _, _, _], _ => rfl, PySem.W.mg_of X G a25⟩
  have OLawPromisesRight : Own K mg "_law_promises_right" [] sLawPromisesRight f26 _ := ⟨fun_mk (st := sLawPromisesRight) l26 cc26 k26, (fun_mk (st := sLawPromisesRight) l26 cc26 k26).binds (ps := []) fun _ _ _ _ _ _ us hl => match us, hl with | [], _ => rfl, PySem.W.mg_of X G a26⟩
  have OLawFewestPromises : Own K mg "_law_fewest_promises" ["_law_great"] sLawFewestPromises f27 _ := ⟨fun_mk (st := sLawFewestPromises) l27 cc27 k27, (fun_mk (st := sLawFewestPromises) l27 cc27 k27).binds (ps := ["_law_great"]) fun _ _ _ _ _ _ us hl => match us, hl with | [_], _ => rfl, PySem.W.mg_of X G a27⟩
  have OLaw : Own K mg "law" ["_law_script"] sLaw fa _ := ⟨fun_mk (st := sLaw) l28 cc28 k28, (fun_mk (st := sLaw) l28 cc28 k28).binds (ps := ["_law_script"]) fun _ _ _ _ _ _ us hl => match us, hl with | [_], _ => rfl, PySem.W.mg_of X G a28⟩
  refine ⟨PySem.W.fnOf "law" "law" (defArgs sLaw) (defBody sLaw) (defScope sLaw) .none kV28 dc28 pm28 an28 cd28 ct28, [(c1, dP1), (c2, dP2)], fun p hp => ?_, fun s v => .of_eq rfl, fun base hKb _ hTB => ?_⟩
  · rcases List.mem_cons.mp hp with z | z
    · exact ⟨"is_left_out", List.mem_cons_self, z ▸ t1⟩
    · exact ⟨"are_weights", List.mem_cons_of_mem _ List.mem_cons_self, (List.mem_singleton.mp z) ▸ t2⟩
  have TB1 := hTB (c1, dP1) List.mem_cons_self
  have TB2 := hTB (c2, dP2) (List.mem_cons_of_mem _ List.mem_cons_self)
  have GIsWhole := ok_IsWhole (P := l.prog) (w := w) (base := base) OIsWhole B 
  have GGapOf := ok_GapOf (P := l.prog) (w := w) (base := base) OGapOf B 
  have GPlacesChosen := ok_PlacesChosen (P := l.prog) (w := w) (base := base) OPlacesChosen B 
  have GAllShows := ok_AllShows (P := l.prog) (w := w) (base := base) OAllShows B (D := ⟨dN, dA, dG, dB, dP1, dP2⟩) (GGapOf := GGapOf) (OGapOf := OGapOf)
  have GGapInit := ok_GapInit (P := l.prog) (w := w) (base := base) OGapInit B (T := T) 
  have GBestInit := ok_BestInit (P := l.prog) (w := w) (base := base) OBestInit B (T := T) 
  have GIsFrom1To := ok_IsFrom1To (P := l.prog) (w := w) (base := base) OIsFrom1To B 
  have GIsLeftOut := ok_IsLeftOut (P := l.prog) (w := w) (base := base) OIsLeftOut B (D := ⟨dN, dA, dG, dB, dP1, dP2⟩) (hc := PySem.W.law_code X G t1 (PySem.W.mg_of X G a13) (X _ _ l13) rfl) (TB := TB1) 
  have GAreWeights := ok_AreWeights (P := l.prog) (w := w) (base := base) OAreWeights B (D := ⟨dN, dA, dG, dB, dP1, dP2⟩) (hc := PySem.W.law_code X G t2 (PySem.W.mg_of X G a14) (X _ _ l14) rfl) (TB := TB2) 
  have GAreMisses := ok_AreMisses (P := l.prog) (w := w) (base := base) OAreMisses B (GIsFrom1To := GIsFrom1To) (OIsFrom1To := OIsFrom1To)
  have GGapsToClose := ok_GapsToClose (P := l.prog) (w := w) (base := base) OGapsToClose B 
  have GLawSet := ok_LawSet (P := l.prog) (w := w) (base := base) OLawSet B 
  have GLawGap := ok_LawGap (P := l.prog) (w := w) (base := base) OLawGap B 
  have GLawDue := ok_LawDue (P := l.prog) (w := w) (base := base) OLawDue B (GLawGap := GLawGap) (OLawGap := OLawGap)
  have GLawSays := ok_LawSays (P := l.prog) (w := w) (base := base) OLawSays B 
  have GLawBent := ok_LawBent (P := l.prog) (w := w) (base := base) OLawBent B 
  have GCheckSet := ok_CheckSet (P := l.prog) (w := w) (base := base) OCheckSet B (GIsWhole := GIsWhole) (OIsWhole := OIsWhole)
  have GGapShows := ok_GapShows (P := l.prog) (w := w) (base := base) OGapShows B (T := T) (GIsFrom1To := GIsFrom1To) (OIsFrom1To := OIsFrom1To) (GIsLeftOut := GIsLeftOut) (OIsLeftOut := OIsLeftOut)
  have GBestShows := ok_BestShows (P := l.prog) (w := w) (base := base) OBestShows B (T := T) (GAreMisses := GAreMisses) (OAreMisses := OAreMisses) (GAreWeights := GAreWeights) (OAreWeights := OAreWeights) (GGapOf := GGapOf) (OGapOf := OGapOf)
  have GShows := shows_ok T ⟨m7, i7, k7⟩ ⟨m9, i9, k9⟩ ⟨m11, i11, k11⟩ GAllShows OAllShows.b GGapShows OGapShows.b GBestShows OBestShows.b
  have GCheckAsked := ok_CheckAsked (P := l.prog) (w := w) (base := base) OCheckAsked B (GCheckSet := GCheckSet) (OCheckSet := OCheckSet) (GIsWhole := GIsWhole) (OIsWhole := OIsWhole)
  have GLawBestRight := ok_LawBestRight (P := l.prog) (w := w) (base := base) OLawBestRight B (T := T) (KT := KT) (GShows := GShows) (GBestInit := GBestInit) (OBestInit := OBestInit) (GLawDue := GLawDue) (OLawDue := OLawDue) (GLawSays := GLawSays) (OLawSays := OLawSays)
  have GFirstGap := ok_FirstGap (P := l.prog) (w := w) (base := base) OFirstGap B (GCheckSet := GCheckSet) (OCheckSet := OCheckSet) (GGapOf := GGapOf) (OGapOf := OGapOf)
  have GWeighing := ok_Weighing (P := l.prog) (w := w) (base := base) OWeighing B (GCheckSet := GCheckSet) (OCheckSet := OCheckSet) (GGapOf := GGapOf) (OGapOf := OGapOf) (GIsWhole := GIsWhole) (OIsWhole := OIsWhole) (GPlacesChosen := GPlacesChosen) (OPlacesChosen := OPlacesChosen)
  have GWithout := ok_Without (P := l.prog) (w := w) (base := base) OWithout B (GCheckSet := GCheckSet) (OCheckSet := OCheckSet) (GGapOf := GGapOf) (OGapOf := OGapOf) (GIsWhole := GIsWhole) (OIsWhole := OIsWhole)
  have GTold := ok_Told (P := l.prog) (w := w) (base := base) OTold B (T := T) (GGapInit := GGapInit) (OGapInit := OGapInit) (GCheckAsked := GCheckAsked) (OCheckAsked := OCheckAsked) (GGapOf := GGapOf) (OGapOf := OGapOf)
  have GFewest := ok_Fewest (P := l.prog) (w := w) (base := base) OFewest B (T := T) (GBestInit := GBestInit) (OBestInit := OBestInit) (GCheckAsked := GCheckAsked) (OCheckAsked := OCheckAsked) (GGapsToClose := GGapsToClose) (OGapsToClose := OGapsToClose)
  have GLawFewestPromises := ok_LawFewestPromises (P := l.prog) (w := w) (base := base) OLawFewestPromises B (T := T) (KT := KT) (GShows := GShows) (GBestInit := GBestInit) (OBestInit := OBestInit) (GFewest := GFewest) (OFewest := OFewest) (GTold := GTold) (OTold := OTold)
  have GLawPromisesRight := ok_LawPromisesRight (P := l.prog) (w := w) (base := base) OLawPromisesRight B (T := T) (KT := KT) (GShows := GShows) (GGapInit := GGapInit) (OGapInit := OGapInit) (GLawFewestPromises := GLawFewestPromises) (OLawFewestPromises := OLawFewestPromises) (GFirstGap := GFirstGap) (OFirstGap := OFirstGap) (GWeighing := GWeighing) (OWeighing := OWeighing) (GWithout := GWithout) (OWithout := OWithout)
  exact ok_Law (P := l.prog) (w := w) (base := base) OLaw B (T := T) (KT := KT) (GShows := GShows) (GGapInit := GGapInit) (OGapInit := OGapInit) (GLawBent := GLawBent) (OLawBent := OLawBent) (GLawBestRight := GLawBestRight) (OLawBestRight := OLawBestRight) (GLawGap := GLawGap) (OLawGap := OLawGap) (GLawPromisesRight := GLawPromisesRight) (OLawPromisesRight := OLawPromisesRight) (GLawSays := GLawSays) (OLawSays := OLawSays) (GLawSet := GLawSet) (OLawSet := OLawSet) (GFewest := GFewest) (OFewest := OFewest)
end Wt
open PySem PySem.W PyProof.Rows
set_option maxRecDepth 100000 in
set_option maxHeartbeats 0 in
theorem PySem.Challenge.cw_weightset_k05_answers_by_hand_holds : PySem.Challenge.rw_weightset_k05_answers_by_hand.Holds := by
  w_on; o_law; k_head; (case hw => w_witness2)
  k_fill
  refine Wt.walk_tabs (l := PySem.Challenge.rw_weightset_k05_answers_by_hand) (k := 7) (x := "_law_script") rfl rfl ⟨rfl, by decide, by decide⟩ (fun w h Y => PySem.W.kIn_of Y) ?nt ["is_left_out", "are_weights"] ?hx ?F
  case nt => intro w; rfl
  case hx => decide +kernel
  case F =>
    intro w mg fa h KX G hmg
    refine' Wt.all_mk KX G hmg ?gN ?gA ?gG ?gB ?a0 ?l0 ?cc0 ?k0 ?a1 ?l1 ?cc1 ?k1 ?a2 ?l2 ?cc2 ?k2 ?a3 ?l3 ?cc3 ?k3 ?a4 ?l4 ?cc4 ?k4 ?a5 ?l5 ?cc5 ?k5 ?a6 ?l6 ?cc6 ?k6 ?m7 ?i7 ?l7 ?cc7 ?k7 ?m8 ?i8 ?l8 ?cc8 ?k8 ?m9 ?i9 ?l9 ?cc9 ?k9 ?m10 ?i10 ?l10 ?cc10 ?k10 ?m11 ?i11 ?l11 ?cc11 ?k11 ?a12 ?l12 ?cc12 ?k12 ?a13 ?l13 ?cc13 ?k13 ?a14 ?l14 ?cc14 ?k14 ?a15 ?l15 ?cc15 ?k15 ?a16 ?l16 ?cc16 ?k16 ?a17 ?l17 ?cc17 ?k17 ?a18 ?l18 ?cc18 ?k18 ?a19 ?l19 ?cc19 ?k19 ?a20 ?l20 ?cc20 ?k20 ?a21 ?l21 ?cc21 ?k21 ?a22 ?l22 ?cc22 ?k22 ?a23 ?l23 ?cc23 ?k23 ?a24 ?l24 ?cc24 ?k24 ?a25 ?l25 ?cc25 ?k25 ?a26 ?l26 ?cc26 ?k26 ?a27 ?l27 ?cc27 ?k27 ?a28 ?l28 ?cc28 ?k28 ?z_len ?z_sorted ?z_sum ?z_allF ?z_isinstance ?z_range ?z_enumerate ?z_setT ?z_listT ?z_intT ?z_boolT ?z_anyF ?z_tupleT ?z_strT ?z_abs ?z_zip ?pgA ?hdA ?poA ?saA ?haA ?hmA ?mkA ?kcA ?pgG ?hdG ?poG ?saG ?haG ?hmG ?mkG ?kcG ?pgB ?hdB ?poB ?saB ?haB ?hmB ?mkB ?kcB ?iA ?hn ?htk ?n_number ?n_added ?n_misses ?qAN ?qAA ?qAG ?qAB ?qGN ?qGA ?qGG ?qGB ?qBN ?qBA ?qBG ?qBB ?t1 ?t2
    (case gN => k_is); (case gA => k_is); (case gG => k_is); (case gB => k_is); (case a0 => k_is); (case l0 => k_is); (case cc0 => k_is); (case k0 => k_is); (case a1 => k_is); (case l1 => k_is); (case cc1 => k_is); (case k1 => k_is); (case a2 => k_is); (case l2 => k_is); (case cc2 => k_is); (case k2 => k_is); (case a3 => k_is); (case l3 => k_is); (case cc3 => k_is); (case k3 => k_is); (case a4 => k_is); (case l4 => k_is); (case cc4 => k_is); (case k4 => k_is); (case a5 => k_is); (case l5 => k_is); (case cc5 => k_is); (case k5 => k_is); (case a6 => k_is); (case l6 => k_is); (case cc6 => k_is); (case k6 => k_is); (case m7 => k_is); (case i7 => k_is); (case l7 => k_is); (case cc7 => k_is); (case k7 => k_is); (case m8 => k_is); (case i8 => k_is); (case l8 => k_is); (case cc8 => k_is); (case k8 => k_is); (case m9 => k_is); (case i9 => k_is); (case l9 => k_is); (case cc9 => k_is); (case k9 => k_is); (case m10 => k_is); (case i10 => k_is); (case l10 => k_is); (case cc10 => k_is); (case k10 => k_is); (case m11 => k_is); (case i11 => k_is); (case l11 => k_is); (case cc11 => k_is); (case k11 => k_is); (case a12 => k_is); (case l12 => k_is); (case cc12 => k_is); (case k12 => k_is); (case a13 => k_is); (case l13 => k_is); (case cc13 => k_is); (case k13 => k_is); (case a14 => k_is); (case l14 => k_is); (case cc14 => k_is); (case k14 => k_is); (case a15 => k_is); (case l15 => k_is); (case cc15 => k_is); (case k15 => k_is); (case a16 => k_is); (case l16 => k_is); (case cc16 => k_is); (case k16 => k_is); (case a17 => k_is); (case l17 => k_is); (case cc17 => k_is); (case k17 => k_is); (case a18 => k_is); (case l18 => k_is); (case cc18 => k_is); (case k18 => k_is); (case a19 => k_is); (case l19 => k_is); (case cc19 => k_is); (case k19 => k_is); (case a20 => k_is); (case l20 => k_is); (case cc20 => k_is); (case k20 => k_is); (case a21 => k_is); (case l21 => k_is); (case cc21 => k_is); (case k21 => k_is); (case a22 => k_is); (case l22 => k_is); (case cc22 => k_is); (case k22 => k_is); (case a23 => k_is); (case l23 => k_is); (case cc23 => k_is); (case k23 => k_is); (case a24 => k_is); (case l24 => k_is); (case cc24 => k_is); (case k24 => k_is); (case a25 => k_is); (case l25 => k_is); (case cc25 => k_is); (case k25 => k_is); (case a26 => k_is); (case l26 => k_is); (case cc26 => k_is); (case k26 => k_is); (case a27 => k_is); (case l27 => k_is); (case cc27 => k_is); (case k27 => k_is); (case a28 => k_is); (case l28 => k_is); (case cc28 => k_is); (case k28 => k_is); (case z_len => k_is); (case z_sorted => k_is); (case z_sum => k_is); (case z_allF => k_is); (case z_isinstance => k_is); (case z_range => k_is); (case z_enumerate => k_is); (case z_setT => k_is); (case z_listT => k_is); (case z_intT => k_is); (case z_boolT => k_is); (case z_anyF => k_is); (case z_tupleT => k_is); (case z_strT => k_is); (case z_abs => k_is); (case z_zip => k_is); (case pgA => k_is); (case hdA => k_is); (case poA => k_is); (case saA => k_is); (case haA => k_is); (case hmA => k_is); (case mkA => k_is); (case kcA => k_is); (case pgG => k_is); (case hdG => k_is); (case poG => k_is); (case saG => k_is); (case haG => k_is); (case hmG => k_is); (case mkG => k_is); (case kcG => k_is); (case pgB => k_is); (case hdB => k_is); (case poB => k_is); (case saB => k_is); (case haB => k_is); (case hmB => k_is); (case mkB => k_is); (case kcB => k_is); (case iA => k_is); (case hn => k_is); (case htk => k_is); (case n_number => k_is); (case n_added => k_is); (case n_misses => k_is); (case qAN => exact rfl); (case qAA => exact rfl); (case qAG => exact rfl); (case qAB => exact rfl); (case qGN => exact rfl); (case qGA => exact rfl); (case qGG => exact rfl); (case qGB => exact rfl); (case qBN => exact rfl); (case qBA => exact rfl); (case qBG => exact rfl); (case qBB => exact rfl); (case t1 => exact rfl); (case t2 => exact rfl)
