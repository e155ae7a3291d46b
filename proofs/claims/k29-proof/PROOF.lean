import PyProof.Rows.All
import Wide.All
import OpenK.AllK
import Wide.FinOn
import HandS.ForMost
import HandS.Strs
import HandS.SetBool
import HandS.TupAny
import HandS.TupMul
import KE.KRevSl
import HandS.Base
import HandS.Call
import HandS.Exc
import HandS.List
import PyProof.AutoSeq1
import HandS.TryOnly
import HandS.ExcOwn
import HandS.WordsExc
import HandS.Wide
import HandS.IsInst
import HandS.Style
import HandS.Flow
import HandS.Evl
import HandS.MakeKwOnly
import HandS.Walk
import KE.KEqSeq
import HandS.OwnEq
import HandS.More
import PyProof.InstNe
import HandS.ExcInit
import HandS.ExcField
import HandS.Lambda
import HandS.SetFor
import HandS.EndTab
import KE.KNestM
import PySem.Challenge.RW_handlerims_k29_products_of_pairs
set_option Elab.async false
set_option linter.all false
/-! Rows of letters, shortened: neighbours that are contraries taken out. -/
namespace Fr

/-- a letter laid on what is left, its last one in front -/
def push : List Int → Int → List Int
  | [], a => [a]
  | b :: t, a => if b = -a then t else a :: b :: t

def act (s : List Int) (xs : List Int) : List Int := xs.foldl push s

/-- no neighbours are contraries -/
def Rd : List Int → Prop
  | [] => True
  | [_] => True
  | a :: b :: t => a ≠ -b ∧ Rd (b :: t)

/-- what is left of a row of letters -/
def shr (xs : List Int) : List Int := (act [] xs).reverse

/-- the contraries, the last one first -/
def con (xs : List Int) : List Int := xs.reverse.map (fun a => -a)

/-- so many times -/
def rep : Nat → List Int → List Int
  | 0, _ => []
  | n + 1, xs => xs ++ rep n xs

theorem Rd.tail {a : Int} {t : List Int} (h : Rd (a :: t)) : Rd t := by
  cases t with
  | nil => trivial
  | cons b u => exact h.2

theorem push_rd {s : List Int} (a : Int) (h : Rd s) : Rd (push s a) := by
  cases s with
  | nil => trivial
  | cons b t =>
    show Rd (if b = -a then t else a :: b :: t)
    by_cases e : b = -a
    · rw [if_pos e]; exact h.tail
    · rw [if_neg e]
      refine ⟨?_, h⟩
      omega

theorem push_push {s : List Int} (a : Int) (h : Rd s) : push (push s a) (-a) = s := by
  cases s with
  | nil => simp [push]
  | cons b t =>
    by_cases e : b = -a
    · have h1 : push (b :: t) a = t := by simp [push, e]
      rw [h1]
      cases t with
      | nil => simp [push, e]
      | cons c u =>
        have hc : c ≠ - -a := by
          intro hc
          exact h.1 (by omega)
        simp [push, e]
        omega
    · have h1 : push (b :: t) a = a :: b :: t := by simp [push, e]
      rw [h1]
      simp [push]

theorem push_push' {s : List Int} (a : Int) (h : Rd s) : push (push s (-a)) a = s := by
  have := push_push (-a) h
  rwa [Int.neg_neg] at this

theorem act_nil (s : List Int) : act s [] = s := rfl
theorem act_cons (s : List Int) (a : Int) (t : List Int) : act s (a :: t) = act (push s a) t := rfl
theorem act_append (s xs ys : List Int) : act s (xs ++ ys) = act (act s xs) ys := List.foldl_append
theorem act_snoc (s xs : List Int) (a : Int) : act s (xs ++ [a]) = push (act s xs) a := act_append s xs [a]

theorem act_rd : ∀ {xs s : List Int}, Rd s → Rd (act s xs)
  | [], _, h => h
  | a :: t, _, h => act_rd (xs := t) (push_rd a h)

/-- two rows are one and the same when they act alike -/
def Sm (xs ys : List Int) : Prop := ∀ s, Rd s → act s xs = act s ys

theorem Sm.refl (xs : List Int) : Sm xs xs := fun _ _ => rfl
theorem Sm.symm {xs ys : List Int} (h : Sm xs ys) : Sm ys xs := fun s r => (h s r).symm
theorem Sm.trans {xs ys zs : List Int} (h : Sm xs ys) (k : Sm ys zs) : Sm xs zs := fun s r => (h s r).trans (k s r)
theorem Sm.app {xs ys us vs : List Int} (h : Sm xs ys) (k : Sm us vs) : Sm (xs ++ us) (ys ++ vs) := fun s r => by
  rw [act_append, act_append, h s r, k _ (act_rd r)]
theorem Sm.out (a : Int) : Sm [a, -a] [] := fun s r => push_push a r
theorem Sm.out' (a : Int) : Sm [-a, a] [] := fun s r => push_push' a r
theorem Sm.mid {xs us vs ys : List Int} (h : Sm us vs) : Sm (xs ++ us ++ ys) (xs ++ vs ++ ys) := ((Sm.refl xs).app h).app (Sm.refl ys)

/-- what is left acts as the whole did -/
theorem sm_stack : ∀ xs : List Int, Sm (act [] xs).reverse xs := by
  intro xs
  have gen : ∀ (n : Nat) (xs : List Int), xs.length = n → Sm (act [] xs).reverse xs := by
    intro n
    induction n with
    | zero =>
      intro xs h
      cases xs with
      | nil => exact Sm.refl _
      | cons a t => simp at h
    | succ n ih =>
      intro xs h
      obtain ⟨ys, a, rfl⟩ : ∃ ys a, xs = ys ++ [a] := by
        refine ⟨xs.dropLast, xs.getLast (by intro e; rw [e] at h; simp at h), ?_⟩
        exact (List.dropLast_concat_getLast _).symm
      have hy : ys.length = n := by simp at h; exact h
      have k := ih ys hy
      intro s r
      rw [act_snoc, act_snoc]
      cases e : act [] ys with
      | nil =>
        have k2 := k s r
        rw [e] at k2
        rw [← k2]
        rfl
      | cons b t =>
        have k2 := k s r
        rw [e, List.reverse_cons, act_snoc] at k2
        rw [← k2]
        by_cases eb : b = -a
        · have h1 : push (b :: t) a = t := by simp [push, eb]
          rw [h1, eb]
          exact (push_push' a (act_rd r)).symm
        · have h1 : push (b :: t) a = a :: b :: t := by simp [push, eb]
          rw [h1, List.reverse_cons, List.reverse_cons, act_snoc, act_snoc]
  exact gen _ xs rfl

theorem sm_shr (xs : List Int) : Sm (shr xs) xs := sm_stack xs
theorem shr_of_sm {xs ys : List Int} (h : Sm xs ys) : shr xs = shr ys := by
  unfold shr
  rw [h [] trivial]
theorem sm_of_shr {xs ys : List Int} (h : shr xs = shr ys) : Sm xs ys := by
  refine (sm_shr xs).symm.trans ?_
  rw [h]
  exact sm_shr ys
theorem shr_shr (xs : List Int) : shr (shr xs) = shr xs := shr_of_sm (sm_shr xs)
theorem shr_app (xs ys : List Int) : shr (shr xs ++ shr ys) = shr (xs ++ ys) := shr_of_sm ((sm_shr xs).app (sm_shr ys))
theorem shr_out (xs : List Int) (a : Int) (ys : List Int) : shr (xs ++ a :: -a :: ys) = shr (xs ++ ys) := by
  refine shr_of_sm ?_
  have h : Sm (xs ++ [a, -a] ++ ys) (xs ++ [] ++ ys) := Sm.mid (Sm.out a)
  simpa using h

/-! ### short ones -/
theorem rd_cons {a : Int} {t : List Int} : Rd (a :: t) ↔ (∀ b, t.head? = some b → a ≠ -b) ∧ Rd t := by
  cases t with
  | nil => simp [Rd]
  | cons b u => simp [Rd]
theorem rd_append {xs ys : List Int} : Rd (xs ++ ys) ↔ Rd xs ∧ Rd ys ∧ ∀ a b, xs.getLast? = some a → ys.head? = some b → a ≠ -b := by
  induction xs with
  | nil => simp [Rd]
  | cons x t ih =>
    rw [List.cons_append, rd_cons, rd_cons, ih]
    cases t with
    | nil =>
      simp [Rd]
      constructor
      · rintro ⟨h1, h2⟩
        exact ⟨h2, fun a b ha hb => ha ▸ h1 b hb⟩
      · rintro ⟨h1, h2⟩
        exact ⟨fun b hb => h2 x b rfl hb, h1⟩
    | cons y u =>
      simp [List.getLast?_cons_cons]
      constructor
      · rintro ⟨h1, h2, h3, h4⟩
        exact ⟨⟨h1, h2⟩, h3, h4⟩
      · rintro ⟨⟨h1, h2⟩, h3, h4⟩
        exact ⟨h1, h2, h3, h4⟩
theorem rd_reverse {xs : List Int} : Rd xs.reverse ↔ Rd xs := by
  induction xs with
  | nil => simp [Rd]
  | cons x t ih =>
    rw [List.reverse_cons, rd_append, ih, rd_cons (a := x) (t := t)]
    have one : Rd [x] := trivial
    simp [one]
    constructor
    · rintro ⟨h1, h2⟩
      refine ⟨fun b hb => ?_, h1⟩
      have := h2 b hb
      omega
    · rintro ⟨h1, h2⟩
      refine ⟨h2, fun b hb => ?_⟩
      have := h1 b hb
      omega
theorem rd_shr (xs : List Int) : Rd (shr xs) := rd_reverse.2 (act_rd trivial)
theorem act_short : ∀ (xs s : List Int), Rd (s.reverse ++ xs) → act s xs = xs.reverse ++ s
  | [], s, _ => by simp [act]
  | a :: t, s, h => by
    rw [act_cons]
    have hp : push s a = a :: s := by
      cases s with
      | nil => rfl
      | cons b u =>
        have h3 := (rd_append.1 h).2.2 b a (by simp) (by simp)
        show (if b = -a then u else a :: b :: u) = _
        rw [if_neg h3]
    rw [hp, act_short t (a :: s) (by simpa using h)]
    simp
theorem shr_short {xs : List Int} (h : Rd xs) : shr xs = xs := by
  unfold shr
  rw [act_short xs [] (by simpa using h)]
  simp
theorem shr_iff {xs : List Int} : shr xs = xs ↔ Rd xs := ⟨fun h => h ▸ rd_shr xs, shr_short⟩
/-- a short one that acts alike is what is left -/
theorem shr_eq {xs ys : List Int} (h : Sm xs ys) (r : Rd ys) : shr xs = ys := (shr_of_sm h).trans (shr_short r)

/-! ### contraries -/
theorem con_nil : con [] = [] := rfl
theorem con_cons (a : Int) (t : List Int) : con (a :: t) = con t ++ [-a] := by simp [con]
theorem con_append (xs ys : List Int) : con (xs ++ ys) = con ys ++ con xs := by simp [con]
theorem con_con (xs : List Int) : con (con xs) = xs := by
  simp [con, List.map_reverse, Function.comp_def]
theorem con_length (xs : List Int) : (con xs).length = xs.length := by simp [con]
theorem con_head (xs : List Int) : (con xs).head? = xs.getLast?.map fun a => -a := by
  simp [con]
theorem con_last (xs : List Int) : (con xs).getLast? = xs.head?.map fun a => -a := by
  simp [con, List.map_reverse]
theorem sm_con : ∀ xs : List Int, Sm (xs ++ con xs) []
  | [] => Sm.refl _
  | a :: t => by
    rw [con_cons]
    have h : Sm ([a] ++ (t ++ con t) ++ [-a]) ([a] ++ [] ++ [-a]) := Sm.mid (sm_con t)
    have k : Sm ([a] ++ [] ++ [-a]) [] := Sm.out a
    have := h.trans k
    simpa using this
theorem sm_con' (xs : List Int) : Sm (con xs ++ xs) [] := by
  have := sm_con (con xs)
  rwa [con_con] at this
theorem Sm.con {xs ys : List Int} (h : Sm xs ys) : Sm (con xs) (con ys) := by
  have h1 : Sm (Fr.con xs ++ (ys ++ Fr.con ys)) (Fr.con xs ++ []) := (Sm.refl _).app (sm_con ys)
  have h2 : Sm (Fr.con xs ++ ys ++ Fr.con ys) (Fr.con xs ++ xs ++ Fr.con ys) := Sm.mid h.symm
  have h3 : Sm (Fr.con xs ++ xs ++ Fr.con ys) ([] ++ Fr.con ys) := (sm_con' xs).app (Sm.refl _)
  rw [List.append_nil, ← List.append_assoc] at h1
  exact (h1.symm.trans h2).trans h3
theorem rd_con {xs : List Int} : Rd (con xs) ↔ Rd xs := by
  have one : ∀ xs : List Int, Rd xs → Rd (con xs) := by
    intro xs
    induction xs with
    | nil => exact fun _ => trivial
    | cons a t ih =>
      intro h
      rw [con_cons, rd_append]
      refine ⟨ih h.tail, trivial, fun x y hx hy => ?_⟩
      rw [con_last] at hx
      cases t with
      | nil => simp at hx
      | cons b u =>
        simp at hx hy
        have := h.1
        omega
  refine ⟨fun h => ?_, one xs⟩
  have := one _ h
  rwa [con_con] at this
theorem shr_con (xs : List Int) : shr (con xs) = con (shr xs) := shr_eq (sm_shr xs).con.symm (rd_con.2 (rd_shr xs))

/-! ### so many times -/
theorem rep_zero (xs : List Int) : rep 0 xs = [] := rfl
theorem rep_succ (n : Nat) (xs : List Int) : rep (n + 1) xs = xs ++ rep n xs := rfl
theorem rep_one (xs : List Int) : rep 1 xs = xs := by simp [rep]
theorem rep_add (m n : Nat) (xs : List Int) : rep (m + n) xs = rep m xs ++ rep n xs := by
  induction m with
  | zero => simp [rep]
  | succ m ih => rw [Nat.succ_add, rep_succ, rep_succ, ih, List.append_assoc]
theorem rep_length (n : Nat) (xs : List Int) : (rep n xs).length = n * xs.length := by
  induction n with
  | zero => simp [rep]
  | succ n ih => rw [rep_succ, List.length_append, ih, Nat.succ_mul, Nat.add_comm]
theorem rep_nil (n : Nat) : rep n [] = [] := by
  induction n with
  | zero => rfl
  | succ n ih => rw [rep_succ, ih]; rfl
theorem Sm.rep {xs ys : List Int} (h : Sm xs ys) (n : Nat) : Sm (rep n xs) (rep n ys) := by
  induction n with
  | zero => exact Sm.refl _
  | succ n ih => exact h.app ih
theorem shr_rep (n : Nat) (xs : List Int) : shr (rep n (shr xs)) = shr (rep n xs) := shr_of_sm ((sm_shr xs).rep n)
theorem rep_succ' (n : Nat) (xs : List Int) : rep (n + 1) xs = rep n xs ++ xs := by
  rw [rep_add n 1, rep_one]
theorem con_rep (n : Nat) (xs : List Int) : con (rep n xs) = rep n (con xs) := by
  induction n with
  | zero => rfl
  | succ n ih => rw [rep_succ, con_append, ih, ← rep_succ']

/-! ### the ends -/
/-- short, and its ends are no contraries -/
def Cy (w : List Int) : Prop := Rd w ∧ ∀ a b, w.head? = some a → w.getLast? = some b → a ≠ -b
/-- no letter is 0 -/
def NZ (xs : List Int) : Prop := ∀ a ∈ xs, a ≠ 0
theorem cy_nil : Cy [] := ⟨trivial, fun a b h => by simp at h⟩
theorem NZ.app {xs ys : List Int} (h : NZ xs) (k : NZ ys) : NZ (xs ++ ys) := fun a ha => by
  rcases List.mem_append.1 ha with h1 | h1
  · exact h a h1
  · exact k a h1
theorem NZ.left {xs ys : List Int} (h : NZ (xs ++ ys)) : NZ xs := fun a ha => h a (List.mem_append_left _ ha)
theorem NZ.right {xs ys : List Int} (h : NZ (xs ++ ys)) : NZ ys := fun a ha => h a (List.mem_append_right _ ha)
theorem NZ.con {xs : List Int} (h : NZ xs) : NZ (con xs) := fun a ha => by
  unfold Fr.con at ha
  obtain ⟨b, hb, rfl⟩ := List.mem_map.1 ha
  have := h b (List.mem_reverse.1 hb)
  omega
theorem push_mem {s : List Int} {a x : Int} (h : x ∈ push s a) : x = a ∨ x ∈ s := by
  cases s with
  | nil => left; simpa [push] using h
  | cons b t =>
    have h2 : x ∈ (if b = -a then t else a :: b :: t) := h
    by_cases e : b = -a
    · rw [if_pos e] at h2; exact .inr (List.mem_cons_of_mem _ h2)
    · rw [if_neg e] at h2
      rcases List.mem_cons.1 h2 with h3 | h3
      · exact .inl h3
      · exact .inr h3
theorem act_mem : ∀ {xs s : List Int} {x : Int}, x ∈ act s xs → x ∈ xs ∨ x ∈ s
  | [], _, _, h => .inr h
  | a :: t, s, x, h => by
    rw [act_cons] at h
    rcases act_mem h with h1 | h1
    · exact .inl (List.mem_cons_of_mem _ h1)
    · rcases push_mem h1 with h2 | h2
      · exact .inl (h2 ▸ List.mem_cons_self)
      · exact .inr h2
theorem shr_mem {xs : List Int} {x : Int} (h : x ∈ shr xs) : x ∈ xs := by
  unfold shr at h
  rcases act_mem (List.mem_reverse.1 h) with h1 | h1
  · exact h1
  · simp at h1
theorem NZ.shr {xs : List Int} (h : NZ xs) : NZ (shr xs) := fun a ha => h a (shr_mem ha)

/-- a row between a letter and its contrary, or one that has no such ends -/
theorem ends_or (xs : List Int) (nz : NZ xs) : (∃ a m, xs = a :: (m ++ [-a])) ∨ ∀ a b, xs.head? = some a → xs.getLast? = some b → a ≠ -b := by
  cases xs with
  | nil => right; intro a b h; simp at h
  | cons a t =>
    by_cases ht : t = []
    · subst ht
      right
      intro x y hx hy
      simp at hx hy
      have := nz a (by simp)
      omega
    · have e := List.dropLast_concat_getLast ht
      by_cases hb : t.getLast ht = -a
      · left
        refine ⟨a, t.dropLast, ?_⟩
        rw [← hb, e]
      · right
        intro x y hx hy
        rw [← e] at hy
        rw [show a :: (t.dropLast ++ [t.getLast ht]) = (a :: t.dropLast) ++ [t.getLast ht] from rfl] at hy
        rw [List.getLast?_append] at hy
        simp at hx hy
        omega
/-- every short row is a row, one that is short round, and the contrary of the first -/
theorem parted (xs : List Int) (nz : NZ xs) (r : Rd xs) : ∃ u w, xs = u ++ w ++ con u ∧ Cy w ∧ (w = [] → u = []) := by
  have gen : ∀ (n : Nat) (xs : List Int), xs.length ≤ n → NZ xs → Rd xs → ∃ u w, xs = u ++ w ++ con u ∧ Cy w ∧ (w = [] → u = []) := by
    intro n
    induction n with
    | zero =>
      intro xs h _ _
      have : xs = [] := List.length_eq_zero_iff.1 (by omega)
      subst this
      exact ⟨[], [], rfl, cy_nil, fun _ => rfl⟩
    | succ n ih =>
      intro xs h nz r
      rcases ends_or xs nz with ⟨a, m, rfl⟩ | k
      · have hr : Rd (m ++ [-a]) := r.tail
        have hm : Rd m := (rd_append.1 hr).1
        obtain ⟨u, w, e, c, z⟩ := ih m (by simp at h; omega) (fun x hx => nz x (by simp [hx])) hm
        have hne : m ≠ [] := by
          intro e0
          subst e0
          have := r.1
          simp at this
        refine ⟨a :: u, w, ?_, c, fun hw => ?_⟩
        · rw [con_cons, e]; simp
        · exfalso
          have hu := z hw
          subst hw hu
          exact hne (by simpa [con] using e)
      · exact ⟨[], xs, by simp [con], ⟨r, k⟩, fun _ => rfl⟩
  exact gen xs.length xs (Nat.le_refl _) nz r

/-- the ends off, as long as they are contraries -/
def endsN : Nat → List Int → List Int
  | 0, xs => xs
  | n + 1, xs => if 1 < xs.length ∧ xs.head? = xs.getLast?.map (fun a => -a) then endsN n xs.tail.dropLast else xs
def ends (xs : List Int) : List Int := endsN xs.length xs
theorem endsN_cy : ∀ (n : Nat) {w : List Int}, Cy w → endsN n w = w
  | 0, _, _ => rfl
  | n + 1, w, h => by
    unfold endsN
    rw [if_neg]
    rintro ⟨h1, h2⟩
    cases e : w.getLast? with
    | none =>
      rw [List.getLast?_eq_none_iff] at e
      subst e
      simp at h1
    | some b =>
      rw [e] at h2
      exact h.2 (-b) b h2 e rfl
theorem endsN_eq : ∀ (n : Nat) (u w : List Int), Cy w → u.length ≤ n → (w = [] → u = []) → endsN n (u ++ w ++ con u) = w
  | n, [], w, c, _, _ => by
    simp [con]
    exact endsN_cy n c
  | 0, a :: u, w, c, h, _ => by simp at h
  | n + 1, a :: u, w, c, h, z => by
    have e : (a :: u) ++ w ++ con (a :: u) = a :: ((u ++ w ++ con u) ++ [-a]) := by
      rw [con_cons]; simp
    rw [e]
    unfold endsN
    rw [if_pos]
    · rw [List.tail_cons, List.dropLast_concat]
      refine endsN_eq n u w c (by simp at h; exact h) fun hw => ?_
      have := z hw
      simp at this
    · constructor
      · simp only [List.length_cons, List.length_append, List.length_nil]; omega
      · rw [show a :: ((u ++ w ++ con u) ++ [-a]) = (a :: (u ++ w ++ con u)) ++ [-a] from rfl, List.getLast?_append]
        simp
theorem ends_eq {u w : List Int} (c : Cy w) (z : w = [] → u = []) : ends (u ++ w ++ con u) = w :=
  endsN_eq _ u w c (by simp) z
theorem ends_cy {w : List Int} (c : Cy w) : ends w = w := endsN_cy _ c
/-- what is left of a ring -/
def rnd (xs : List Int) : List Int := ends (shr xs)
theorem rnd_of {xs u w : List Int} (h : Sm xs (u ++ w ++ con u)) (r : Rd (u ++ w ++ con u)) (c : Cy w) (z : w = [] → u = []) : rnd xs = w := by
  unfold rnd
  rw [shr_eq h r]
  exact ends_eq c z
theorem rnd_cy {xs : List Int} (nz : NZ xs) : Cy (rnd xs) := by
  obtain ⟨u, w, e, c, z⟩ := parted (shr xs) nz.shr (rd_shr xs)
  unfold rnd
  rw [e, ends_eq c z]
  exact c
theorem rnd_sm {xs ys : List Int} (h : Sm xs ys) : rnd xs = rnd ys := by
  unfold rnd
  rw [shr_of_sm h]
theorem rnd_iff {xs : List Int} (nz : NZ xs) : rnd xs = xs ↔ Cy xs := by
  constructor
  · intro h
    rw [← h]
    exact rnd_cy nz
  · intro c
    unfold rnd
    rw [shr_short c.1, ends_cy c]

/-! ### turned -/
def Trn (xs ys : List Int) : Prop := ∃ p q, xs = p ++ q ∧ ys = q ++ p
theorem Trn.refl (xs : List Int) : Trn xs xs := ⟨[], xs, rfl, by simp⟩
theorem Trn.symm {xs ys : List Int} (h : Trn xs ys) : Trn ys xs := by
  obtain ⟨p, q, e1, e2⟩ := h
  exact ⟨q, p, e2, e1⟩
theorem Trn.trans {xs ys zs : List Int} (h : Trn xs ys) (k : Trn ys zs) : Trn xs zs := by
  obtain ⟨p, q, rfl, e⟩ := h
  obtain ⟨p2, q2, e2, rfl⟩ := k
  rw [e] at e2
  rcases List.append_eq_append_iff.1 e2 with ⟨c, h1, h2⟩ | ⟨c, h1, h2⟩
  · subst h1 h2
    exact ⟨c, q2 ++ q, by simp, by simp⟩
  · subst h1 h2
    exact ⟨p ++ p2, c, by simp, by simp⟩
theorem Trn.cy {xs ys : List Int} (h : Trn xs ys) (c : Cy xs) : Cy ys := by
  obtain ⟨p, q, rfl, rfl⟩ := h
  by_cases hp : p = []
  · subst hp; simpa using c
  by_cases hq : q = []
  · subst hq; simpa using c
  obtain ⟨r, l⟩ := c
  obtain ⟨r1, r2, r3⟩ := rd_append.1 r
  obtain ⟨a, t, rfl⟩ := List.exists_cons_of_ne_nil hp
  obtain ⟨b, s, rfl⟩ := List.exists_cons_of_ne_nil hq
  refine ⟨rd_append.2 ⟨r2, r1, fun x y hx hy => ?_⟩, fun x y hx hy => ?_⟩
  · have := l y x (by simpa using hy) (by rw [List.getLast?_append, hx]; rfl)
    omega
  · have := r3 y x (by rw [List.getLast?_append] at hy; rw [List.getLast?_eq_some_getLast (by simp)] at hy ⊢; simpa using hy) (by simpa using hx)
    omega
/-- a letter ahead and its contrary behind -/
theorem rnd_moved1 (a : Int) (ha : a ≠ 0) (xs : List Int) (nz : NZ xs) : Trn (rnd xs) (rnd ([a] ++ xs ++ [-a])) := by
  obtain ⟨u, w, e, c, z⟩ := parted (shr xs) nz.shr (rd_shr xs)
  have hr : rnd xs = w := by
    unfold rnd
    rw [e, ends_eq c z]
  have rs := rd_shr xs
  rw [e] at rs
  have base : Sm ([a] ++ xs ++ [-a]) ([a] ++ (u ++ w ++ con u) ++ [-a]) := by
    rw [← e]
    exact Sm.mid (sm_shr xs).symm
  rw [hr]
  cases u with
  | cons b u =>
    have wne : w ≠ [] := fun h => by simp at z; exact z h
    have e2 : (b :: u) ++ w ++ con (b :: u) = b :: ((u ++ w ++ con u) ++ [-b]) := by rw [con_cons]; simp
    rw [e2] at rs base
    by_cases hb : b = -a
    · have inner : Rd (u ++ w ++ con u) := (rd_append.1 rs.tail).1
      have sm : Sm ([a] ++ (b :: ((u ++ w ++ con u) ++ [-b])) ++ [-a]) (u ++ w ++ con u) := by
        subst hb
        have h1 : Sm ([a, -a] ++ (u ++ w ++ con u) ++ [a, -a]) ([] ++ (u ++ w ++ con u) ++ []) := ((Sm.out a).app (Sm.refl _)).app (Sm.out a)
        simpa using h1
      rw [rnd_of (base.trans sm) inner c fun h => absurd h wne]
      exact Trn.refl _
    · have whole : Rd ((a :: b :: u) ++ w ++ con (a :: b :: u)) := by
        have e3 : (a :: b :: u) ++ w ++ con (a :: b :: u) = [a] ++ (b :: ((u ++ w ++ con u) ++ [-b])) ++ [-a] := by
          rw [con_cons, con_cons]; simp
        rw [e3, rd_append, rd_append]
        refine ⟨⟨trivial, rs, fun x y hx hy => ?_⟩, trivial, fun x y hx hy => ?_⟩
        · simp at hx hy; omega
        · rw [show [a] ++ (b :: ((u ++ w ++ con u) ++ [-b])) = (a :: b :: (u ++ w ++ con u)) ++ [-b] by simp] at hx
          rw [List.getLast?_append] at hx
          simp at hx hy
          omega
      have sm : Sm ([a] ++ (b :: ((u ++ w ++ con u) ++ [-b])) ++ [-a]) ((a :: b :: u) ++ w ++ con (a :: b :: u)) := by
        have e3 : (a :: b :: u) ++ w ++ con (a :: b :: u) = [a] ++ (b :: ((u ++ w ++ con u) ++ [-b])) ++ [-a] := by
          rw [con_cons, con_cons]; simp
        rw [e3]
        exact Sm.refl _
      rw [rnd_of (base.trans sm) whole c fun h => absurd h wne]
      exact Trn.refl _
  | nil =>
    have e2 : ([] : List Int) ++ w ++ con [] = w := by simp [con]
    rw [e2] at rs base
    cases w with
    | nil =>
      have sm : Sm ([a] ++ [] ++ [-a]) ([] ++ [] ++ con []) := Sm.out a
      rw [rnd_of (base.trans sm) trivial cy_nil fun _ => rfl]
      exact Trn.refl _
    | cons b t =>
      by_cases hb : b = -a
      · -- the letter takes the first one out, and its contrary stands behind
        have turn : Trn (b :: t) (t ++ [b]) := ⟨[b], t, rfl, rfl⟩
        have sm : Sm ([a] ++ (b :: t) ++ [-a]) ([] ++ (t ++ [b]) ++ con []) := by
          subst hb
          have h1 : Sm ([a, -a] ++ (t ++ [-a])) ([] ++ (t ++ [-a])) := (Sm.out a).app (Sm.refl _)
          simpa [con] using h1
        have cy := turn.cy c
        rw [rnd_of (base.trans sm) (by simpa [con] using cy.1) cy fun _ => rfl]
        exact turn
      · by_cases hl : (b :: t).getLast? = some a
        · obtain ⟨m, em⟩ : ∃ m, b :: t = m ++ [a] := by
            refine ⟨(b :: t).dropLast, ?_⟩
            have h1 := List.dropLast_concat_getLast (l := b :: t) (by simp)
            rw [List.getLast?_eq_some_getLast (by simp)] at hl
            rw [Option.some.inj hl] at h1
            exact h1.symm
          rw [em] at c base ⊢
          have turn : Trn (m ++ [a]) (a :: m) := ⟨m, [a], rfl, rfl⟩
          have sm : Sm ([a] ++ (m ++ [a]) ++ [-a]) ([] ++ (a :: m) ++ con []) := by
            have h1 : Sm ((a :: m) ++ [a, -a]) ((a :: m) ++ []) := (Sm.refl _).app (Sm.out a)
            simpa [con] using h1
          have cy := turn.cy c
          rw [rnd_of (base.trans sm) (by simpa [con] using cy.1) cy fun _ => rfl]
          exact turn
        · have whole : Rd ([a] ++ (b :: t) ++ con [a]) := by
            rw [rd_append, rd_append]
            refine ⟨⟨trivial, rs, fun x y hx hy => ?_⟩, trivial, fun x y hx hy => ?_⟩
            · simp at hx hy; omega
            · rw [List.getLast?_append] at hx
              rw [List.getLast?_eq_some_getLast (by simp)] at hx hl
              simp [con] at hx hy hl
              omega
          rw [rnd_of (base.trans (by simpa [con] using Sm.refl _)) whole c fun h => by simp at h]
          exact Trn.refl _
/-- moved: a word ahead, its contrary behind -/
theorem rnd_moved : ∀ (ys xs : List Int), NZ ys → NZ xs → Trn (rnd xs) (rnd (ys ++ xs ++ con ys))
  | [], xs, _, _ => by simpa [con] using Trn.refl _
  | a :: t, xs, hy, hx => by
    have ht : NZ t := fun x h => hy x (List.mem_cons_of_mem _ h)
    have h1 := rnd_moved t xs ht hx
    have h2 := rnd_moved1 a (hy a List.mem_cons_self) (t ++ xs ++ con t) ((ht.app hx).app ht.con)
    have e : [a] ++ (t ++ xs ++ con t) ++ [-a] = (a :: t) ++ xs ++ con (a :: t) := by rw [con_cons]; simp
    rw [e] at h2
    exact h1.trans h2
/-- turned first, shortened round then -/
theorem rnd_turned {xs ys : List Int} (nz : NZ xs) (h : Trn xs ys) : Trn (rnd xs) (rnd ys) := by
  obtain ⟨p, q, rfl, rfl⟩ := h
  have h1 := rnd_moved (con p) (p ++ q) nz.left.con nz
  have sm : Sm (con p ++ (p ++ q) ++ con (con p)) (q ++ p) := by
    rw [con_con]
    have h2 : Sm ((con p ++ p) ++ (q ++ p)) ([] ++ (q ++ p)) := (sm_con' p).app (Sm.refl _)
    simpa using h2
  rw [rnd_sm sm] at h1
  exact h1

/-! ### so many times one that is short round -/
theorem rep_head {n : Nat} {w : List Int} : (rep (n + 1) w).head? = w.head? := by
  cases w with
  | nil => rw [rep_nil]
  | cons a t => rw [rep_succ]; rfl
theorem rep_last {n : Nat} {w : List Int} : (rep (n + 1) w).getLast? = w.getLast? := by
  by_cases hw : w = []
  · subst hw; rw [rep_nil]
  · rw [rep_succ', List.getLast?_append, List.getLast?_eq_some_getLast hw]; rfl
theorem cy_rep {w : List Int} (c : Cy w) : ∀ n, Cy (rep n w)
  | 0 => cy_nil
  | n + 1 => by
    have ih := cy_rep c n
    refine ⟨?_, fun a b ha hb => ?_⟩
    · rw [rep_succ, rd_append]
      refine ⟨c.1, ih.1, fun a b ha hb => ?_⟩
      cases n with
      | zero => simp [rep] at hb
      | succ n =>
        rw [rep_head] at hb
        have := c.2 b a hb ha
        omega
    · rw [rep_head] at ha
      rw [rep_last] at hb
      exact c.2 a b ha hb
/-- so many times a row: its ends stay, what is between them comes so many times -/
theorem shr_core {xs u w : List Int} (e : shr xs = u ++ w ++ con u) (c : Cy w) (z : w = [] → u = []) (n : Nat) : shr (rep (n + 1) xs) = u ++ rep (n + 1) w ++ con u := by
  have sm : ∀ n, Sm (rep (n + 1) (u ++ w ++ con u)) (u ++ rep (n + 1) w ++ con u) := by
    intro n
    induction n with
    | zero => rw [rep_one, rep_one]; exact Sm.refl _
    | succ n ih =>
      rw [rep_succ]
      refine ((Sm.refl _).app ih).trans ?_
      have h : Sm ((u ++ w) ++ (con u ++ u) ++ (rep (n + 1) w ++ con u)) ((u ++ w) ++ [] ++ (rep (n + 1) w ++ con u)) := Sm.mid (sm_con' u)
      have e2 : rep (n + 1 + 1) w = w ++ rep (n + 1) w := rfl
      rw [e2]
      simpa using h
  refine shr_eq ?_ ?_
  · have h1 : Sm (rep (n + 1) xs) (rep (n + 1) (shr xs)) := ((sm_shr xs).rep _).symm
    rw [e] at h1
    exact h1.trans (sm n)
  · have r := rd_shr xs
    rw [e] at r
    by_cases hw : w = []
    · have hu := z hw
      subst hw hu
      rw [rep_nil]
      trivial
    · obtain ⟨r12, r3, b23⟩ := rd_append.1 r
      obtain ⟨r1, r2, b12⟩ := rd_append.1 r12
      rw [rd_append, rd_append]
      refine ⟨⟨r1, (cy_rep c _).1, fun a b ha hb => ?_⟩, r3, fun a b ha hb => ?_⟩
      · rw [rep_head] at hb
        exact b12 a b ha hb
      · refine b23 a b ?_ hb
        have hne : rep (n + 1) w ≠ [] := by
          intro h
          have h2 := rep_length (n + 1) w
          rw [h, Nat.succ_mul] at h2
          simp at h2
          exact hw (List.length_eq_zero_iff.1 (by omega))
        rw [List.getLast?_append, List.getLast?_eq_some_getLast hne] at ha
        rw [List.getLast?_append, ← rep_last (n := n), List.getLast?_eq_some_getLast hne]
        exact ha
end Fr
set_option Elab.async false
set_option linter.all false
set_option maxRecDepth 100000
set_option maxHeartbeats 2000000
/-! {e for x in xs}, e an int. -/
namespace WS
open PySem PySem.Spec PyProof.Rows L2 PpSet
/-- a set as it is when it is made -/
abbrev bareSet (w : World) : Obj := { cls := .type "set", dict := none, data := .set #[] 0 (.fresh 0 0 (!w.params.followText "set-order")) }
theorem bare_ok (w : World) (h : Heap) : SetR w (h.push (bareSet w)) h.objs.size (fun _ => false) 0 := by
  have led : w.params.followText "set-order" = true ∨ (!w.params.followText "set-order") = true := by
    cases w.params.followText "set-order"
    · right; rfl
    · left; rfl
  refine ⟨bareSet w, #[], 0, _, Heap.get?_push_size _ rfl, ⟨rfl, rfl, rfl⟩, rfl, ?_, ?_, ?_, by decide, rfl, rfl, List.Pairwise.nil, led⟩
  · intro e he; simp at he
  · simp
  · intro k; simp
/-- the new set at D, filled turn by turn -/
def Fills (w : World) (J : It) (g : TG) (tt : TT) (te : TE) (vs : List Nat) (σ : L2.St) (D : Addr) (Q : VK) (W : Nat → Nat → Hp → Prop) : Prop :=
  ∀ i m H, W i m H → (J.stop i H ∧ Q (.ref D) H) ∨ (J.go i H ∧ ∃ N : Hp → Prop, (∀ H', N H' → ∃ m', m' < m ∧ W (i + 1) m' H') ∧
    ∀ x H', J.yld i H x H' → g x (wipe σ vs) H' fun σ2 H2 => wipe σ2 vs = wipe σ vs ∧ tt σ2 H2 fun b H3 => if b = true then te σ2 H3 fun y H4 => rSAdd w (.ref D) [y] H4 fun _ H5 => N H5 else N H3)
def tSetI (w : World) (wi : TI) (g : TG) (tt : TT) (te : TE) (vs : List Nat) : TE := fun σ H Q => wi σ H fun J H1 => ∀ D, H1 D = none →
  ∃ W : Nat → Nat → Hp → Prop, (∃ m, W 0 m (upd H1 D (SetO w D (fun _ => false) 0))) ∧ Fills w J g tt te vs σ D Q W
section
variable {X : Cx}
/-- what a turn leaves known -/
def Known (X : Cx) (Z : Cx) (σw : L2.St) (fp : List Addr) (tn : Nat → Heap → Prop) (W : Nat → Nat → Hp → Prop) (m : Nat) (s : Shared) : Prop :=
  ∃ (i : Nat) (H : Hp), Inv Z [] σw H s ∧ tn i s.heap ∧ (∀ b ∈ fp, H b = none) ∧ W i m H
theorem fill_set {elt tg iter : Expr} {ifs : List Expr} {scope : Scope} {own : List (PySem.Str × Nat)} {pos : Pos} {g : TG} {tt : TT} {te : TE} {pins : List (Addr × Obj)} {σ : L2.St} {H3 : Hp} {s3 : Shared} {it D : Addr} {fp : List Addr} {tn : Nat → Heap → Prop} {J : It} {m0 : Nat} {W : Nat → Nat → Hp → Prop} {Q : VK}
    (calm : X.calm = true) (nod : X.N.Nodup) (blk : BlkOk X.N X.env.scope scope own)
    (target : ∀ (s : Shared) (H : Hp) (C : Addr) (cl : List (PySem.Str × Addr)) (fp : List Addr), PG (X.blk s H scope (compEnvC scope cl C X.env) fp) tg g)
    (tests : ∀ (s : Shared) (H : Hp) (C : Addr) (cl : List (PySem.Str × Addr)) (fp : List Addr), PTs (X.blk s H scope (compEnvC scope cl C X.env) fp) ifs tt)
    (item : ∀ (s : Shared) (H : Hp) (C : Addr) (cl : List (PySem.Str × Addr)) (fp : List Addr), PE (X.blk s H scope (compEnvC scope cl C X.env) fp) elt te)
    (T : Turn X.prog X.w X.K tg J fp it tn) (I3 : Inv X pins σ H3 s3) (off : ∀ b ∈ fp, FpOk X pins H3 b ∧ b < s3.heap.objs.size) (st3 : tn 0 s3.heap) (w0 : W 0 m0 H3) (turn : Fills X.w J g tt te (own.map (·.2)) σ D Q W) :
    codeAny (model X.prog X.w) X.A (.compStart (.SetComp elt [⟨tg, iter, ifs, 0⟩] scope pos) 0 (.ref it) (.ref D) (compEnvC scope (cellsFrom (s3.heap.objs.size + 1) scope.names (cloFrom X.env.cells scope.names [])) s3.heap.objs.size X.env))
      (compPost (model X.prog X.w) X.A X.xe none (EP X pins σ Q) (.ref D) s3.heap.objs.size) { s3 with heap := pushCells (s3.heap.push { cls := .type "dict", data := .dict #[] }) scope.names } := by
  have I4 := block_start I3 blk nod off
  have pg := target s3 H3 s3.heap.objs.size (cellsFrom (s3.heap.objs.size + 1) scope.names (cloFrom X.env.cells scope.names [])) fp
  have pt := tests s3 H3 s3.heap.objs.size (cellsFrom (s3.heap.objs.size + 1) scope.names (cloFrom X.env.cells scope.names [])) fp
  have pe := item s3 H3 s3.heap.objs.size (cellsFrom (s3.heap.objs.size + 1) scope.names (cloFrom X.env.cells scope.names [])) fp
  have st4 : tn 0 (pushCells (s3.heap.push { cls := .type "dict", data := .dict #[] }) scope.names) := T.keep _ _ _ st3 fun _ _ _ e => pushCells_keeps _ _ _ _ (Heap.get?_push_of_some _ e)
  obtain ⟨ce, ece⟩ : ∃ ce : Env, ce = compEnvC scope (cellsFrom (s3.heap.objs.size + 1) scope.names (cloFrom X.env.cells scope.names [])) s3.heap.objs.size X.env := ⟨_, rfl⟩
  have loc : ce.locals = s3.heap.objs.size := by rw [ece]; rfl
  rw [← ece] at I4 pg pt pe ⊢
  -- the places that the walk keeps
  have held : ∀ {σ' : L2.St} {H' : Hp} {s' : Shared}, Inv (X.blk s3 H3 scope ce fp) [] σ' H' s' → (∀ b ∈ fp, H' b = none) → ∀ b ∈ fp, FpOk (X.blk s3 H3 scope ce fp) [] H' b := by
    intro σ' H' s' I' none' b hb
    refine ⟨none' b hb, (I'.ok.exf b hb).1, I'.ok.exfs b hb, .inl hb, (I'.ok.exf b hb).2, fun p hp => ?_⟩
    simp at hp
  have all : codeAny (model X.prog X.w) X.A (.compLoop (.SetComp elt [⟨tg, iter, ifs, 0⟩] scope pos) 0 (.ref it) (.ref D) ce) (compPost (model X.prog X.w) X.A X.xe none (EP X pins σ Q) (.ref D) s3.heap.objs.size) { s3 with heap := pushCells (s3.heap.push { cls := .type "dict", data := .dict #[] }) scope.names } := by
    refine compLoopS_any (Known X (X.blk s3 H3 scope ce fp) (wipe σ (own.map (·.2))) fp tn W) (fun m s5 known => ?_) m0 ⟨0, H3, I4, st4, fun b hb => (off b hb).1.1, w0⟩
    obtain ⟨i, H5, I5, st5, none5, w5⟩ := known
    cases turn i m H5 w5 with
    | inl ended =>
      refine thnF (T.done (X.blk s3 H3 scope ce fp) rfl rfl rfl calm i [] s5 _ H5 (fun _ _ => False) I5 (held I5 none5) st5 ended.1) fun r s6 hr => ?_
      obtain ⟨rfl, I6⟩ := hr
      have back : Inv X pins σ H5 s6 := I3.call' (ch := fp) I6.os I6.base I6.hok I6.bare fun b hb => by
        obtain ⟨⟨_, f1, f2, f3, f4, f5⟩, _⟩ := off b hb
        exact ⟨f3, f1, f4, f5⟩
      have noL : H5 s3.heap.objs.size = none := by rw [← loc]; exact I6.free
      obtain ⟨mm, names, _⟩ := I6.loc
      have names' : s6.heap.Ns s3.heap.objs.size mm := by rw [← loc]; exact names
      obtain ⟨f0, f1, f2, f3, f4, f5⟩ := I3.fpOk (Nat.le_refl _) noL
      exact ⟨mm, names', fun h' same => ⟨.ref D, H5, back.turned (t' := s6.toks) (fun b o hb e => (same.2 b hb).trans e) f0 f1 f3 f4 f5, rfl, ended.2⟩⟩
    | inr goes =>
      obtain ⟨go, N, hN, step⟩ := goes
      refine thnF (T.item (X.blk s3 H3 scope ce fp) rfl rfl rfl calm i [] s5 _ H5 (fun _ _ => False) I5 (held I5 none5) st5 go) fun r s6 hr => ?_
      obtain ⟨u, rfl, h6⟩ := hr
      refine thnF h6 fun _ s7 h7 => ?_
      obtain ⟨x, H7, I7, r7, y7, st7, none7⟩ := h7
      refine thnF (pg.run _ s7 _ H7 x u _ (I7.pinned (held I7 none7) (T.obj _ _ st7)) r7 (step x H7 y7)) fun _ s8 h8 => ?_
      obtain ⟨σ8, H8, I8, wiped, q8⟩ := h8
      refine thnF (pt.run _ s8 σ8 H8 _ I8 q8) fun b s9 h9 => ?_
      obtain ⟨H9, I9, q9⟩ := h9
      have next : ∀ {s' : Shared} {H' : Hp}, Inv (X.blk s3 H3 scope ce fp) ([] ++ pinsAt fp s7.heap) σ8 H' s' → N H' → ∃ m', m' < m ∧ Known X (X.blk s3 H3 scope ce fp) (wipe σ (own.map (·.2))) fp tn W m' s' := by
        intro s' H' I' nx
        obtain ⟨m', lt, w'⟩ := hN H' nx
        have kept : ∀ b ∈ fp, ∀ o, s7.heap.get? b = some o → s'.heap.get? b = some o ∧ H' b = none := by
          intro b hb o e
          obtain ⟨z1, z2, _⟩ := I'.pin (b, o) (List.mem_append_right _ (List.mem_append_right _ (mem_pinsAt hb e)))
          exact ⟨z1, z2⟩
        have len : (wipe σ (own.map (·.2))).length = σ8.length := by rw [← wiped, wipe_length]
        refine ⟨m', lt, i + 1, H', (I'.unpinned (pins := [])).weak len (fun j v e => ?_), T.keep _ _ _ st7 fun b hb o e => (kept b hb o e).1, fun b hb => ?_, w'⟩
        · rw [← wiped] at e
          exact (wipe_some e).1
        · obtain ⟨o, e, _⟩ := T.obj _ _ st7 b hb
          exact (kept b hb o e).2
      cases b with
      | false =>
        rw [if_neg Bool.false_ne_true] at q9 ⊢
        exact next I9 q9
      | true =>
        rw [if_pos rfl] at q9 ⊢
        refine thnF (pe.run _ s9 σ8 H9 _ I9 q9) fun z s10 h10 => ?_
        obtain ⟨yv, H10, I10, r10, adds⟩ := h10
        refine thnF (mt_sadd (X := X.blk s3 H3 scope ce fp) _ s10 σ8 H10 (.ref D) [yv] (.ref D) [z] _ I10 rfl (.cons r10 .nil) adds) fun _ s11 h11 => ?_
        obtain ⟨_, H11, I11, _, nx⟩ := h11
        exact next I11 nx
  exact codeAny_compStart_set all (T.self X.A 0 _ _ _ st4 all)
theorem pe_setI {elt tg iter : Expr} {ifs : List Expr} {scope : Scope} {own : List (PySem.Str × Nat)} {pos : Pos} {wi : TI} {g : TG} {tt : TT} {te : TE} (calm : X.calm = true) (nod : X.N.Nodup) (walked : PI X tg iter wi) (blk : BlkOk X.N X.env.scope scope own)
    (target : ∀ (s : Shared) (H : Hp) (C : Addr) (cl : List (PySem.Str × Addr)) (fp : List Addr), PG (X.blk s H scope (compEnvC scope cl C X.env) fp) tg g)
    (tests : ∀ (s : Shared) (H : Hp) (C : Addr) (cl : List (PySem.Str × Addr)) (fp : List Addr), PTs (X.blk s H scope (compEnvC scope cl C X.env) fp) ifs tt)
    (item : ∀ (s : Shared) (H : Hp) (C : Addr) (cl : List (PySem.Str × Addr)) (fp : List Addr), PE (X.blk s H scope (compEnvC scope cl C X.env) fp) elt te) (plain : ∀ x, foldedSetIterable iter X.env x = pure x := by intro _; rfl) :
    PE X (.SetComp elt [⟨tg, iter, ifs, 0⟩] scope pos) (tSetI X.w wi g tt te (own.map (·.2))) := by
  refine ⟨fun pins s σ H Q I asked => ?_⟩
  rw [eval_SetComp]
  have caught : ∀ y ∈ scope.names, y.2 = .free → ∃ c, X.env.cells.lookup y.1 = some c := by
    intro y hy e
    cases blk.free y hy e with
    | inl k => exact I.ok.has _ (.inl k)
    | inr k => exact I.ok.has _ (.inr k)
  refine wpAny_comprehension_free (use := none) rfl plain (closure_ok caught) blk.kind (fun y hy e => by rw [blk.uniq y hy, e]) ?_
  refine thn (walked.run pins s σ H _ I asked) fun _ _ h1 => thn h1 fun _ s2 h2 => ?_
  obtain ⟨it, fp, tn, J, H2, rfl, I2, T, st2, off2, fill⟩ := h2
  refine newSet_ok (newEnv_comp ?_)
  have free0 : H2 s2.heap.objs.size = none := I2.hok.fresh (Nat.le_refl _)
  obtain ⟨W, ⟨m0, w0⟩, turn⟩ := fill s2.heap.objs.size free0
  have I3 : Inv X pins σ (upd H2 s2.heap.objs.size (SetO X.w s2.heap.objs.size (fun _ => false) 0)) { s2 with heap := s2.heap.push (bareSet X.w) } :=
    I2.laid (t' := s2.toks) (fun _ _ e => Heap.get?_push_of_some _ e) (Nat.le_refl _) (setO_new (bare_ok X.w s2.heap))
  have below : ∀ b ∈ fp, b < s2.heap.objs.size := by
    intro b hb
    obtain ⟨o, e, _⟩ := T.obj _ _ st2 b hb
    exact Heap.lt_size e
  have off3 : ∀ b ∈ fp, FpOk X pins (upd H2 s2.heap.objs.size (SetO X.w s2.heap.objs.size (fun _ => false) 0)) b ∧ b < (s2.heap.push (bareSet X.w)).objs.size := by
    intro b hb
    refine ⟨⟨?_, (off2 b hb).2⟩, by rw [Heap.size_push]; exact Nat.lt_succ_of_lt (below b hb)⟩
    rw [upd_ne (Nat.ne_of_lt (below b hb))]
    exact (off2 b hb).1
  exact fill_set calm nod blk target tests item T I3 off3 (T.keep _ _ _ st2 fun _ _ _ e => Heap.get?_push_of_some _ e) w0 turn
end
end WS
set_option Elab.async false
set_option linter.all false
set_option maxRecDepth 100000
set_option maxHeartbeats 2000000
/-! t[::-1]; tuple * int for 0 and 1. -/
namespace WR
open PySem PySem.Spec PyProof.Rows L2
section
variable {prog : Program} {w : World} {A : Around} {E : Value → Shared → Prop} {s : Shared}
theorem adjust_back (n : Nat) : Builtin.Slice.sliceAdjust none none (-1) (n : Int) = ((n : Int) - 1, -1) := by
  unfold Builtin.Slice.sliceAdjust
  simp
theorem places_back (n : Nat) : Builtin.Slice.slicePlaces ((n : Int) - 1) (-1) (-1) = n := by
  unfold Builtin.Slice.slicePlaces
  have h1 : ¬ ((-1 : Int) > 0) := by omega
  simp only [h1, if_false]
  rw [show (- -1 : Int) = 1 by decide, Int.ediv_one]
  split <;> omega
theorem fm_congr {α β : Type} {f g : α → Option β} : ∀ {l : List α}, (∀ m ∈ l, f m = g m) → l.filterMap f = l.filterMap g
  | [], _ => rfl
  | a :: t, h => by
    rw [List.filterMap_cons, List.filterMap_cons, h a List.mem_cons_self, fm_congr fun m hm => h m (List.mem_cons_of_mem _ hm)]
theorem pick_back (xs : Array Value) : ((List.range xs.size).filterMap fun (m : Nat) => xs[((xs.size : Int) - 1 + (m : Int) * (-1)).toNat]?).toArray = xs.toList.reverse.toArray := by
  have e : (List.range xs.size).filterMap (fun (m : Nat) => xs[((xs.size : Int) - 1 + (m : Int) * (-1)).toNat]?) = ((List.range xs.size).map fun k => xs.size - 1 - k).filterMap (xs[·]?) := by
    rw [List.filterMap_map]
    refine fm_congr fun m hm => ?_
    have hm2 := List.mem_range.mp hm
    have : ((xs.size : Int) - 1 + (m : Int) * (-1)).toNat = xs.size - 1 - m := by omega
    rw [this]
    rfl
  rw [e, PySem.W.krv_range, List.filterMap_reverse, PySem.W.krv_all]
theorem sliceApplied_back {sl : Addr} {vl vu vs : Value} {n : Nat} {Q : Int × Int × Nat → Shared → Prop} (hs : s.heap.IsSliceOf sl vl vu vs) (pl : IsPart vl none) (pu : IsPart vu none) (ps : IsPart vs (some (-1)))
    (h : Q ((n : Int) - 1, -1, n) s) : wpAny (model prog w) A (Builtin.Slice.sliceApplied (.ref sl) (pure (n : Int))) Q E s := by
  obtain ⟨os, hos, hcs, hds⟩ := id hs
  unfold Builtin.Slice.sliceApplied Builtin.Slice.sliceFields
  refine wpAny_bind (wpAny_bind (wpAny_field hos hds (x := vl) rfl (wpAny_bind (wpAny_field hos hds (x := vu) rfl (wpAny_bind (wpAny_field hos hds (x := vs) rfl (wpAny_pure ?_)))))))
  refine wpAny_bind (HT.slicePart_ ps ?_)
  show wpAny _ _ (if ((-1 : Int) == 0) = true then _ else _) _ _ s
  rw [if_neg (by decide)]
  refine wpAny_bind (HT.slicePart_ pl (wpAny_bind (HT.slicePart_ pu (wpAny_bind (wpAny_pure ?_)))))
  show wpAny _ _ (match Builtin.Slice.sliceAdjust none none (-1) (n : Int) with | (lo, hi) => pure (lo, (-1 : Int), Builtin.Slice.slicePlaces lo hi (-1))) _ _ s
  rw [adjust_back n]
  show wpAny _ _ (pure ((n : Int) - 1, (-1 : Int), Builtin.Slice.slicePlaces ((n : Int) - 1) (-1) (-1))) _ _ s
  rw [places_back]
  exact wpAny_pure h
theorem getItem_tuple_back {t sl : Addr} {items : Array Value} {vl vu vs : Value} {Q : Value → Shared → Prop} (ht : IsTup s.heap t items) (hs : s.heap.IsSliceOf sl vl vu vs) (pl : IsPart vl none) (pu : IsPart vu none) (ps : IsPart vs (some (-1)))
    (h : Q (.ref s.heap.objs.size) { s with heap := s.heap.push { cls := .type "tuple", data := .seq items.toList.reverse.toArray } })
    (hsz : items.size ≤ sizeLine) : wpAny (model prog w) A (getItem (.ref t) (.ref sl)) Q E s := by
  have htake : sizeOk (.seq items.toList.reverse.toArray) := by
    show items.toList.reverse.toArray.size ≤ sizeLine
    rw [List.size_toArray, List.length_reverse, Array.length_toList]
    exact hsz
  obtain ⟨os, hos, hcs, hds⟩ := id hs
  have hTs : s.TypeIs (.ref sl) "slice" := ⟨os, hos, hcs⟩
  unfold getItem
  try with_reducible refine wpAny_holding ?_
  first | refine wpAny_bind (wpAny_pure ?_) | skip
  refine wpAny_bind (wpAny_sequenceKey ht.typeIs (by decide) ?_)
  refine wpAny_bind (wpAny_callSpecial?_slot (name := Str.ofString "__getitem__") ht.typeIs PyProof.Rows.slot_tuple_getitem
    (wpAny_call_entry PyProof.Rows.slot_tuple_getitem ht.typeIs entry_tuple_getitem ?_ (args_tuple_getitem _ _)))
  show wpAny _ _ (Builtin.Tuple.tupleItemsOf (.ref t) >>= _) _ _ s
  refine wpAny_bind (tupleItemsOf_ ht ?_)
  refine wpAny_bind (wpAny_typeOf hTs ?_)
  rw [if_pos (by decide)]
  refine wpAny_bind (sliceApplied_back hs pl pu ps ?_)
  have hno : ¬ ((((items.size : Int) - 1) == 0 && (-1 : Int) == 1 && items.size == items.size) = true) := by
    intro q
    rw [Bool.and_eq_true, Bool.and_eq_true] at q
    exact absurd q.1.2 (by decide)
  show wpAny _ _ (if (((items.size : Int) - 1) == 0 && (-1 : Int) == 1 && items.size == items.size) = true then _ else _) _ _ s
  rw [if_neg hno, pick_back]
  first
    | exact wpAny_bind (m := Builtin.Tuple.tupleExact _) (wpAny_newObj_type (wpAny_pure ⟨_, rfl, wpAny_pure h⟩) htake)
    | exact wpAny_bind (m := Builtin.Tuple.tupleExact _) (wpAny_newObj_type (wpAny_bind (wpAny_pure (wpAny_pure ⟨_, rfl, wpAny_pure h⟩))) htake)
end
section
variable {X : Cx}
def tRevT (K : PySem.W.Frag) (te : TE) : TE := fun σ H Q => te σ H fun x H1 => ∃ a xs, x = .ref a ∧ SqT K H1 a xs ∧ ∀ p, H1 p = none → Q (.ref p) (upd H1 p (.tup xs.reverse))
theorem pe_revT {e : Expr} {te : TE} {k : Nat} {p1 p2 p3 pos : Pos} (he : PE X e te) : PE X (.Subscript e (.Slice none none (some (.UnaryOp .USub (.Constant (.int 1) k p1) p2)) p3) pos) (tRevT X.K te) := by
  refine ⟨fun pins s σ H Q I h => ?_⟩
  refine Subscript_ (thn (he.run pins s σ H _ I h) fun v s1 ⟨x, H1, I1, r1, q1⟩ => ?_)
  obtain ⟨a, xs, ex, hx, q⟩ := q1
  subst ex
  cases r1
  have hst : PO X (some (.UnaryOp .USub (.Constant (.int 1) k p1) p2)) (tPart (tUn (rU fun i => .int (-i)) (tC (.int 1)))) := po_some (pe_un un_neg pe_int)
  refine wpAny_Slice (thn (po_none.run pins s1 σ H1 (fun o H2 => o = none ∧ H2 = H1) I1 ⟨rfl, rfl⟩) fun vl s2 ⟨l, H2, I2, pl, el, e2⟩ => ?_)
  subst el e2
  refine thn (po_none.run pins s2 σ H2 (fun o H3 => o = none ∧ H3 = H2) I2 ⟨rfl, rfl⟩) fun vu s3 ⟨u, H3, I3, pu, eu, e3⟩ => ?_
  subst eu e3
  refine thn (hst.run pins s3 σ H3 (fun o H4 => o = some (-1) ∧ H4 = H3) I3 ⟨1, rfl, -1, rfl, rfl, rfl⟩) fun vs s4 ⟨o, H4, I4, ps, eo, e4⟩ => ?_
  subst eo e4
  have I5 : Inv X pins σ H4 { s4 with heap := s4.heap.push { cls := .type "slice", data := .fields #[vl, vu, vs] } } := I4.kept (t' := s4.toks) fun b ob q => Heap.get?_push_of_some _ q
  obtain ⟨its, r, ht, hz⟩ := I5.tuple hx
  have hlen := r.length
  show wpAny (model X.prog X.w) X.A (subscriptTail e (.Slice none none (some (.UnaryOp .USub (.Constant (.int 1) k p1) p2)) p3) (.ref a) (.ref s4.heap.objs.size)) (EP X pins σ Q) X.xe { s4 with heap := s4.heap.push { cls := .type "slice", data := .fields #[vl, vu, vs] } }
  refine tail_any (ops := [.ref a, .ref s4.heap.objs.size]) ht.typeIs (PyProof.Rows.slot_tuple_getitem.lookup) ?_ (by with_unfolding_all rfl)
  refine getItem_tuple_back ht (Heap.IsSliceOf.new _ vl vu vs) pl pu ps ?_ (by rw [List.size_toArray]; omega)
  refine ⟨.ref _, _, I5.laid (t' := s4.toks) (o := .tup xs.reverse) (fun b ob q => Heap.get?_push_of_some _ q) (Nat.le_refl _) ?_, rfl, q _ (I5.hok.fresh (Nat.le_refl _))⟩
  exact ⟨by rw [List.length_reverse]; exact hz, _, r.reverse, IsTup.new _ _⟩
end

theorem tuple_mulS (l : Addr) (items : Array Value) (n : Nat) (dd : Option Addr) (sl : Array (Option Value)) (x : Int) (u : Tok) (c0 : (decide (x < -(2 ^ 63)) || decide (x ≥ 2 ^ 63)) = false) (c1 : (items.isEmpty || x == 1) = true) :
    Meets (Builtin.«tuple.__mul__» ⟨[.ref l, .int x u], []⟩) (fun _ R s => s.heap.get? l = some { cls := .type "tuple", dict := dd, data := .seq items n, slots := sl } ∧
      R (.ok (.ret (Value.ref l))) { s with heap := s.heap, toks := s.toks }) :=
  .of_wp fun prog w A R s h => by
    obtain ⟨hp, g, d, tk, os⟩ := s
    obtain ⟨hl, h⟩ := h
    have f1 := AutoSeq1.idx_int
    wp_walk using wpAny_loadPart' hl
    repeat (first
      | (refine wpAny_ite_false (decide_eq_false (by rw [c0]; exact Bool.false_ne_true)) ?_; wp_walk using wpAny_loadPart' hl)
      | (refine wpAny_ite_true (decide_eq_true c1) ?_; wp_walk using wpAny_loadPart' hl)
      | (refine wpAny_ite_true c1 ?_; wp_walk using wpAny_loadPart' hl))
    exact ⟨_, rfl, h⟩
theorem tuple_mul0 (l : Addr) (items : Array Value) (n : Nat) (dd : Option Addr) (sl : Array (Option Value)) (x : Int) (u : Tok) (c0 : (decide (x < -(2 ^ 63)) || decide (x ≥ 2 ^ 63)) = false) (c1 : (items.isEmpty || x == 1) = false) (c2 : (decide (x ≤ 0) || items.isEmpty) = true) :
    Meets (Builtin.«tuple.__mul__» ⟨[.ref l, .int x u], []⟩) (fun _ R s => s.heap.get? l = some { cls := .type "tuple", dict := dd, data := .seq items n, slots := sl } ∧
      R (.ok (.ret (Value.ref s.heap.objs.size))) { s with heap := s.heap.push { cls := Value.type "tuple", data := Data.seq #[] }, toks := s.toks }) :=
  .of_wp fun prog w A R s h => by
    obtain ⟨hp, g, d, tk, os⟩ := s
    obtain ⟨hl, h⟩ := h
    have f1 := AutoSeq1.idx_int
    wp_walk using wpAny_loadPart' hl
    repeat (first
      | (refine wpAny_ite_false (decide_eq_false (by rw [c0]; exact Bool.false_ne_true)) ?_; wp_walk using wpAny_loadPart' hl)
      | (refine wpAny_ite_false (decide_eq_false (by rw [c1]; exact Bool.false_ne_true)) ?_; wp_walk using wpAny_loadPart' hl)
      | (refine wpAny_ite_true (decide_eq_true c2) ?_; wp_walk using wpAny_loadPart' hl))
    exact ⟨_, rfl, h⟩
/-- some tuple of these values, all else as it stood -/
def NewT (K : PySem.W.Frag) (H : Hp) (Q : VK) (xs : List V) : Prop := ∀ p H', Same H H' → SqT K H' p xs → Q (.ref p) H'
theorem same_upd {H : Hp} {p : Addr} {o : HO} (hp : H p = none) : Same H (upd H p o) := fun b u e => by
  rw [upd_ne (ne_of_none e hp)]
  exact e
theorem Same.seqT {K : PySem.W.Frag} {H H' : Hp} {a : Addr} {xs : List V} (e : Same H H') (h : SqT K H a xs) : SqT K H' a xs := by
  rcases h with h | h
  · left
    rcases h with h | ⟨o, h⟩
    · exact .inl (e _ _ h)
    · exact .inr ⟨o, e _ _ h⟩
  · exact .inr h
theorem NewT.self {K : PySem.W.Frag} {H : Hp} {Q : VK} {xs : List V} {a : Addr} (k : NewT K H Q xs) (h : SqT K H a xs) : Q (.ref a) H := k a H (Same.refl H) h
theorem NewT.new {K : PySem.W.Frag} {H : Hp} {Q : VK} {xs : List V} (k : NewT K H Q xs) {p : Addr} (hp : H p = none) : Q (.ref p) (upd H p (.tup xs)) := k p _ (same_upd hp) (SqT.of upd_same)
section
variable {X : Cx}
def rSlU (K : PySem.W.Frag) : V → Option Int → Option Int → Hp → VK → Prop := fun x lo hi H Q => ∃ a xs, x = .ref a ∧ SqT K H a xs ∧ NewT K H Q (cutV xs lo hi)
theorem sl_tupU : SlR X (rSlU X.K) := by
  intro pins s σ H x v vl vu lo hi sl Q I rx hs pl pu h
  obtain ⟨a, xs, rfl, hx, k⟩ := h
  refine sl_tupA pins s σ H _ v vl vu lo hi sl Q I rx hs pl pu ⟨a, xs, rfl, hx, fun e => ?_, fun _ p hp => k.new hp⟩
  refine k.self ?_
  have : cutV xs lo hi = xs := by
    unfold cutV
    rw [e.1, e.2, List.drop_zero, Nat.sub_zero, List.take_of_length_le (Nat.le_refl _)]
  rw [this]
  exact hx
def rCatU (K : PySem.W.Frag) : R2 := fun x y H Q => ∃ a b xs ys, x = .ref a ∧ y = .ref b ∧ SqT K H a xs ∧ SqT K H b ys ∧ xs.length + ys.length ≤ sizeLine ∧ NewT K H Q (xs ++ ys)
theorem op_catU : OpR X (binaryOp .Add) (rCatU X.K) := by
  intro pins s σ H x y v u Q I rx ry h
  obtain ⟨a, b, xs, ys, rfl, rfl, ha, hb, hz, k⟩ := h
  by_cases hx : xs = []
  · subst hx
    cases rx
    cases ry
    obtain ⟨its, r1, p1, _⟩ := I.tuple ha
    obtain ⟨its2, r2, p2, _⟩ := I.tuple hb
    cases r1
    obtain ⟨⟨cls, dd, data, sl⟩, ho, hc, n, hd⟩ := id p1
    obtain ⟨⟨cls2, dd2, data2, sl2⟩, ho2, hc2, n2, hd2⟩ := id p2
    simp only at hc hd hc2 hd2
    subst hc hd hc2 hd2
    exact concat_meets ⟨_, ho, rfl⟩ ⟨_, ho2, rfl⟩ noFill_tuple_add seq_tuple_add PySem.F.slot_tuple_add PySem.F.entry_tuple_add (PySem.F.args_tuple_add_2 _ _)
      (tuple_addW0 a b _ its2.toArray n n2 dd dd2 sl sl2 (by simp)) ⟨ho, ho2, ⟨.ref b, H, I, rfl, k.self hb⟩⟩
  · refine op_catT pins s σ H _ _ v u Q I rx ry ⟨a, b, xs, ys, rfl, rfl, ha, hb, hx, hz, fun e => ?_, fun _ p hp => k.new hp⟩
    subst e
    rw [List.append_nil] at k
    exact k.self ha
def rRepU (K : PySem.W.Frag) : R2 := fun x y H Q => ∃ l k xs, x = .ref l ∧ y = .int k ∧ SqT K H l xs ∧ 0 ≤ k ∧ k ≤ 1000 ∧ xs.length ≤ 1000 ∧ NewT K H Q (List.replicate k.toNat xs).flatten
theorem op_repU : OpR X (binaryOp .Mult) (rRepU X.K) := by
  intro pins s σ H x y v u Q I rx ry h
  obtain ⟨l, k, xs, rfl, rfl, hT, h1, h2, hz, kq⟩ := h
  by_cases hne : xs ≠ [] ∧ 2 ≤ k
  · exact op_repT pins s σ H _ _ v u Q I rx ry ⟨l, k, xs, rfl, rfl, hT, hne.1, hne.2, h2, hz, fun p hp => kq.new hp⟩
  cases rx
  obtain ⟨t, rfl⟩ := ry
  obtain ⟨its, r, ⟨⟨cls, dd, data, sl⟩, ho, hc, n, hd⟩, hs⟩ := I.tuple hT
  simp only at hc hd
  subst hc hd
  have c0 : (decide (k < -(2 ^ 63)) || decide (k ≥ 2 ^ 63)) = false := by
    rw [decide_eq_false (by omega), decide_eq_false (by omega)] <;> rfl
  by_cases hs1 : (its.toArray.isEmpty || k == 1) = true
  · refine wpAny_binaryOp_repeat_ref (T := "tuple") (U := "int") (by decide) ⟨_, ho, rfl⟩ (fun s' => typeIs_int s' k t) noFill_tuple_mul F.fills_int_mul F.slot_int_rmul repeat_tuple F.slot_int_index.lookup
      (call_meets F.slot_int_rmul (typeIs_int s k t) F.entry_int_rmul (F.args_int_rmul_2 _ _) (int_rmul_tuple k t l its.toArray n dd sl)
        ⟨ho, rfl, ⟨_, ho, rfl⟩, call_meets F.slot_tuple_mul ⟨_, ho, rfl⟩ F.entry_tuple_mul (F.args_tuple_mul_2 _ _) (tuple_mulS l its.toArray n dd sl k t c0 hs1) ⟨ho, ?_⟩⟩)
    refine ⟨.ref l, H, I, rfl, kq.self ?_⟩
    rw [Bool.or_eq_true] at hs1
    rcases hs1 with e | e
    · have ei : its = [] := by simpa using e
      have ex : xs = [] := by
        have := r.length
        rw [ei] at this
        exact List.eq_nil_of_length_eq_zero this
      subst ex
      have : (List.replicate k.toNat ([] : List V)).flatten = [] := by simp
      rw [this]
      exact hT
    · have : k = 1 := eq_of_beq e
      subst this
      have : (List.replicate (1 : Int).toNat xs).flatten = xs := by simp
      rw [this]
      exact hT
  · have hs1' : (its.toArray.isEmpty || k == 1) = false := by
      cases e : (its.toArray.isEmpty || k == 1) with
      | false => rfl
      | true => exact absurd e hs1
    have hxs : xs ≠ [] := fun e => by
      subst e
      cases r
      exact hs1 rfl
    have k1 : k ≠ 1 := fun e => by
      rw [e] at hs1'
      simp at hs1'
    have k0 : k = 0 := by
      have : ¬ 2 ≤ k := fun e => hne ⟨hxs, e⟩
      omega
    subst k0
    refine wpAny_binaryOp_repeat_ref (T := "tuple") (U := "int") (by decide) ⟨_, ho, rfl⟩ (fun s' => typeIs_int s' 0 t) noFill_tuple_mul F.fills_int_mul F.slot_int_rmul repeat_tuple F.slot_int_index.lookup
      (call_meets F.slot_int_rmul (typeIs_int s 0 t) F.entry_int_rmul (F.args_int_rmul_2 _ _) (int_rmul_tuple 0 t l its.toArray n dd sl)
        ⟨ho, rfl, ⟨_, ho, rfl⟩, call_meets F.slot_tuple_mul ⟨_, ho, rfl⟩ F.entry_tuple_mul (F.args_tuple_mul_2 _ _) (tuple_mul0 l its.toArray n dd sl 0 t c0 hs1' rfl) ⟨ho, ?_⟩⟩)
    refine ⟨.ref s.heap.objs.size, _, I.laid (t' := s.toks) (o := .tup []) (fun b ob q => Heap.get?_push_of_some _ q) (Nat.le_refl _) ?_, rfl, kq.new (xs := []) (I.hok.fresh (Nat.le_refl _))⟩
    exact ⟨Nat.zero_le _, [], .nil, IsTup.new _ _⟩
end
end WR
set_option Elab.async false
set_option linter.all false
set_option maxRecDepth 100000
set_option maxHeartbeats 2000000
/-! try with several except clauses, each with a name or without. -/
namespace TM
open PySem PySem.Spec PyProof.Rows L2
/-- a clause: its class, the slot of its name if it has one, what its suite says -/
structure Cla where
  of : Value
  slot : Option Nat
  say : Addr → Value → Option Addr → TS
def offS : Option Nat → L2.St → L2.St
  | none, σ => σ
  | some i, σ => σ.set i none
def onS : Option Nat → Addr → L2.St → L2.St
  | none, _, σ => σ
  | some i, a, σ => σ.set i (some (.ref a))
def endsS (o : Option Nat) (D : Ends) : Ends := { nx := fun σ H => D.nx (offS o σ) H, rt := D.rt, bk := fun σ H => D.bk (offS o σ) H, ct := fun σ H => D.ct (offS o σ) H }
/-- the first clause that fits takes it -/
def wish (K : PySem.W.Frag) (out : WX) (D : Ends) : List Cla → WX
  | [] => out
  | q :: r => fun cls d σ H => ∃ b, PySem.W.exmOne K cls q.of = some b ∧ (b = true → ∀ a, H a = none → q.say a cls d (endsS q.slot D) (onS q.slot a σ) H) ∧ (b = false → wish K out D r cls d σ H)
def Says (X : Cx) (bs : List Stmt) (say : Addr → Value → Option Addr → TS) : Prop :=
  ∀ (a : Addr) (o : Obj) (cls : Value) (d : Option Addr) (pn : List (Addr × Obj)), Zc cls d o → (∃ vs, o.data = .fields vs) → PSs (X.suite a ((a, o) :: pn)) bs (say a cls d)
inductive Fit (X : Cx) : ExceptHandler → Cla → Prop
  | bare {x : Str} {c : Value} {say : Addr → Value → Option Addr → TS} {b : Stmt} {bs : List Stmt} {p1 p2 : Pos} (hc : Names X x c) (hs : Says X (b :: bs) say) : Fit X (.ExceptHandler (some (.Name x p1)) none (b :: bs) p2) ⟨c, none, say⟩
  | named {x n : Str} {i : Nat} {c : Value} {say : Addr → Value → Option Addr → TS} {b : Stmt} {bs : List Stmt} {p1 p2 : Pos} (hN : X.N.Nodup) (hi : X.N[i]? = some n) (hl : X.env.kindOf n = some .local) (hc : Names X x c) (hs : Says X (b :: bs) say) :
      Fit X (.ExceptHandler (some (.Name x p1)) (some n) (b :: bs) p2) ⟨c, some i, say⟩
inductive Fits (X : Cx) : List ExceptHandler → List Cla → Prop
  | nil : Fits X [] []
  | cons {h : ExceptHandler} {q : Cla} {hs : List ExceptHandler} {l : List Cla} (f : Fit X h q) (r : Fits X hs l) : Fits X (h :: hs) (q :: l)
/-- an exception that flies over X's frame, with the state that it left -/
structure Held (X : Cx) (pins : List (Addr × Obj)) (σ : L2.St) (H : Hp) (cls : Value) (d : Option Addr) (a : Addr) (B : Heap) (s0 s : Shared) : Prop where
  inv : Inv X pins σ H s0
  old : ∀ b o, s0.heap.get? b = some o → b ∉ frs X.stack → B.get? b = some o
  up : s0.heap.UpToSlots s.heap
  fly : HandSPX.FlyingZ B (X.env :: X.outer) a (Zc cls d) s.heap
  os : s.os = s0.os
  bare : AllBare s.gens
  free : H a = none
section
variable {X : Cx} {pins : List (Addr × Obj)} {σ : L2.St} {H : Hp} {D : Ends} {out : WX} {cls : Value} {d : Option Addr} {a : Addr} {B : Heap} {s0 s : Shared}
theorem Held.now (h : Held X pins σ H cls d a B s0 s) : Inv X pins σ H s := h.inv.landed h.old h.fly.1 h.up h.os h.bare
theorem Held.pinned (h : Held X pins σ H cls d a B s0 s) (hf : X.env.frame = some X.env.locals) : ∃ o : Obj, s.heap.get? a = some o ∧ Zc cls d o ∧ (∃ vs, o.data = .fields vs) ∧ Inv (X.suite a ((a, o) :: (X.pn ++ pins))) [] σ H s := by
  obtain ⟨o, vs, ea, z, ed⟩ := h.fly.there
  have out_ : a ∉ frs (X.env :: X.outer) := fun hm => by
    obtain ⟨_, o', e', nf⟩ := h.fly.2.2.1.mem hm
    rw [ea] at e'
    cases e'
    exact nf _ ed
  have n1 : a ≠ X.env.locals := fun z => out_ (List.mem_filterMap.mpr ⟨X.env, List.mem_cons_self, by rw [hf, z]⟩)
  have n2 : a ∉ X.fs := fun hm => by
    obtain ⟨e, he, q⟩ := List.mem_filterMap.mp hm
    exact out_ (List.mem_filterMap.mpr ⟨e, List.mem_cons_of_mem _ he, q⟩)
  exact ⟨o, ea, z, ⟨vs, ed⟩, h.now.suite ea ed h.free n1 n2⟩
/-- the clause's class is named, and held against the exception's -/
theorem Held.asked (h : Held X pins σ H cls d a B s0 s) (hf : X.env.frame = some X.env.locals) {x : Str} {c : Value} {b : Bool} {p : Pos} {Q : Bool → Shared → Prop} {E : Value → Shared → Prop} (hc : Names X x c) (eb : PySem.W.exmOne X.K cls c = some b)
    {G : Value → Sem Bool} (hG : ∀ {Q' : Bool → Shared → Prop}, Q' b s → wpAny (model X.prog X.w) (X.A.mark (some (.ref a))) (G c) Q' E s) (k : Q b s) :
    wpAny (model X.prog X.w) (X.A.mark (some (.ref a))) (eval (.Name x p) X.env >>= G) Q E s := by
  obtain ⟨o, ea, z, ed, S⟩ := h.pinned hf
  refine wpAny_bind ?_
  obtain ⟨g1, g2, m | ⟨m, v, nn⟩⟩ := hc
  · exact ld_glob (X := X.suite a ((a, o) :: (X.pn ++ pins))) S g1 m (hG k) g2
  · exact ld_blt (X := X.suite a ((a, o) :: (X.pn ++ pins))) S g1 m v (hG k) nn g2
theorem Held.pass (h : Held X pins σ H cls d a B s0 s) (hs : X.stack = X.env :: X.outer) (hf : X.env.frame = some X.env.locals) (tk : Takes X out) (w : out cls d σ H) : wpAny (model X.prog X.w) X.A (handleBy (.ref a) X.env []) (SP X pins D) X.xe s := by
  obtain ⟨_, _, _, oe, vs, T, oT, ts', he, hz, hd, h1, _⟩ := id h.fly
  refine wpAny_handleBy_nil ?_
  unfold PySem.passOn
  refine wpAny_bind (wpAny_field he hd h1 ?_)
  rw [if_neg (show ¬ ((Value.ref T == Value.none) = true) from by simp)]
  have last : wpAny (model X.prog X.w) X.A (setFlight (.ref a) X.env.frame) (fun _ s4 => wpAny (model X.prog X.w) X.A (throw (.ref a) : Sem Flow) (SP X pins D) X.xe s4) X.xe s := by
    rw [hf]
    exact HandSPX.setFlight_upZ h.fly fun h4 hh4 up4 => wpAny_throw (tk _ _ ⟨a, B, s0, pins, σ, H, cls, d, rfl, h.inv, h.old, h.up.trans up4, .inr (.inr (by rw [hs]; exact hh4)), h.free, h.os, h.bare, w⟩)
  first
    | exact wpAny_bind (wpAny_pure (wpAny_bind last))
    | exact wpAny_bind last
theorem Held.goes (h : Held X pins σ H cls d a B s0 s) (hs : X.stack = X.env :: X.outer) (hf : X.env.frame = some X.env.locals) (tk : Takes X out) {hds : List ExceptHandler} {l : List Cla} (fs : Fits X hds l) (w : wish X.K out D l cls d σ H) :
    wpAny (model X.prog X.w) X.A (handleBy (.ref a) X.env hds) (SP X pins D) X.xe s := by
  induction fs with
  | nil => exact h.pass hs hf tk w
  | @cons hd q hds l f r ih =>
    obtain ⟨b, eb, yes, no⟩ := w
    obtain ⟨o, ea, z, ed, S⟩ := h.pinned hf
    have look : PySem.W.Looks (model X.prog X.w) s.heap (typeOf (.ref a)) cls := fun A Q E s' k q => wpAny_typeOf_ref (k _ _ ea) (by rw [z.1]; exact q)
    have lm := PySem.W.exm_one (M := model X.prog X.w) h.now.kIn look eb
    have named : ∀ {x : Str} {c : Value} {p : Pos} {Q : Value → Shared → Prop} {E : Value → Shared → Prop}, Names X x c → Q c s → wpAny (model X.prog X.w) (X.A.mark (some (.ref a))) (eval (.Name x p) X.env) Q E s := fun {x c p Q E} hc k => by
      obtain ⟨g1, g2, m | ⟨m, v, nn⟩⟩ := hc
      · exact ld_glob (X := X.suite a ((a, o) :: (X.pn ++ pins))) S g1 m k g2
      · exact ld_blt (X := X.suite a ((a, o) :: (X.pn ++ pins))) S g1 m v k nn g2
    cases f with
    | bare hc say =>
      refine wpAny_handleBy_cons (codeAny_handlers_test (named hc (lm.here ?_))) (by intro q; cases q)
      cases b with
      | false => exact ih (no rfl)
      | true =>
        refine codeAny_handlers_suite (HandSPX.lands_againZ h.fly fun h4 fl4 up4 => ?_)
        have h' : Held X pins σ H cls d a B s0 { s with heap := h4 } := ⟨h.inv, h.old, h.up.trans up4, fl4, h.os, h.bare, h.free⟩
        obtain ⟨o4, _, z4, ed4, S4⟩ := h'.pinned hf
        refine wpAny_mono ((say a o4 cls d (X.pn ++ pins) z4 ed4).run [] _ _ H _ S4 (yes rfl a h.free)) (fun f s6 hsp => ?_) (fun _ _ z => False.elim z)
        have ok := h.inv.ok
        cases f with
        | next => obtain ⟨σ6, H6, S6, q6⟩ := hsp; exact ⟨_, _, S6.unsuite ok, q6⟩
        | brk => obtain ⟨σ6, H6, S6, q6⟩ := hsp; exact ⟨_, _, S6.unsuite ok, q6⟩
        | cont => obtain ⟨σ6, H6, S6, q6⟩ := hsp; exact ⟨_, _, S6.unsuite ok, q6⟩
        | ret u => obtain ⟨v6, σ6, H6, S6, r6, q6⟩ := hsp; exact ⟨_, _, _, S6.unsuite ok, r6, q6⟩
    | @named x n i c say0 b0 bs p1 p2 hN hi hl hc say =>
      refine wpAny_handleBy_cons (codeAny_handlers_test (named hc (lm.here ?_))) (by intro q; cases q)
      cases b with
      | false => exact ih (no rfl)
      | true =>
        refine codeAny_handlers_suite_as (HandSPX.lands_againZ h.fly fun h4 fl4 up4 => ?_)
        have h' : Held X pins σ H cls d a B s0 { s with heap := h4 } := ⟨h.inv, h.old, h.up.trans up4, fl4, h.os, h.bare, h.free⟩
        obtain ⟨o4, _, z4, ed4, S4⟩ := h'.pinned hf
        refine store_ok (X := X.suite a ((a, o4) :: (X.pn ++ pins))) (v := .ref a) S4 hN hi (.inl hl) rfl (fun s5 S5 => ?_) (.inr hl)
        refine wpAny_mono ((say a o4 cls d (X.pn ++ pins) z4 ed4).run [] s5 _ H _ S5 (yes rfl a h.free)) (fun f s6 hsp => ?_) (fun _ _ z => False.elim z)
        have ok := h.inv.ok
        have end_ : ∀ {σ6 : L2.St} {H6 : Hp} {Q : Shared → Prop}, Inv (X.suite a ((a, o4) :: (X.pn ++ pins))) [] σ6 H6 s6 → (∀ s7, Inv X pins (σ6.set i none) H6 s7 → Q s7) →
            wpAny (model X.prog X.w) X.A (do bindName X.env n .none; unbindBehindTheSuite X.env n p2) (fun _ s7 => Q s7) X.xe s6 := fun {σ6 H6 Q} S6 hq => gone_ok (S6.unsuite ok) hN hi hl hq
        cases f with
        | next => obtain ⟨σ6, H6, S6, q6⟩ := hsp; exact end_ S6 fun s7 J7 => ⟨_, _, J7, q6⟩
        | brk => obtain ⟨σ6, H6, S6, q6⟩ := hsp; exact end_ S6 fun s7 J7 => ⟨_, _, J7, q6⟩
        | cont => obtain ⟨σ6, H6, S6, q6⟩ := hsp; exact end_ S6 fun s7 J7 => ⟨_, _, J7, q6⟩
        | ret u => obtain ⟨v6, σ6, H6, S6, r6, q6⟩ := hsp; exact end_ S6 fun s7 J7 => ⟨_, _, _, J7, r6, q6⟩
end
section
variable {X : Cx} {body : List Stmt} {h0 : ExceptHandler} {hds : List ExceptHandler} {l : List Cla} {pos : Pos} {tb : WX → TS} {out : WX}
theorem ps_try_ms (hs : X.stack = X.env :: X.outer) (hf : X.env.frame = some X.env.locals) (tk : Takes X out)
    (hb : ∀ (W : WX) (pn : List (Addr × Obj)) (xe : Value → Shared → Prop), Takes (X.tr pn xe) W → PassesOwn (model X.prog X.w) X.A X.env xe → PSs (X.tr pn xe) body (tb W))
    (fs : Fits X (h0 :: hds) l) : PS X (.Try body (h0 :: hds) [] [] pos) (fun D σ H => tb (wish X.K out D l) D σ H) := by
  refine ⟨fun pins s σ H D I h => ?_⟩
  have ok := I.ok
  have hfr : X.A.frames = some (X.env :: X.outer) := by rw [ok.frames, hs]
  refine wpAny_Try_except (wpAny_mono ((hb (wish X.K out D l) (X.pn ++ pins) (fun e s₁ => wpAny (model X.prog X.w) X.A (noteFrame e X.env) (fun _ s₂ => wpAny (model X.prog X.w) X.A (setFlight e none) (fun _ s₃ =>
    wpAny (model X.prog X.w) X.A (handleBy e X.env (h0 :: hds)) (SP X pins D) X.xe s₃) X.xe s₂) X.xe s₁) (fun u s' xx => ?_) PassesOwn.looking).run [] s σ H D (I.toTry _) h) (fun f s1 hsp => ?_) (fun e s1 he => he))
  · obtain ⟨a, B, s0, pins', σ', H', cls, d, rfl, J', old, up, sky, free, os, bare, w⟩ := xx
    have sky' : Sky B (X.env :: X.outer) a (Zc cls d) X.env.locals s'.heap := by rw [← hs]; exact sky
    exact Sky.land Zc.steady hfr hf sky' fun h3 fl3 up3 => Held.goes (s := { s' with heap := h3 }) ⟨J'.ofTry ok, old, up.trans up3, fl3, os, bare, free⟩ hs hf tk fs w
  · cases f with
    | next => obtain ⟨σ', H', J', q⟩ := hsp; exact wpAny_execs_nil ⟨σ', H', J'.ofTry ok, q⟩
    | brk => obtain ⟨σ', H', J', q⟩ := hsp; exact ⟨σ', H', J'.ofTry ok, q⟩
    | cont => obtain ⟨σ', H', J', q⟩ := hsp; exact ⟨σ', H', J'.ofTry ok, q⟩
    | ret u => obtain ⟨v, σ', H', J', r, q⟩ := hsp; exact ⟨v, σ', H', J'.ofTry ok, r, q⟩
end
end TM
set_option Elab.async false
set_option linter.all false
set_option maxRecDepth 100000
set_option maxHeartbeats 2000000
/-! (a, b, ..) = a list of that length. -/
namespace UL
open PySem PySem.Spec PyProof PyProof.Rows L2
section
variable {prog : Program} {w : World} {A : Around} {E : Value → Shared → Prop}
theorem drawn {it l : Addr} {items : Array Value} (ne : l ≠ it) : ∀ (n i : Nat) (s : Shared) (Q : List Value → Shared → Prop), s.heap.IsListIter it l i → s.heap.IsList l items → i + n = items.size →
    (∀ h', h'.IsListIter it l (i + n) → h'.IsList l items → Heap.SameBut it s.heap h' → Q (items.toList.drop i) { s with heap := h' }) → wpAny (model prog w) A (draw (.ref it) n) Q E s
  | 0, i, s, Q, hit, hl, e, k => by
    have ed : items.toList.drop i = [] := List.drop_eq_nil_of_le (by simp; omega)
    have := k s.heap hit hl (Heap.SameBut.refl ..)
    rw [ed] at this
    exact wpAny_pure this
  | n + 1, i, s, Q, hit, hl, e, k => by
    have lt : i < items.size := by omega
    show wpAny _ _ (pyNext (.ref it) >>= _) Q E s
    refine wpAny_bind (wpAny_pyNext_list_item hit hl (x := items[i]) (by simp [lt]) fun h1 hit1 s1 => ?_)
    refine wpAny_bind (wpAny_holding (drawn ne n (i + 1) _ _ hit1 (hl.extBut s1.extBut ne) (by omega) fun h2 hit2 hl2 s2 => wpAny_pure ?_))
    have := k h2 (by rw [show i + (n + 1) = i + 1 + n by omega]; exact hit2) hl2 (s1.trans s2)
    rw [List.drop_eq_getElem_cons (by simpa using lt)] at this
    exact this
theorem unpacked {l : Addr} {items : Array Value} {s : Shared} {Q : List Value → Shared → Prop} (hh : A.handled = none) (hl : s.heap.IsList l items)
    (k : ∀ h', Heap.ExtBut s.heap.objs.size s.heap h' → Q items.toList { s with heap := h' }) : wpAny (model prog w) A (unpackItems (.ref l) items.size none) Q E s := by
  have ne : l ≠ s.heap.objs.size := by
    obtain ⟨o, ho, _⟩ := id hl
    exact Nat.ne_of_lt (Heap.lt_size ho)
  unfold unpackItems notIterableAtAll
  refine wpAny_bind (wpAny_bind (wpAny_specialOf hl.typeIs slot_list_iter.lookup ?_))
  refine wpAny_pure ?_
  simp only [Bool.false_eq_true, if_false]
  refine wpAny_bind (wpAny_holding (wpAny_pyIter_list hl ?_))
  refine wpAny_bind (wpAny_holding (drawn ne items.size 0 _ _ ⟨_, Heap.get?_push_size _ rfl, rfl, rfl⟩ (hl.push _) (by omega) fun h1 hit1 hl1 s1 => ?_))
  rw [List.drop_zero, if_neg (by simp)]
  refine wpAny_bind (wpAny_holding (wpAny_pyNext_list_end hh hit1 hl1 (by simp) fun h2 e2 => ?_))
  simp only [Option.isSome_none, Bool.false_eq_true, if_false]
  exact wpAny_pure (k h2 fun b o hb e => e2 b o hb (s1.extBut b o hb (Heap.get?_push_of_some _ e)))
end
section
variable {X : Cx} {pos : Pos}
/-- (a, b, ..) = a list or a tuple of that length -/
def gEither (K : PySem.W.Frag) (n : Nat) (t : TGs) : TG := fun v σ H Q => ∃ a xs, v = .ref a ∧ (SqL K H a xs ∨ SqT K H a xs) ∧ xs.length = n ∧ t xs σ H Q
theorem pg_either {es : List Expr} {k : Nat} {t : TGs} {n : Nat} (hc : X.calm = true) (h : PGs X es t)
    (hn : (assignEach es X.env).length = n := by rfl) (hst : (assignEach es X.env).findIdx? (·.1) = none := by rfl) : PG X (.Tuple es k pos) (gEither X.K n t) := by
  refine ⟨fun pins s σ H v u Q I r hw => ?_⟩
  obtain ⟨a, xs, e1, hq, hl, hw⟩ := hw
  rcases hq with hq | hq
  · subst e1
    cases r
    obtain ⟨its, rv, ht⟩ : ∃ its : List Value, Vals xs its ∧ s.heap.IsList a its.toArray := by
      obtain ⟨its, rv, ⟨o, n, e, hcl, _, hdt⟩, _⟩ := I.list hq
      exact ⟨its, rv, o, e, hcl, n, hdt⟩
    rw [assign_Tuple]
    refine wpAny_bind (wpAny_standAt ?_)
    unfold unpack
    have e2 : (assignEach es X.env).length = its.toArray.size := by simp [hn, ← hl, rv.length]
    rw [e2, hst]
    refine wpAny_bind (wpAny_holding (unpacked (I.ok.hd hc) ht fun h' hx => ?_))
    have I1 : Inv X pins σ H { s with heap := h' } := I.kept (t' := s.toks) fun b o e => hx b o (Nat.ne_of_lt (Heap.lt_size e)) e
    exact h.run pins _ σ H xs _ Q I1 (by simpa using rv) hw
  · exact (pg_tup hc h hn hst).run pins s σ H v u Q I r ⟨a, xs, e1, hq, hl, hw⟩
end
end UL
set_option Elab.async false
set_option linter.all false
set_option maxRecDepth 100000
set_option maxHeartbeats 2000000
/-! xs.extend(t), t a tuple. -/
namespace XT
open PySem PySem.Spec PyProof PyProof.Rows L2
theorem meets_tup (l : Addr) (items : Array Value) (n : Nat) (b : Addr) (items2 : Array Value) (n2 : Nat) (d2 : Option Addr) (sl2 : Array (Option Value)) (h0 : ¬(!items.isEmpty && Builtin.List.listTooLong (items.size + items2.size)) = true) (h1 : items.size ≤ sizeLine) (h2 : items.size + items2.size ≤ sizeLine + 1) :
    Meets (Builtin.«list.extend» ⟨[.ref l, .ref b], []⟩) (fun _ R s => s.heap.get? l = some { cls := .type "list", dict := none, data := .seq items n, slots := #[] } ∧ s.heap.get? b = some { cls := .type "tuple", dict := d2, data := .seq items2 n2, slots := sl2 } ∧
      R (.ok (.ret Value.none)) { s with heap := s.heap.update l (Obj.mapSeq fun x => x ++ items2), toks := s.toks }) :=
  .of_wp fun prog w A R s h => by
    obtain ⟨hp, g, d, tk, os⟩ := s
    obtain ⟨hl, hb, h⟩ := h
    have e2 : (items ++ items2).size ≤ sizeLine + 1 := by rw [Array.size_append]; exact h2
    wp_walk using (wpAny_updateSeq hl rfl (hz := h1) (_hz' := e2)), wpAny_loadPart' hl, wpAny_loadPart' hb
    exact ⟨_, rfl, h⟩
section
variable {X : Cx}
def rExtT (K : PySem.W.Frag) : V → List V → Hp → VK → Prop := fun x vs H Q => ∃ l b xs zs, x = .ref l ∧ vs = [.ref b] ∧ H l = some (.lst xs) ∧ SqT K H b zs ∧ xs.length + zs.length ≤ sizeLine ∧ Q .non (upd H l (.lst (xs ++ zs)))
theorem mt_extT : MtM X "list.extend" (rExtT X.K) := by
  intro pins s σ H x vs v us Q I rx rv h
  obtain ⟨l, b, xs, zs, rfl, rfl, hH, hB, hz, q⟩ := h
  cases rx
  obtain ⟨u, rfl, ru⟩ := rv.one
  cases ru
  obtain ⟨z, its, n, r, hl, e⟩ := I.lstM hH
  obtain ⟨its2, r2, ⟨o2, e2, c2, n2, d2⟩, z2⟩ := I.tuple hB
  obtain ⟨oc, od, dt, sl⟩ := o2
  dsimp only at c2 d2
  subst c2 d2
  have hl2 := r2.length
  have hsz : its.toArray.size + its2.toArray.size ≤ sizeLine := by rw [List.size_toArray, List.size_toArray]; omega
  have hlong : ¬ (!its.toArray.isEmpty && Builtin.List.listTooLong (its.toArray.size + its2.toArray.size)) = true := by
    rw [notLongL hsz, Bool.and_false]
    exact Bool.false_ne_true
  refine call_meets F.slot_list_extend ⟨_, e, rfl⟩ F.entry_list_extend (F.args_list_extend_2 _ _)
    (meets_tup l its.toArray n b its2.toArray n2 od sl hlong (by rw [List.size_toArray]; omega) (by omega)) ⟨e, e2, ?_⟩
  refine ⟨.non, _, I.lset (its' := its ++ its2) hH e (by simp) (r.append r2) ?_, rfl, q⟩
  rw [List.length_append]
  omega
end
end XT
set_option Elab.async false
set_option linter.all false
set_option maxRecDepth 100000
set_option maxHeartbeats 2000000
/-! Words: rows of letters. -/
namespace W29
open PySem L2 PySem.Spec PyProof.Rows WR
def top (i : Nat) : Stmt := PySem.Challenge.pw_handlerims_k29_products_of_pairs.main.body.getD i (.Pass ⟨0, 0, 0, 0⟩)
abbrev sCon : Stmt := top 14
abbrev sShr : Stmt := top 15
abbrev sRnd : Stmt := top 16

theorem gen_heap {P : Hp → Prop} {H : Hp} (h : ∀ H3, H3 = H → P H3) : P H := h H rfl
theorem yes_te {σ : L2.St} {H : Hp} {A B : Hp → Prop} (h : A H) : tYes σ H (fun b H3 => if b = true then A H3 else B H3) := by
  show (if (true : Bool) = true then A H else B H)
  exact iteT h
/-! ### a def that the module's name x holds, with its promise -/
structure Cal (P : Program) (w : World) (K : PySem.W.Frag) (mg : Str → Option Value) (base : Heap) (x : Str) (k : Nat) (ps : List Str) (sp : Sp) : Prop where
  ex : ∃ (f : Addr) (fd : FuncData), FnOk P w K mg base CX0 k f fd ps sp ∧ mg x = some (.ref f) ∧ PySem.W.keepIn K (.ref f) = true ∧ Binds K fd ps []
section
variable {X : Cx} {x : Str} {k j : Nat} {ps : List Str} {sp : Sp} {p pos : Pos} {e : Expr} {es : List Expr} {t : TA}
theorem pe_cal (C : Cal X.prog X.w X.K X.mg X.base x k ps sp) (hr : Room j X.A) (hkj : k ≤ j) (hg : Gl X x) (ha : PA X (e :: es) t) (hdb : (x == ("__debug__" : Str)) = false := by decide)
    (he : starEach (e :: es) X.env = (false, eval e X.env) :: starEach es X.env := by rfl) (hpl : (backTo pos (starEach es X.env)).any (·.1) = false := by rfl) :
    PE X (.Call (.Name x p) (e :: es) [] pos) (tCall sp [] E0 t) := by
  obtain ⟨f, fd, F, hm, hk, hb⟩ := C.ex
  exact pe_call F (hr.mono hkj) hg hm hk hb .nil pass0 ha hdb he hpl
end
/-! ### comprehensions that change nothing -/
theorem lc_in {wi : TI} {g : TG} {tt : TT} {te : TE} {vs : List Nat} {σ : L2.St} {H : Hp} {Q : VK} (h : wi σ H fun J H1 => tLc (fun _ H R => R J H) g tt te vs σ H1 Q) : tLc wi g tt te vs σ H Q := h
theorem lcp {J : It} {xs : List V} {G : Hp → Prop} (w : Walk J xs.length G (YAt xs)) {g : TG} {tt : TT} {te : TE} {vs : List Nat} {σ : L2.St} {H1 : Hp} {Q : VK} (f : V → Bool) (v : V → V) (hz : xs.length < 40000) (hG : ∀ H, Same H1 H → G H)
    (hs : ∀ x, x ∈ xs → ∀ H, Same H1 H → ∀ (Qy : V → Hp → Prop) (Qn : Hp → Prop), (f x = true → ∀ H', Same H H' → Qy (v x) H') → (f x = false → ∀ H', Same H H' → Qn H') →
      g x (wipe σ vs) H fun σ2 H2 => wipe σ2 vs = wipe σ vs ∧ tt σ2 H2 fun b H3 => if b = true then te σ2 H3 Qy else Qn H3)
    (hd : ∀ (D : Addr) H', H1 D = none → Same H1 H' → H' D = some (.lst ((xs.filter f).map v)) → Q (.ref D) H') : tLc (fun _ H R => R J H) g tt te vs σ H1 Q := by
  intro D hD
  refine lc_it w (fun i H => Same H1 H ∧ H D = some (.lst (((xs.take i).filter f).map v))) ⟨fun b o e => by rw [upd_ne (ne_of_none e hD)]; exact e, upd_same⟩ (fun i H _ q => hG H q.1) ?_ ?_
  · rintro i x H H' hi q ⟨rfl, hx⟩
    have hm : x ∈ xs := List.mem_of_getElem? hx
    have et : xs.take (i + 1) = xs.take i ++ [x] := by
      have hx2 : xs[i] = x := (List.getElem?_eq_some_iff.mp hx).2
      rw [List.take_succ_eq_append_getElem hi, hx2]
    refine hs x hm H' q.1 _ _ (fun hf H2 s2 => ⟨_, s2 _ _ q.2, ?_, ?_, ?_⟩) (fun hf H2 s2 => ⟨fun b o e => s2 b o (q.1 b o e), ?_⟩)
    · refine Evl.sz_lt ?_
      rw [List.length_map]
      have := List.length_filter_le f (xs.take i)
      rw [List.length_take] at this
      omega
    · intro b o e
      rw [upd_ne (ne_of_none e hD)]
      exact s2 b o (q.1 b o e)
    · rw [upd_same, et, List.filter_append, List.map_append, List.filter_cons, if_pos hf]
      rfl
    · rw [et, List.filter_append, List.filter_cons, if_neg (by rw [hf]; decide)]
      show H2 D = some (.lst (((xs.take i).filter f ++ []).map v))
      rw [List.append_nil]
      exact s2 _ _ q.2
  · intro H q
    have q2 := q.2
    rw [List.take_length] at q2
    exact hd D H hD q.1 q2

theorem ret_cb {r : List V → Hp → VK → Prop} {te : TE} {D : Ends} {σ : L2.St} {H : Hp} (h : te σ H fun x H1 => r [x] H1 D.rt) : tRet (tCB r (tCons te tNil)) D σ H := h
theorem ret_e {te : TE} {D : Ends} {σ : L2.St} {H : Hp} (h : te σ H D.rt) : tRet te D σ H := h
theorem iteT' {c : Bool} {A B : Prop} (hc : c = true) (h : A) : if c = true then A else B := by rw [if_pos hc]; exact h
abbrev iv (ns : List Int) : List V := ns.map V.int
def SqE (K : PySem.W.Frag) (H : Hp) (a : Addr) (xs : List V) : Prop := SqL K H a xs ∨ SqT K H a xs
theorem SqE.same {K : PySem.W.Frag} {H H' : Hp} {a : Addr} {xs : List V} (h : SqE K H a xs) (s : Same H H') : SqE K H' a xs := by
  rcases h with h | h
  · exact .inl (s.seq h)
  · exact .inr (WR.Same.seqT s h)
def spCon (K : PySem.W.Frag) : Sp := fun vs H Q _ => ∃ (a : Addr) (ns : List Int), vs = [.ref a] ∧ SqT K H a (iv ns) ∧ ns.length ≤ 1000 ∧ NewT K H Q (iv (Fr.con ns))
def spShr (K : PySem.W.Frag) : Sp := fun vs H Q _ => ∃ (a : Addr) (ns : List Int), vs = [.ref a] ∧ SqE K H a (iv ns) ∧ ns.length ≤ 30000 ∧ NewT K H Q (iv (Fr.shr ns))
def spRnd (K : PySem.W.Frag) : Sp := fun vs H Q _ => ∃ (a : Addr) (ns : List Int), vs = [.ref a] ∧ SqE K H a (iv ns) ∧ ns.length ≤ 1000 ∧ Fr.NZ ns ∧ NewT K H Q (iv (Fr.rnd ns))
structure TxA (mg : Str → Option Value) : Prop where
  tuple : mg "tuple" = none
  len : mg "len" = none
section
variable {P : Program} {w : World} {K : PySem.W.Frag} {mg : Str → Option Value} {base : Heap}
theorem scCon : FnScope ["letters", "letter"] ["letters"] (defScope sCon) := ⟨rfl, rfl, rfl, by decide +kernel, rfl, by decide +kernel, by decide +kernel⟩
theorem ok_con {f : Addr} {fd : FuncData} (F : Fun K "contrary_letters" "contrary_letters" sCon f fd) (T : TxA mg) : FnOk P w K mg base CX0 1 f fd ["letters"] (spCon K) := by
  refine F.ok scCon (fun vs H Q E h => ?_) (fun cdv A outer s H vs Q E hr h => ?_)
  · obtain ⟨a, ns, rfl, _⟩ := h
    rfl
  · obtain ⟨a, ns, rfl, hS, hlen, k⟩ := h
    refine ⟨_, pss_one (ps_ret (pe_callTy call_tuple_of (by rfl) T.tuple (by decide +kernel) (pa_cons (pe_lc (own := [("letter", 1)]) (g := gName 1) (tt := tYes) rfl scCon.nd (pi_tup (pe_revT (pv 0)))
      (blkOk_by (N := ["letters", "letter"]) (sc := defScope sCon) (by decide +kernel)) (fun _ _ _ _ _ => pg_name (i := 1) scCon.nd rfl (Or.inl rfl)) (fun _ _ _ _ _ => pts_nil)
      (fun _ _ _ _ _ => pe_un un_neg (pv 1))) pa_nil))), ?_⟩
    refine ret_cb (lc_in ?_)
    refine ⟨_, rfl, a, iv ns, rfl, hS, fun p hp => ?_⟩
    refine ⟨p, rfl, ⟨_, SqT.of upd_same⟩, ?_⟩
    refine lcp (walk_tup (xs := (iv ns).reverse)) (fun _ => true) (fun x => match x with | .int i => .int (-i) | _ => .non) (by simp; omega) (fun H2 s2 => SqT.of (s2 _ _ upd_same)) ?_ ?_
    · intro x hx H2 s2 Qy Qn ky kn
      obtain ⟨i, rfl⟩ : ∃ i, x = V.int i := by
        simp at hx
        obtain ⟨i, _, rfl⟩ := hx
        exact ⟨i, rfl⟩
      refine ⟨rfl, yes_te ?_⟩
      exact ⟨_, rfl, i, rfl, ky rfl H2 (fun _ _ e => e)⟩
    · intro D H2 hD s2 h2
      refine ⟨D, _, rfl, .inl ⟨SqL.of h2, fun l hl => ?_⟩⟩
      have e : (((iv ns).reverse.filter fun _ => true).map fun x => match x with | .int i => V.int (-i) | _ => .non) = iv (Fr.con ns) := by
        rw [List.filter_eq_self.mpr (fun _ _ => rfl)]
        unfold Fr.con
        simp [iv, List.map_reverse, Function.comp_def]
      rw [e]
      exact k l _ ((same_upd hp).trans (s2.trans (same_upd hl))) (SqT.of upd_same)
theorem scShr : FnScope ["letters", "left", "letter"] ["letters"] (defScope sShr) := ⟨rfl, rfl, rfl, by decide +kernel, rfl, by decide +kernel, by decide +kernel⟩
theorem act_take {ns : List Int} {i : Nat} {x : Int} (h : ns[i]? = some x) : Fr.act [] (ns.take (i + 1)) = Fr.push (Fr.act [] (ns.take i)) x := by
  have hi : i < ns.length := (List.getElem?_eq_some_iff.mp h).1
  have hx : ns[i] = x := (List.getElem?_eq_some_iff.mp h).2
  rw [List.take_succ_eq_append_getElem hi, hx, Fr.act_snoc]
theorem act_len : ∀ (ns s : List Int), (Fr.act s ns).length ≤ s.length + ns.length
  | [], s => by simp [Fr.act]
  | a :: t, s => by
    rw [Fr.act_cons]
    have h1 := act_len t (Fr.push s a)
    have h2 : (Fr.push s a).length ≤ s.length + 1 := by
      cases s with
      | nil => simp [Fr.push]
      | cons b u =>
        show (if b = -a then u else a :: b :: u).length ≤ _
        split <;> simp <;> omega
    simp only [List.length_cons]
    omega
theorem shr_len (ns : List Int) : (Fr.shr ns).length ≤ ns.length := by
  unfold Fr.shr
  rw [List.length_reverse]
  simpa using act_len ns []
theorem ok_shr {f : Addr} {fd : FuncData} (F : Fun K "shortened_letters" "shortened_letters" sShr f fd) (T : TxA mg) : FnOk P w K mg base CX0 1 f fd ["letters"] (spShr K) := by
  refine F.ok scShr (fun vs H Q E h => ?_) (fun cdv A outer s H vs Q E hr h => ?_)
  · obtain ⟨a, ns, rfl, _⟩ := h
    rfl
  · obtain ⟨a, ns, rfl, hS, hlen, k⟩ := h
    rcases hS with hS | hS
    · refine ⟨_, pss_cons (ps_set (i := 1) scShr.nd rfl (Or.inl rfl) (pe_lst pa_nil))
        (pss_cons (ps_for PassesOwn.never rfl (pi_list (pv 0)) (pg_name (i := 2) scShr.nd rfl (Or.inl rfl))
          (pss_one (ps_if (PW.pt (pw_and (pt_truth (pv 1) (by intro _; rfl)) (pw_and1 (pt_cmpR op_eq (pe_ix ix_list (pv 1) (pe_un un_neg pe_int) (fun _ _ => rfl)) (pe_un un_neg (pv 2)) (nomark _)))))
            (pss_one (ps_expr (pe_bm0 PySem.F.plainAttrs_list PySem.F.slot_list_pop PySem.F.type_list_pop mt_pop (pv 1))))
            (pss_one (ps_expr (pe_bm PySem.F.plainAttrs_list PySem.F.slot_list_append PySem.F.type_list_append mt_append (pv 1) (pa_cons (pv 2) pa_nil)))))))
        (pss_one (ps_ret (pe_callTy call_tuple_of (by rfl) T.tuple (by decide +kernel) (pa_cons (pv 1) pa_nil))))), ?_⟩
      refine ⟨Nat.zero_le _, fun l hl => ?_⟩
      refine ⟨_, rfl, a, rfl, ⟨_, (by have s := same_upd (o := HO.lst []) hl; exact (s.seq hS))⟩, for_list (K := K) (a := a) (xs := iv ns) (fun i σ H1 => ∃ v, σ = [some (.ref a), some (.ref l), v] ∧ Same H H1 ∧ H1 l = some (.lst (iv (Fr.act [] (ns.take i)).reverse)))
        ⟨none, rfl, same_upd hl, by rw [upd_same]; rfl⟩ (fun i σ H1 _ ⟨_, _, s, _⟩ => (s.seq hS)) ?_ ?_⟩
      · rintro i y σ H1 hi ⟨v, rfl, sm, hL⟩
        obtain ⟨x, hx, rfl⟩ : ∃ x, ns[i]? = some x ∧ y = V.int x := by
          rw [List.getElem?_map] at hi
          cases e : ns[i]? with
          | none => rw [e] at hi; cases hi
          | some x => rw [e] at hi; exact ⟨x, rfl, (Option.some.inj hi).symm⟩
        have hi2 : i < ns.length := (List.getElem?_eq_some_iff.mp hx).1
        have nx := act_take hx
        have hsz : (Fr.act [] (ns.take i)).length ≤ 30000 := by
          have := act_len (ns.take i) []
          rw [List.length_take] at this
          simp at this
          omega
        have put : ∀ xs, Same H (L2.upd H1 l (.lst xs)) := fun xs b o e => by
          rw [upd_ne (ne_of_none e hl)]
          exact sm b o e
        refine ⟨_, rfl, _, .inl ⟨_, SqL.of hL, rfl⟩, ?_⟩
        cases est : Fr.act [] (ns.take i) with
        | nil =>
          rw [est] at hL nx
          refine iteF ?_
          refine iteF ?_
          refine ⟨_, rfl, .inl ⟨rfl, _, SqL.of hL⟩, _, rfl, l, _, _, rfl, rfl, hL, Evl.sz_lt (by simp), ?_⟩
          refine ⟨_, rfl, put _, ?_⟩
          rw [upd_same, nx]
          rfl
        | cons b t =>
          rw [est] at hL nx hsz
          have eL : iv (b :: t).reverse = iv t.reverse ++ [V.int b] := by simp [iv]
          refine iteT' (by simp [iv]) ?_
          refine ⟨_, rfl, _, rfl, l, _, _, _, rfl, rfl, SqL.of hL, (by rw [eL]; exact atI_last _ _), _, rfl, x, rfl, rfl, _, rfl, ?_⟩
          refine ite2 (fun hb => ?_) (fun hb => ?_)
          · have eb : b = -x := by
              have := of_decide_eq_true hb
              injection this
            refine ⟨_, rfl, .inl ⟨rfl, _, SqL.of hL⟩, l, _, V.int b, rfl, rfl, hL, (by rw [eL]; simp), ?_⟩
            refine ⟨_, rfl, put _, ?_⟩
            rw [upd_same, nx]
            have : Fr.push (b :: t) x = t := by simp [Fr.push, eb]
            rw [this, eL, List.dropLast_concat]
          · have eb : ¬ b = -x := fun e => hb (decide_eq_true (by rw [e]))
            refine ⟨_, rfl, .inl ⟨rfl, _, SqL.of hL⟩, _, rfl, l, _, _, rfl, rfl, hL, Evl.sz_lt (by simp [iv] at hsz ⊢; omega), ?_⟩
            refine ⟨_, rfl, put _, ?_⟩
            rw [upd_same, nx]
            have : Fr.push (b :: t) x = x :: b :: t := by simp [Fr.push, eb]
            rw [this]
            simp [iv]
      · rintro σ H1 ⟨v, rfl, sm, hL⟩
        rw [List.take_of_length_le (by simp)] at hL
        refine ⟨_, rfl, l, _, rfl, .inl ⟨SqL.of hL, fun p hp => ?_⟩⟩
        exact k p _ (sm.trans (same_upd hp)) (SqT.of (by rw [upd_same]; rfl))
    · refine ⟨_, pss_cons (ps_set (i := 1) scShr.nd rfl (Or.inl rfl) (pe_lst pa_nil))
        (pss_cons (ps_for PassesOwn.never rfl (pi_tup (pv 0)) (pg_name (i := 2) scShr.nd rfl (Or.inl rfl))
          (pss_one (ps_if (PW.pt (pw_and (pt_truth (pv 1) (by intro _; rfl)) (pw_and1 (pt_cmpR op_eq (pe_ix ix_list (pv 1) (pe_un un_neg pe_int) (fun _ _ => rfl)) (pe_un un_neg (pv 2)) (nomark _)))))
            (pss_one (ps_expr (pe_bm0 PySem.F.plainAttrs_list PySem.F.slot_list_pop PySem.F.type_list_pop mt_pop (pv 1))))
            (pss_one (ps_expr (pe_bm PySem.F.plainAttrs_list PySem.F.slot_list_append PySem.F.type_list_append mt_append (pv 1) (pa_cons (pv 2) pa_nil)))))))
        (pss_one (ps_ret (pe_callTy call_tuple_of (by rfl) T.tuple (by decide +kernel) (pa_cons (pv 1) pa_nil))))), ?_⟩
      refine ⟨Nat.zero_le _, fun l hl => ?_⟩
      refine ⟨_, rfl, a, rfl, ⟨_, (by have s := same_upd (o := HO.lst []) hl; exact (WR.Same.seqT s hS))⟩, for_tup (K := K) (a := a) (xs := iv ns) (fun i σ H1 => ∃ v, σ = [some (.ref a), some (.ref l), v] ∧ Same H H1 ∧ H1 l = some (.lst (iv (Fr.act [] (ns.take i)).reverse)))
        ⟨none, rfl, same_upd hl, by rw [upd_same]; rfl⟩ (fun i σ H1 _ ⟨_, _, s, _⟩ => (WR.Same.seqT s hS)) ?_ ?_⟩
      · rintro i y σ H1 hi ⟨v, rfl, sm, hL⟩
        obtain ⟨x, hx, rfl⟩ : ∃ x, ns[i]? = some x ∧ y = V.int x := by
          rw [List.getElem?_map] at hi
          cases e : ns[i]? with
          | none => rw [e] at hi; cases hi
          | some x => rw [e] at hi; exact ⟨x, rfl, (Option.some.inj hi).symm⟩
        have hi2 : i < ns.length := (List.getElem?_eq_some_iff.mp hx).1
        have nx := act_take hx
        have hsz : (Fr.act [] (ns.take i)).length ≤ 30000 := by
          have := act_len (ns.take i) []
          rw [List.length_take] at this
          simp at this
          omega
        have put : ∀ xs, Same H (L2.upd H1 l (.lst xs)) := fun xs b o e => by
          rw [upd_ne (ne_of_none e hl)]
          exact sm b o e
        refine ⟨_, rfl, _, .inl ⟨_, SqL.of hL, rfl⟩, ?_⟩
        cases est : Fr.act [] (ns.take i) with
        | nil =>
          rw [est] at hL nx
          refine iteF ?_
          refine iteF ?_
          refine ⟨_, rfl, .inl ⟨rfl, _, SqL.of hL⟩, _, rfl, l, _, _, rfl, rfl, hL, Evl.sz_lt (by simp), ?_⟩
          refine ⟨_, rfl, put _, ?_⟩
          rw [upd_same, nx]
          rfl
        | cons b t =>
          rw [est] at hL nx hsz
          have eL : iv (b :: t).reverse = iv t.reverse ++ [V.int b] := by simp [iv]
          refine iteT' (by simp [iv]) ?_
          refine ⟨_, rfl, _, rfl, l, _, _, _, rfl, rfl, SqL.of hL, (by rw [eL]; exact atI_last _ _), _, rfl, x, rfl, rfl, _, rfl, ?_⟩
          refine ite2 (fun hb => ?_) (fun hb => ?_)
          · have eb : b = -x := by
              have := of_decide_eq_true hb
              injection this
            refine ⟨_, rfl, .inl ⟨rfl, _, SqL.of hL⟩, l, _, V.int b, rfl, rfl, hL, (by rw [eL]; simp), ?_⟩
            refine ⟨_, rfl, put _, ?_⟩
            rw [upd_same, nx]
            have : Fr.push (b :: t) x = t := by simp [Fr.push, eb]
            rw [this, eL, List.dropLast_concat]
          · have eb : ¬ b = -x := fun e => hb (decide_eq_true (by rw [e]))
            refine ⟨_, rfl, .inl ⟨rfl, _, SqL.of hL⟩, _, rfl, l, _, _, rfl, rfl, hL, Evl.sz_lt (by simp [iv] at hsz ⊢; omega), ?_⟩
            refine ⟨_, rfl, put _, ?_⟩
            rw [upd_same, nx]
            have : Fr.push (b :: t) x = x :: b :: t := by simp [Fr.push, eb]
            rw [this]
            simp [iv]
      · rintro σ H1 ⟨v, rfl, sm, hL⟩
        rw [List.take_of_length_le (by simp)] at hL
        refine ⟨_, rfl, l, _, rfl, .inl ⟨SqL.of hL, fun p hp => ?_⟩⟩
        exact k p _ (sm.trans (same_upd hp)) (SqT.of (by rw [upd_same]; rfl))
end
end W29
set_option Elab.async false
set_option linter.all false
set_option maxRecDepth 100000
set_option maxHeartbeats 2000000
namespace W29
open PySem L2 PySem.Spec PyProof.Rows WR
section
variable {P : Program} {w : World} {K : PySem.W.Frag} {mg : Str → Option Value} {base : Heap}
theorem iteF' {c : Bool} {A B : Prop} (hc : c = false) (h : B) : if c = true then A else B := by rw [if_neg (by rw [hc]; exact Bool.false_ne_true)]; exact h
theorem iv_get {ns : List Int} {i : Nat} {x : Int} (h : ns[i]? = some x) : (iv ns)[i]? = some (V.int x) := by
  rw [List.getElem?_map, h]
  rfl
theorem con_get {u : List Int} {j : Nat} (h : j < u.length) : (Fr.con u)[u.length - 1 - j]? = some (-u[j]) := by
  unfold Fr.con
  rw [List.getElem?_map, List.getElem?_reverse (by omega)]
  have e : u.length - 1 - (u.length - 1 - j) = j := by omega
  rw [e, List.getElem?_eq_getElem h]
  rfl
theorem whole_len (u w : List Int) : (u ++ w ++ Fr.con u).length = 2 * u.length + w.length := by
  rw [List.length_append, List.length_append, Fr.con_length]
  omega
theorem whole_lo {u w : List Int} {j : Nat} (h : j < u.length) : (u ++ w ++ Fr.con u)[j]? = some u[j] := by
  rw [List.append_assoc, List.getElem?_append_left h, List.getElem?_eq_getElem h]
theorem whole_hi {u w : List Int} {j : Nat} (h : j < u.length) : (u ++ w ++ Fr.con u)[2 * u.length + w.length - 1 - j]? = some (-u[j]) := by
  rw [List.getElem?_append_right (by rw [List.length_append]; omega), List.length_append]
  have e : 2 * u.length + w.length - 1 - j - (u.length + w.length) = u.length - 1 - j := by omega
  rw [e, con_get h]
theorem mid_lo {u w : List Int} (hw : w ≠ []) : (u ++ w ++ Fr.con u)[u.length]? = w.head? := by
  have : 0 < w.length := List.length_pos_iff.mpr hw
  rw [List.append_assoc, List.getElem?_append_right (Nat.le_refl _), Nat.sub_self, List.getElem?_append_left this, List.head?_eq_getElem?]
theorem mid_hi {u w : List Int} (hw : w ≠ []) : (u ++ w ++ Fr.con u)[2 * u.length + w.length - 1 - u.length]? = w.getLast? := by
  have : 0 < w.length := List.length_pos_iff.mpr hw
  rw [List.append_assoc, List.getElem?_append_right (by omega)]
  have e : 2 * u.length + w.length - 1 - u.length - u.length = w.length - 1 := by omega
  rw [e, List.getElem?_append_left (by omega), List.getLast?_eq_getElem?]
theorem whole_cut (u w : List Int) : ((u ++ w ++ Fr.con u).drop u.length).take w.length = w := by
  rw [List.append_assoc, List.drop_left, List.take_left]
theorem scRnd : FnScope ["letters", "left", "skipped"] ["letters"] (defScope sRnd) := ⟨rfl, rfl, rfl, by decide +kernel, rfl, by decide +kernel, by decide +kernel⟩
theorem cut_nat {xs : List V} {i j : Nat} (hi : i ≤ xs.length) (hj : j ≤ xs.length) : cutV xs (some (i : Int)) (some (j : Int)) = (xs.drop i).take (j - i) := by
  unfold cutV
  rw [HT.sIx_nat, HT.sIx_nat, Nat.min_eq_left hi, Nat.min_eq_left hj]
theorem ok_rnd {f : Addr} {fd : FuncData} (F : Fun K "rounded_letters" "rounded_letters" sRnd f fd) (GS : Cal P w K mg base "shortened_letters" 1 ["letters"] (spShr K)) (T : TxA mg) : FnOk P w K mg base CX0 2 f fd ["letters"] (spRnd K) := by
  refine F.ok scRnd (fun vs H Q E h => ?_) (fun cdv A outer s H vs Q E hr h => ?_)
  · obtain ⟨a, ns, rfl, _⟩ := h
    rfl
  · obtain ⟨a, ns, rfl, hS, hlen, nz, k⟩ := h
    refine ⟨_, pss_cons (ps_set (i := 1) scRnd.nd rfl (Or.inl rfl) (pe_cal GS hr (by decide) (by rfl) (pa_cons (pv 0) pa_nil)))
      (pss_cons (ps_set (i := 2) scRnd.nd rfl (Or.inl rfl) pe_int)
      (pss_cons (ps_while PassesOwn.never (PW.pt (pw_and (pt_cmpR op_lt (pe_op op_mul pe_int (pv 2)) (pe_callB call_len_seq (by rfl) T.len PySem.boot_len (pa_cons (pv 1) pa_nil)) (nomark _))
          (pw_and1 (pt_cmpR op_eq (pe_ix ix_tup (pv 1) (pv 2) (fun _ _ => rfl)) (pe_un un_neg (pe_ix ix_tup (pv 1) (pe_op op_sub (pe_op op_sub (pe_callB call_len_seq (by rfl) T.len PySem.boot_len (pa_cons (pv 1) pa_nil)) pe_int) (pv 2)) (fun _ _ => rfl))) (nomark _)))))
        (pss_one (ps_aug (i := 2) scRnd.nd rfl (Or.inl rfl) pe_int ip_add)))
      (pss_one (ps_ret (pe_slice sl_tupU (pv 1) (po_some (pv 2)) (po_some (pe_op op_sub (pe_callB call_len_seq (by rfl) T.len PySem.boot_len (pa_cons (pv 1) pa_nil)) (pv 2)))))))), ?_⟩
    refine ⟨_, rfl, a, ns, rfl, hS, (by omega), fun p H1 sm hP => ?_⟩
    obtain ⟨u, m, e, c, z⟩ := Fr.parted (Fr.shr ns) nz.shr (Fr.rd_shr ns)
    have er : Fr.rnd ns = m := by
      unfold Fr.rnd
      rw [e, Fr.ends_eq c z]
    rw [er] at k
    have hl := shr_len ns
    rw [e] at hP hl
    rw [whole_len] at hl
    have L : (iv (u ++ m ++ Fr.con u)).length = 2 * u.length + m.length := by rw [List.length_map, whole_len]
    refine ⟨fun n σ H' => ∃ j, n = u.length - j ∧ j ≤ u.length ∧ σ = [some (.ref a), some (.ref p), some (.int ((j : Nat) : Int))] ∧ H' = H1, ⟨_, 0, rfl, Nat.zero_le _, rfl, rfl⟩, ?_⟩
    rintro n σ H' ⟨j, rfl, hj, rfl, rfl⟩
    refine ⟨_, rfl, _, _, rfl, rfl, .inl ⟨by decide, by decide⟩, _, rfl, p, _, rfl, .inr hP, _, _, rfl, rfl, _, rfl, ?_⟩
    have hback : ((iv (u ++ m ++ Fr.con u)).length : Int) - 1 - (j : Int) = ((2 * u.length + m.length - 1 - j : Nat) : Int) ∨ 2 * u.length + m.length = 0 := by
      rw [L]
      by_cases h0 : 2 * u.length + m.length = 0
      · exact .inr h0
      · left; omega
    by_cases hlt : j < u.length
    · refine iteT' (decide_eq_true (by rw [L]; omega)) ?_
      have hb := hback.resolve_right (by omega)
      refine ⟨_, rfl, _, rfl, p, _, _, _, rfl, rfl, hP, atI_nat (iv_get (whole_lo hlt)), ?_⟩
      refine ⟨_, rfl, _, rfl, p, _, rfl, .inr hP, _, _, rfl, rfl, _, rfl, _, _, rfl, rfl, p, _, _, _, rfl, rfl, hP, (by rw [hb]; exact atI_nat (iv_get (whole_hi hlt))), _, rfl, rfl, _, rfl, ?_⟩
      refine iteT' (decide_eq_true (by show V.int _ = V.int (- -_); rw [Int.neg_neg])) ?_
      refine ⟨fun σ' H'' => ∃ j', u.length - (j + 1) = u.length - j' ∧ j' ≤ u.length ∧ σ' = [some (.ref a), some (.ref p), some (.int ((j' : Nat) : Int))] ∧ H'' = H', fun σ' H'' ⟨j', q1, q2, q3, q4⟩ => ⟨_, by omega, j', q1, q2, q3, q4⟩, ?_⟩
      refine ⟨_, rfl, _, _, rfl, rfl, ?_⟩
      exact ⟨j + 1, rfl, hlt, by rfl, rfl⟩
    · have hj2 : j = u.length := by omega
      subst hj2
      have fin : NewT K H' Q (cutV (iv (u ++ m ++ Fr.con u)) (some ((u.length : Nat) : Int)) (some (((iv (u ++ m ++ Fr.con u)).length : Int) - ((u.length : Nat) : Int)))) := by
        have e1 : ((iv (u ++ m ++ Fr.con u)).length : Int) - ((u.length : Nat) : Int) = ((u.length + m.length : Nat) : Int) := by rw [L]; omega
        rw [e1, cut_nat (by rw [L]; omega) (by rw [L]; omega)]
        have e2 : u.length + m.length - u.length = m.length := by omega
        rw [e2]
        have e3 : ((iv (u ++ m ++ Fr.con u)).drop u.length).take m.length = iv m := by
          rw [← List.map_drop, ← List.map_take, whole_cut]
        rw [e3]
        exact fun q H2 s2 h2 => k q H2 (sm.trans s2) h2
      by_cases hm : m = []
      · have hu := z hm
        refine iteF' (decide_eq_false (by rw [L, hm, hu]; simp)) ?_
        refine iteF ?_
        exact ⟨_, rfl, _, rfl, _, rfl, _, rfl, p, _, rfl, .inr hP, _, rfl, _, _, rfl, rfl, _, rfl, p, _, rfl, hP, fin⟩
      · refine iteT' (decide_eq_true (by have := List.length_pos_iff.mpr hm; rw [L]; omega)) ?_
        have hb := hback.resolve_right (by have := List.length_pos_iff.mpr hm; omega)
        obtain ⟨x, hx⟩ : ∃ x, m.head? = some x := by
          cases m with
          | nil => exact absurd rfl hm
          | cons x t => exact ⟨x, rfl⟩
        obtain ⟨y, hy⟩ : ∃ y, m.getLast? = some y := ⟨_, List.getLast?_eq_some_getLast hm⟩
        have lo := (mid_lo (u := u) hm).trans hx
        have hi := (mid_hi (u := u) hm).trans hy
        refine ⟨_, rfl, _, rfl, p, _, _, _, rfl, rfl, hP, atI_nat (iv_get lo), ?_⟩
        refine ⟨_, rfl, _, rfl, p, _, rfl, .inr hP, _, _, rfl, rfl, _, rfl, _, _, rfl, rfl, p, _, _, _, rfl, rfl, hP, (by rw [hb]; exact atI_nat (iv_get hi)), _, rfl, rfl, _, rfl, ?_⟩
        refine iteF' (decide_eq_false fun q => ?_) ?_
        · have q2 : V.int x = V.int (-y) := q
          injection q2 with q3
          exact c.2 x y hx hy q3
        exact ⟨_, rfl, _, rfl, _, rfl, _, rfl, p, _, rfl, .inr hP, _, rfl, _, _, rfl, rfl, _, rfl, p, _, rfl, hP, fin⟩
end
end W29
set_option Elab.async false
set_option linter.all false
set_option maxRecDepth 100000
set_option maxHeartbeats 2000000
namespace W29
open PySem L2 PySem.Spec PyProof.Rows WR WS
abbrev sKinds : Stmt := top 18
theorem pigeon : ∀ (m : Nat) (L : List Int), L.Nodup → (∀ k ∈ L, 1 ≤ k ∧ k ≤ (m : Int)) → L.length ≤ m
  | 0, L, _, h => by
    cases L with
    | nil => simp
    | cons a t =>
      have := h a (by simp)
      omega
  | m + 1, L, nd, h => by
    by_cases hm : ((m + 1 : Nat) : Int) ∈ L
    · have ih := pigeon m (L.erase ((m + 1 : Nat) : Int)) (nd.erase _) fun k hk => by
        have h1 := (nd.mem_erase_iff).mp hk
        have h2 := h k h1.2
        have h3 := h1.1
        omega
      rw [List.length_erase_of_mem hm] at ih
      omega
    · have ih := pigeon m L nd fun k hk => by
        have h2 := h k hk
        have : k ≠ ((m + 1 : Nat) : Int) := fun e => hm (e ▸ hk)
        omega
      omega
theorem sci {w : World} {J : It} {xs : List V} {G : Hp → Prop} (wk : Walk J xs.length G (YAt xs)) {g : TG} {tt : TT} {te : TE} {vs : List Nat} {σ : L2.St} {H1 : Hp} {Q : VK} (v : V → Int)
    (hv : ∀ x ∈ xs, 1 ≤ v x ∧ v x ≤ 26) (hG : ∀ H, Same H1 H → G H)
    (hs : ∀ x, x ∈ xs → ∀ H, Same H1 H → ∀ (Qy : V → Hp → Prop) (Qn : Hp → Prop), Qy (.int (v x)) H →
      g x (wipe σ vs) H fun σ2 H2 => wipe σ2 vs = wipe σ vs ∧ tt σ2 H2 fun b H3 => if b = true then te σ2 H3 Qy else Qn H3)
    (hd : ∀ (D : Addr) (S : Int → Bool) (n : Nat) H', H1 D = none → Same H1 H' → H' D = some (SetO w D S n) → n ≤ 26 → (∀ k, S k = true ↔ ∃ x ∈ xs, k = v x) → Q (.ref D) H') : tSetI w (fun _ H R => R J H) g tt te vs σ H1 Q := by
  intro D hD
  refine ⟨fun i m H => m = xs.length - i ∧ i ≤ xs.length ∧ Same H1 H ∧ ∃ (S : Int → Bool) (L : List Int), H D = some (SetO w D S L.length) ∧ L.Nodup ∧ (∀ k, S k = true ↔ k ∈ L) ∧ ∀ k, k ∈ L ↔ ∃ x ∈ xs.take i, k = v x, ?_, ?_⟩
  · refine ⟨_, rfl, Nat.zero_le _, same_upd hD, fun _ => false, [], by rw [upd_same]; rfl, List.nodup_nil, fun k => by simp, fun k => by simp⟩
  · rintro i m H ⟨rfl, hi, sm, S, L, hS, nd, hL, hm⟩
    have bound : L.length ≤ 26 := pigeon 26 L nd fun k hk => by
      obtain ⟨x, hx, e⟩ := (hm k).mp hk
      have := hv x (List.mem_of_mem_take hx)
      omega
    by_cases hlt : i < xs.length
    · right
      refine ⟨wk.goes i H hlt (hG H sm), fun H' => Same H1 H' ∧ ∃ (S : Int → Bool) (L : List Int), H' D = some (SetO w D S L.length) ∧ L.Nodup ∧ (∀ k, S k = true ↔ k ∈ L) ∧ ∀ k, k ∈ L ↔ ∃ x ∈ xs.take (i + 1), k = v x, ?_, ?_⟩
      · rintro H' ⟨s2, q⟩
        exact ⟨xs.length - (i + 1), by omega, rfl, hlt, s2, q⟩
      · intro x H' hy
        obtain ⟨rfl, hx⟩ := wk.yields i H x H' hlt (hG H sm) hy
        have hmem : x ∈ xs := List.mem_of_getElem? hx
        have et : xs.take (i + 1) = xs.take i ++ [x] := by
          have hx2 : xs[i] = x := (List.getElem?_eq_some_iff.mp hx).2
          rw [List.take_succ_eq_append_getElem hlt, hx2]
        refine hs x hmem H' sm _ _ ?_
        refine ⟨D, v x, S, L.length, rfl, rfl, hS, ?_, ?_⟩
        · have : scanBound = 40000 ∨ 64 < scanBound := by right; decide
          have h64 : 64 < scanBound := by decide
          omega
        refine ⟨fun b o e => by rw [upd_ne (ne_of_none e hD)]; exact sm b o e, fun j => S j || decide (j = v x), if S (v x) = true then L else v x :: L, ?_, ?_, ?_, ?_⟩
        · rw [upd_same]
          by_cases c : S (v x) = true
          · rw [if_pos c, if_pos c]
          · rw [if_neg c, if_neg c]; rfl
        · by_cases c : S (v x) = true
          · rw [if_pos c]; exact nd
          · rw [if_neg c]
            exact List.nodup_cons.mpr ⟨fun h => c ((hL _).mpr h), nd⟩
        · intro k
          rw [Bool.or_eq_true, decide_eq_true_eq]
          by_cases c : S (v x) = true
          · rw [if_pos c, ← hL]
            constructor
            · rintro (h | rfl)
              · exact h
              · exact c
            · exact .inl
          · rw [if_neg c, List.mem_cons, ← hL]
            exact or_comm
        · intro k
          have e : (k ∈ if S (v x) = true then L else v x :: L) ↔ (k = v x ∨ k ∈ L) := by
            by_cases c : S (v x) = true
            · rw [if_pos c]
              constructor
              · exact .inr
              · rintro (rfl | h)
                · exact (hL _).mp c
                · exact h
            · rw [if_neg c, List.mem_cons]
          rw [e, hm, et]
          constructor
          · rintro (rfl | ⟨y, hy, rfl⟩)
            · exact ⟨x, by simp, rfl⟩
            · exact ⟨y, by simp [hy], rfl⟩
          · rintro ⟨y, hy, rfl⟩
            rw [List.mem_append, List.mem_singleton] at hy
            rcases hy with hy | rfl
            · exact .inr ⟨y, hy, rfl⟩
            · exact .inl rfl
    · left
      have hi2 : i = xs.length := by omega
      subst hi2
      rw [List.take_length] at hm
      exact ⟨wk.stops H (hG H sm), hd D S L.length H hD sm hS bound fun k => (hL k).trans (hm k)⟩
def kindsOk (ns ks : List Int) : Prop := ks.Pairwise (· < ·) ∧ ∀ k : Int, k ∈ ks ↔ ∃ x ∈ ns, k = (x.natAbs : Int)
/-- every letter of a kind from 1 to 26 -/
def Lts (ns : List Int) : Prop := ∀ x ∈ ns, 1 ≤ x.natAbs ∧ x.natAbs ≤ 26
def spKinds (K : PySem.W.Frag) : Sp := fun vs H Q _ => ∃ (a : Addr) (ns : List Int), vs = [.ref a] ∧ SqE K H a (iv ns) ∧ ns.length ≤ 1000 ∧ Lts ns ∧ ∀ ks, kindsOk ns ks → NewT K H Q (iv ks)
structure TxB (mg : Str → Option Value) : Prop where
  sorted : mg "sorted" = none
  abs : mg "abs" = none
section
variable {P : Program} {w : World} {K : PySem.W.Frag} {mg : Str → Option Value} {base : Heap}
theorem scKinds : FnScope ["letters", "letter"] ["letters"] (defScope sKinds) := ⟨rfl, rfl, rfl, by decide +kernel, rfl, by decide +kernel, by decide +kernel⟩
theorem ok_kinds {f : Addr} {fd : FuncData} (F : Fun K "kinds_of" "kinds_of" sKinds f fd) (T : TxA mg) (T2 : TxB mg) : FnOk P w K mg base CX0 1 f fd ["letters"] (spKinds K) := by
  refine F.ok scKinds (fun vs H Q E h => ?_) (fun cdv A outer s H vs Q E hr h => ?_)
  · obtain ⟨a, ns, rfl, _⟩ := h
    rfl
  · obtain ⟨a, ns, rfl, hS, hlen, hk, k⟩ := h
    have fin : ∀ (D : Addr) (S : Int → Bool) (n : Nat) H', H D = none → Same H H' → H' D = some (SetO w D S n) → n ≤ 26 → (∀ k, S k = true ↔ ∃ x ∈ iv ns, k = (match x with | .int i => (i.natAbs : Int) | _ => 0)) →
        rSortedSet w [.ref D] H' fun x H2 => ∃ p ys, [x] = [V.ref p] ∧ ((SqL K H2 p ys ∧ ∀ l, H2 l = none → Q (.ref l) (L2.upd H2 l (.tup ys))) ∨ (SqT K H2 p ys ∧ Q (.ref p) H2)) := by
      intro D S n H' hD sm hS hn hm
      refine ⟨D, S, n, rfl, hS, by omega, fun ks p up mem _ hp => ?_⟩
      refine ⟨p, _, rfl, .inl ⟨SqL.of upd_same, fun l hl => ?_⟩⟩
      refine k ks ⟨up, fun j => ?_⟩ l _ ((sm.trans (same_upd hp)).trans (same_upd hl)) (SqT.of upd_same)
      rw [mem, hm]
      constructor
      · rintro ⟨x, hx, e⟩
        obtain ⟨i, hi, rfl⟩ := List.mem_map.mp hx
        exact ⟨i, hi, e⟩
      · rintro ⟨i, hi, e⟩
        exact ⟨_, List.mem_map_of_mem hi, e⟩
    have turn : ∀ x, x ∈ iv ns → ∀ H2, Same H H2 → ∀ (Qy : V → Hp → Prop) (Qn : Hp → Prop), Qy (.int (match x with | .int i => (i.natAbs : Int) | _ => 0)) H2 →
        gName 1 x (wipe [some (.ref a), none] [1]) H2 fun σ2 H2 => wipe σ2 [1] = wipe [some (.ref a), none] [1] ∧ tYes σ2 H2 fun b H3 => if b = true then tCB (fun xs H Q => ∃ i, xs = [.int i] ∧ Q (.int (if i < 0 then -i else i)) H) (tCons (tVar 1) tNil) σ2 H3 Qy else Qn H3 := by
      intro x hx H2 s2 Qy Qn ky
      obtain ⟨i, hi, rfl⟩ := List.mem_map.mp hx
      refine ⟨rfl, yes_te ⟨_, rfl, i, rfl, ?_⟩⟩
      have e : (if i < 0 then -i else i) = (i.natAbs : Int) := by split <;> omega
      rw [e]
      exact ky
    have bd : ∀ x ∈ iv ns, 1 ≤ (match x with | .int i => (i.natAbs : Int) | _ => 0) ∧ (match x with | .int i => (i.natAbs : Int) | _ => 0) ≤ 26 := by
      intro x hx
      obtain ⟨i, hi, rfl⟩ := List.mem_map.mp hx
      have := hk i hi
      show 1 ≤ (i.natAbs : Int) ∧ (i.natAbs : Int) ≤ 26
      omega
    rcases hS with hS | hS
    · refine ⟨_, pss_one (ps_ret (pe_callTy call_tuple_of (by rfl) T.tuple (by decide +kernel) (pa_cons (pe_callB (cr_sortedSet rfl) (by rfl) T2.sorted (by decide +kernel) (pa_cons (pe_setI (own := [("letter", 1)]) (g := gName 1) (tt := tYes) rfl scKinds.nd (pi_list (pv 0))
        (blkOk_by (N := ["letters", "letter"]) (sc := defScope sKinds) (by decide +kernel)) (fun _ _ _ _ _ => pg_name (i := 1) scKinds.nd rfl (Or.inl rfl)) (fun _ _ _ _ _ => pts_nil)
        (fun _ _ _ _ _ => pe_callB call_abs (by rfl) T2.abs (by decide +kernel) (pa_cons (pv 1) pa_nil))) pa_nil)) pa_nil))), ?_⟩
      refine ⟨_, rfl, a, rfl, ⟨_, hS⟩, ?_⟩
      exact sci (walk_list (xs := iv ns)) _ bd (fun H2 s2 => s2.seq hS) turn fin
    · refine ⟨_, pss_one (ps_ret (pe_callTy call_tuple_of (by rfl) T.tuple (by decide +kernel) (pa_cons (pe_callB (cr_sortedSet rfl) (by rfl) T2.sorted (by decide +kernel) (pa_cons (pe_setI (own := [("letter", 1)]) (g := gName 1) (tt := tYes) rfl scKinds.nd (pi_tup (pv 0))
        (blkOk_by (N := ["letters", "letter"]) (sc := defScope sKinds) (by decide +kernel)) (fun _ _ _ _ _ => pg_name (i := 1) scKinds.nd rfl (Or.inl rfl)) (fun _ _ _ _ _ => pts_nil)
        (fun _ _ _ _ _ => pe_callB call_abs (by rfl) T2.abs (by decide +kernel) (pa_cons (pv 1) pa_nil))) pa_nil)) pa_nil))), ?_⟩
      refine ⟨_, rfl, a, rfl, ⟨_, hS⟩, ?_⟩
      exact sci (walk_tup (xs := iv ns)) _ bd (fun H2 s2 => WR.Same.seqT s2 hS) turn fin
end
end W29
set_option Elab.async false
set_option linter.all false
set_option maxRecDepth 100000
set_option maxHeartbeats 2000000
namespace W29
open PySem L2 PySem.Spec PyProof.Rows WR
abbrev sIsInt : Stmt := top 9
abbrev sWithin : Stmt := top 10
abbrev sLetter : Stmt := top 11
abbrev sListed : Stmt := top 12
abbrev sNeedW : Stmt := top 26
abbrev sFew : Stmt := top 27
/-! ### values and their classes -/
inductive Typ (H : Hp) : V → String → Prop
  | int (i : Int) : Typ H (.int i) "int"
  | bl (b : Bool) : Typ H (.bl b) "bool"
  | str (z : Str) : Typ H (.str z) "str"
  | non : Typ H .non "NoneType"
  | lst {p : Addr} {xs : List V} (e : H p = some (.lst xs)) : Typ H (.ref p) "list"
  | tup {p : Addr} {xs : List V} (e : H p = some (.tup xs)) : Typ H (.ref p) "tuple"
  | dct {p : Addr} {kvs : List (Key × V)} (e : H p = some (.dK kvs)) : Typ H (.ref p) "dict"
def isI : V → Bool
  | .int _ => true
  | _ => false
def isB : V → Bool
  | .bl _ => true
  | _ => false
def isS : V → Bool
  | .str _ => true
  | _ => false
theorem Typ.same {H H' : Hp} {x : V} {t : String} (h : Typ H x t) (s : Same H H') : Typ H' x t := by
  cases h with
  | int i => exact .int i
  | bl b => exact .bl b
  | str z => exact .str z
  | non => exact .non
  | lst e => exact .lst (s _ _ e)
  | tup e => exact .tup (s _ _ e)
  | dct e => exact .dct (s _ _ e)
theorem Typ.ty {K : PySem.W.Frag} {H : Hp} {x : V} {t : String} (h : Typ H x t) : TyX K H x (.type t) := by
  cases h with
  | int i => exact .base (.int i)
  | bl b => exact .base (.bl b)
  | str z => exact .base (.str z)
  | non => exact .base .non
  | lst e => exact .base (.lst e)
  | tup e => exact .base (.tup e)
  | dct e => exact .base (.dK e)
theorem Typ.kInt {K : PySem.W.Frag} {H : Hp} {x : V} {t : String} (h : Typ H x t) : PySem.W.kitOne K (.type t) (.type "int") = some (isI x || isB x) := by
  cases h <;> first | exact kit_ty (show kitB _ _ = some true by decide +kernel) | exact kit_ty (show kitB _ _ = some false by decide +kernel)
theorem Typ.kBool {K : PySem.W.Frag} {H : Hp} {x : V} {t : String} (h : Typ H x t) : PySem.W.kitOne K (.type t) (.type "bool") = some (isB x) := by
  cases h <;> first | exact kit_ty (show kitB _ _ = some true by decide +kernel) | exact kit_ty (show kitB _ _ = some false by decide +kernel)
theorem Typ.kStr {K : PySem.W.Frag} {H : Hp} {x : V} {t : String} (h : Typ H x t) : PySem.W.kitOne K (.type t) (.type "str") = some (isS x) := by
  cases h <;> first | exact kit_ty (show kitB _ _ = some true by decide +kernel) | exact kit_ty (show kitB _ _ = some false by decide +kernel)
theorem Typ.kTup {K : PySem.W.Frag} {H : Hp} {x : V} {t : String} (h : Typ H x t) : PySem.W.kitOne K (.type t) (.type "tuple") = some (t == "tuple") := by
  cases h <;> first | exact kit_ty (show kitB _ _ = some true by decide +kernel) | exact kit_ty (show kitB _ _ = some false by decide +kernel)
theorem Typ.kList {K : PySem.W.Frag} {H : Hp} {x : V} {t : String} (h : Typ H x t) : PySem.W.kitOne K (.type t) (.type "list") = some (t == "list") := by
  cases h <;> first | exact kit_ty (show kitB _ _ = some true by decide +kernel) | exact kit_ty (show kitB _ _ = some false by decide +kernel)
theorem Typ.kSeq {K : PySem.W.Frag} {H : Hp} {x : V} {t : String} (h : Typ H x t) : PySem.W.kitAny K (.type t) [.type "list", .type "tuple"] = some (t == "list" || t == "tuple") := by
  refine kitAny_cons h.kList (fun e => ?_) (fun e => by rw [e]; rfl)
  refine kitAny_cons h.kTup (fun e2 => ?_) (fun e2 => by rw [e2]; simp)
  rw [kitAny_nil, e, e2]
  rfl

def spIsInt : Sp := fun vs H Q _ => ∃ (x : V) (t : String), vs = [x] ∧ Typ H x t ∧ Q (.bl (isI x)) H
structure TxI (mg : Str → Option Value) : Prop where
  isin : mg "isinstance" = none
  int : mg "int" = none
  bool : mg "bool" = none
  str : mg "str" = none
  list : mg "list" = none
  tuple : mg "tuple" = none
section
variable {P : Program} {w : World} {K : PySem.W.Frag} {mg : Str → Option Value} {base : Heap}
theorem scIsInt : FnScope ["value"] ["value"] (defScope sIsInt) := ⟨rfl, rfl, rfl, by decide +kernel, rfl, by decide +kernel, by decide +kernel⟩
theorem ok_isInt {f : Addr} {fd : FuncData} (F : Fun K "is_integer" "is_integer" sIsInt f fd) (T : TxI mg) : FnOk P w K mg base CX0 1 f fd ["value"] spIsInt := by
  refine F.ok scIsInt (fun vs H Q E h => ?_) (fun cdv A outer s H vs Q E hr h => ?_)
  · obtain ⟨x, t, rfl, _⟩ := h
    rfl
  · obtain ⟨x, t, rfl, ht, k⟩ := h
    refine ⟨_, pss_one (ps_ret (pe_and (pe_callB call_isi (by rfl) T.isin (by decide +kernel) (pa_cons (pv 0) (pa_cons (pe_bltn (v := .ty "int") (by rfl) T.int (by decide +kernel) rfl) pa_nil)))
      (pe_one (pe_not (pe_callB call_isi (by rfl) T.isin (by decide +kernel) (pa_cons (pv 0) (pa_cons (pe_bltn (v := .ty "bool") (by rfl) T.bool (by decide +kernel) rfl) pa_nil))))))), ?_⟩
    refine ⟨_, rfl, x, _, _, _, _, rfl, .ty _, ht.ty, ht.kInt, _, rfl, ?_⟩
    refine ite2 (fun hi => ?_) (fun hn => ?_)
    · refine ⟨_, rfl, x, _, _, _, _, rfl, .ty _, ht.ty, ht.kBool, _, rfl, ?_⟩
      have e : (!isB x) = isI x := by cases ht <;> first | rfl | exact absurd hi Bool.false_ne_true
      show Q (.bl (!isB x)) H
      rw [e]
      exact k
    · have e : isI x = false := by cases ht <;> first | rfl | exact absurd rfl hn
      show Q (.bl false) H
      rw [← e]
      exact k
end
def Bnd (v : V) : Prop := v = .non ∨ ∃ i, v = .int i
def geB (i : Int) : V → Bool
  | .int a => decide (a ≤ i)
  | _ => true
def leB (i : Int) : V → Bool
  | .int b => decide (i ≤ b)
  | _ => true
def within : V → V → V → Bool
  | .int i, l, m => geB i l && leB i m
  | _, _, _ => false
def spWithin : Sp := fun vs H Q _ => ∃ (x l m : V) (t : String), vs = [x, l, m] ∧ Typ H x t ∧ Bnd l ∧ Bnd m ∧ Q (.bl (within x l m)) H
def letterB : V → Bool
  | .int i => (decide (-26 ≤ i) && decide (i ≤ 26)) && !decide (i = 0)
  | _ => false
def spLetter : Sp := fun vs H Q _ => ∃ (x : V) (t : String), vs = [x] ∧ Typ H x t ∧ Q (.bl (letterB x)) H
def spListed : Sp := fun vs H Q _ => ∃ (x : V) (t : String), vs = [x] ∧ Typ H x t ∧ ∀ H', Same H H' → Q (.bl (t == "list" || t == "tuple")) H'
structure TxC (mg : Str → Option Value) : Prop where
  kind : ∃ t, mg "MOST_KIND" = some (.int 26 t)
  all : mg "all" = none
section
variable {P : Program} {w : World} {K : PySem.W.Frag} {mg : Str → Option Value} {base : Heap}
theorem scWithin : FnScope ["value", "least", "most"] ["value", "least", "most"] (defScope sWithin) := ⟨rfl, rfl, rfl, by decide +kernel, rfl, by decide +kernel, by decide +kernel⟩
theorem ok_within {f : Addr} {fd : FuncData} (F : Fun K "is_within" "is_within" sWithin f fd) (GI : Cal P w K mg base "is_integer" 1 ["value"] spIsInt) : FnOk P w K mg base CX0 2 f fd ["value", "least", "most"] spWithin := by
  refine F.ok scWithin (fun vs H Q E h => ?_) (fun cdv A outer s H vs Q E hr h => ?_)
  · obtain ⟨x, l, m, t, rfl, _⟩ := h
    rfl
  · obtain ⟨x, l, m, t, rfl, ht, hl, hm, k⟩ := h
    refine ⟨_, pss_cons (ps_if (pt_not (pt_val (pe_cal GI hr (by decide) (by rfl) (pa_cons (pv 0) pa_nil)))) (pss_one (ps_ret pe_bl)) pss_nil)
      (pss_one (ps_ret (pe_and (pe_or (pe_cmpR op_isN (pv 1) pe_non (nomark _)) (pe_one (pe_cmpR op_ge (pv 0) (pv 1) (nomark _)))) (pe_one (pe_or (pe_cmpR op_isN (pv 2) pe_non (nomark _)) (pe_one (pe_cmpR op_le (pv 0) (pv 2) (nomark _)))))))), ?_⟩
    refine ⟨_, rfl, x, t, rfl, ht, _, rfl, ?_⟩
    refine ite2 (fun hn => ?_) (fun hi => ?_)
    · have e : within x l m = false := by cases ht <;> first | rfl | exact absurd hn Bool.false_ne_true
      rw [e] at k
      exact k
    · obtain ⟨i, rfl⟩ : ∃ i, x = .int i := by cases ht <;> first | exact ⟨_, rfl⟩ | exact absurd rfl hi
      -- the second half, whatever the first one says
      have half : ∀ H1 : Hp, H1 = H → ∀ Q1 : VK, Q1 (.bl (leB i m)) H1 → tOrV (tOp (fun x y H Q => y = .non ∧ Q (.bl (decide (x = .non))) H) (tVar 2) (tC .non)) (tOp (rI0 fun i j => .bl (decide (i ≤ j))) (tVar 0) (tVar 2)) [some (.int i), some l, some m] H1 Q1 := by
        intro H1 _ Q1 q
        rcases hm with rfl | ⟨b, rfl⟩
        · exact ⟨_, rfl, rfl, _, rfl, iteT q⟩
        · exact ⟨_, rfl, rfl, _, rfl, iteF ⟨_, rfl, _, rfl, _, _, rfl, rfl, q⟩⟩
      rcases hl with rfl | ⟨a, rfl⟩
      · refine ⟨_, rfl, rfl, _, rfl, iteT ⟨_, rfl, iteT (half H rfl _ ?_)⟩⟩
        exact k
      · refine ⟨_, rfl, rfl, _, rfl, iteF ⟨_, rfl, _, rfl, _, _, rfl, rfl, _, rfl, ?_⟩⟩
        refine ite2 (fun hg => half H rfl _ ?_) (fun hg => ?_)
        · have e : within (.int i) (.int a) m = leB i m := by
            show (decide (a ≤ i) && leB i m) = leB i m
            rw [hg]
            rfl
          rw [e] at k
          exact k
        · have e : within (.int i) (.int a) m = false := by
            show (decide (a ≤ i) && leB i m) = false
            rw [Bool.eq_false_iff.mpr hg]
            rfl
          rw [e] at k
          exact k
theorem scLetter : FnScope ["value"] ["value"] (defScope sLetter) := ⟨rfl, rfl, rfl, by decide +kernel, rfl, by decide +kernel, by decide +kernel⟩
theorem ok_letter {f : Addr} {fd : FuncData} (F : Fun K "is_letter" "is_letter" sLetter f fd) (GW : Cal P w K mg base "is_within" 2 ["value", "least", "most"] spWithin) (T : TxC mg) : FnOk P w K mg base CX0 3 f fd ["value"] spLetter := by
  refine F.ok scLetter (fun vs H Q E h => ?_) (fun cdv A outer s H vs Q E hr h => ?_)
  · obtain ⟨x, t, rfl, _⟩ := h
    rfl
  · obtain ⟨x, t, rfl, ht, k⟩ := h
    obtain ⟨tk, mK⟩ := T.kind
    refine ⟨_, pss_one (ps_ret (pe_and (pe_cal GW hr (by decide) (by rfl) (pa_cons (pv 0) (pa_cons (pe_un un_neg (pe_glob (v := .int 26) (by rfl) mK ⟨_, rfl⟩)) (pa_cons (pe_glob (v := .int 26) (by rfl) mK ⟨_, rfl⟩) pa_nil)))) (pe_one (pe_cmpR op_ne (pv 0) pe_int (nomark _))))), ?_⟩
    refine ⟨_, rfl, _, rfl, x, _, _, t, rfl, ht, .inr ⟨_, rfl⟩, .inr ⟨_, rfl⟩, _, rfl, ?_⟩
    refine ite2 (fun hi => ?_) (fun hn => ?_)
    · obtain ⟨i, rfl⟩ : ∃ i, x = .int i := by cases ht <;> first | exact ⟨_, rfl⟩ | exact absurd hi Bool.false_ne_true
      refine ⟨_, rfl, rfl, ?_⟩
      have e : letterB (.int i) = !decide (V.int i = V.int 0) := by
        have h2 : (decide (-26 ≤ i) && decide (i ≤ 26)) = true := hi
        show ((decide (-26 ≤ i) && decide (i ≤ 26)) && !decide (i = 0)) = _
        rw [h2, Bool.true_and]
        congr 1
        by_cases h0 : i = 0
        · subst h0; rfl
        · rw [decide_eq_false h0, decide_eq_false (fun q => h0 (by injection q))]
      rw [e] at k
      exact k
    · have e : letterB x = false := by
        cases ht with
        | int i =>
          have h2 : (decide (-26 ≤ i) && decide (i ≤ 26)) = false := Bool.eq_false_iff.mpr hn
          show ((decide (-26 ≤ i) && decide (i ≤ 26)) && !decide (i = 0)) = false
          rw [h2]
          rfl
        | _ => rfl
      rw [e] at k
      exact k
theorem scListed : FnScope ["value"] ["value"] (defScope sListed) := ⟨rfl, rfl, rfl, by decide +kernel, rfl, by decide +kernel, by decide +kernel⟩
theorem ok_listed {f : Addr} {fd : FuncData} (F : Fun K "is_listed" "is_listed" sListed f fd) (T : TxI mg) : FnOk P w K mg base CX0 1 f fd ["value"] spListed := by
  refine F.ok scListed (fun vs H Q E h => ?_) (fun cdv A outer s H vs Q E hr h => ?_)
  · obtain ⟨x, t, rfl, _⟩ := h
    rfl
  · obtain ⟨x, t, rfl, ht, k⟩ := h
    refine ⟨_, pss_one (ps_ret (pe_callB call_isiT (by rfl) T.isin (by decide +kernel) (pa_cons (pv 0) (pa_cons (pe_tup (pa_cons (pe_bltn (v := .ty "list") (by rfl) T.list (by decide +kernel) rfl) (pa_cons (pe_bltn (v := .ty "tuple") (by rfl) T.tuple (by decide +kernel) rfl) pa_nil))) pa_nil)))), ?_⟩
    refine ⟨_, rfl, (by show 2 ≤ sizeLine; decide), fun p hp => ?_⟩
    have sm : Same H (upd H p (.tup [.ty "list", .ty "tuple"])) := fun b o e => by rw [upd_ne (ne_of_none e hp)]; exact e
    exact ⟨x, p, _, _, _, _, rfl, upd_same, .cons (.ty _) (.cons (.ty _) .nil), (ht.same sm).ty, (ht.same sm).kSeq, k _ sm⟩
end
end W29
set_option Elab.async false
set_option linter.all false
set_option maxRecDepth 100000
set_option maxHeartbeats 2000000
namespace W29
open PySem L2 PySem.Spec PyProof.Rows WR
abbrev sInit : Stmt := inClass (top 29) 0
theorem SqL.tyx {K : PySem.W.Frag} {H : Hp} {a : Addr} {xs : List V} (h : SqL K H a xs) : TyX K H (.ref a) (.type "list") := by
  rcases h with h | ⟨o, its, n, e, c, _⟩
  · rcases h with h | ⟨o, h⟩
    · exact .base (.lst h)
    · exact .base (.frz h)
  · exact .kList e c
theorem SqT.tyx {K : PySem.W.Frag} {H : Hp} {a : Addr} {xs : List V} (h : SqT K H a xs) : TyX K H (.ref a) (.type "tuple") := by
  rcases h with h | ⟨o, its, n, e, c, _⟩
  · rcases h with h | ⟨o, h⟩
    · exact .base (.tup h)
    · exact .fTuple h
  · exact .kTuple e c
def spListE (K : PySem.W.Frag) : Sp := fun vs H Q _ => ∃ (a : Addr) (xs : List V), vs = [.ref a] ∧ SqE K H a xs ∧ ∀ H', Same H H' → Q (.bl true) H'
def spFew : Sp := fun vs H Q _ => ∃ n : Int, vs = [.int n] ∧ n ≤ 500 ∧ Q .non H
structure TxW (K : PySem.W.Frag) (mg : Str → Option Value) (C : Addr) : Prop where
  cl : Cls K C
  nL : NoAttr K C "letters"
  nN : NoAttr K C "length"
  nK : NoAttr K C "kinds"
  nS : NoAttr K C "is_short"
  nR : NoAttr K C "is_short_round"
  ca : PySem.W.findIn K (.ref C) "__class__" = some (some (.builtin "object.__class__"))
  cn : PySem.W.specialIn K (.builtin "object.__class__") "__get__" = some (some (.builtin "getset_descriptor.__get__"))
  ct : PySem.W.takesIn K (.builtin "object.__class__") = some true
  cm : PySem.W.mroIn K C (.type "object") = some true
  mgW : mg "Word" = some (.ref C)
  most : ∃ t, mg "MOST_LETTERS" = some (.int 500 t)
  isin : mg "isinstance" = none
  all : mg "all" = none
/-! ### a word -/
def wf (tl : Addr) (n : Nat) (tk : Addr) (b1 b2 : Bool) : List (Str × V) := [("letters", .ref tl), ("length", .int (n : Int)), ("kinds", .ref tk), ("is_short", .bl b1), ("is_short_round", .bl b2)]
theorem ne1 : ¬ (("letters" : Str) = "length") := by decide +kernel
theorem ne2 : ¬ (("letters" : Str) = "kinds") := by decide +kernel
theorem ne3 : ¬ (("letters" : Str) = "is_short") := by decide +kernel
theorem ne4 : ¬ (("letters" : Str) = "is_short_round") := by decide +kernel
theorem ne5 : ¬ (("length" : Str) = "kinds") := by decide +kernel
theorem ne6 : ¬ (("length" : Str) = "is_short") := by decide +kernel
theorem ne7 : ¬ (("length" : Str) = "is_short_round") := by decide +kernel
theorem ne8 : ¬ (("kinds" : Str) = "is_short") := by decide +kernel
theorem ne9 : ¬ (("kinds" : Str) = "is_short_round") := by decide +kernel
theorem ne10 : ¬ (("is_short" : Str) = "is_short_round") := by decide +kernel
theorem lk_eq {k : Str} {v : V} {t : List (Str × V)} : List.lookup k ((k, v) :: t) = some v := by
  rw [List.lookup_cons, beq_self_eq_true k]
theorem lk_ne {k g : Str} {v : V} {t : List (Str × V)} (h : ¬ k = g) : List.lookup k ((g, v) :: t) = List.lookup k t := by
  rw [List.lookup_cons, show (k == g) = false from beq_eq_false_iff_ne.mpr h]
theorem pf_ne {k g : Str} {v x : V} {t : List (Str × V)} (h : ¬ g = k) : putF k v ((g, x) :: t) = (g, x) :: putF k v t := by
  show (if g = k then _ else _) = _
  rw [if_neg h]
theorem wf_letters {tl tk n b1 b2} : (wf tl n tk b1 b2).lookup ("letters" : Str) = some (.ref tl) := lk_eq
theorem wf_length {tl tk n b1 b2} : (wf tl n tk b1 b2).lookup ("length" : Str) = some (.int (n : Int)) := by
  unfold wf
  rw [lk_ne fun e => ne1 e.symm, lk_eq]
theorem wf_kinds {tl tk n b1 b2} : (wf tl n tk b1 b2).lookup ("kinds" : Str) = some (.ref tk) := by
  unfold wf
  rw [lk_ne fun e => ne2 e.symm, lk_ne fun e => ne5 e.symm, lk_eq]
theorem wf_short {tl tk n b1 b2} : (wf tl n tk b1 b2).lookup ("is_short" : Str) = some (.bl b1) := by
  unfold wf
  rw [lk_ne fun e => ne3 e.symm, lk_ne fun e => ne6 e.symm, lk_ne fun e => ne8 e.symm, lk_eq]
theorem wf_round {tl tk n b1 b2} : (wf tl n tk b1 b2).lookup ("is_short_round" : Str) = some (.bl b2) := by
  unfold wf
  rw [lk_ne fun e => ne4 e.symm, lk_ne fun e => ne7 e.symm, lk_ne fun e => ne9 e.symm, lk_ne fun e => ne10 e.symm, lk_eq]
theorem wf_no {tl tk n b1 b2} {m : Str} (h1 : ¬ m = "letters") (h2 : ¬ m = "length") (h3 : ¬ m = "kinds") (h4 : ¬ m = "is_short") (h5 : ¬ m = "is_short_round") : (wf tl n tk b1 b2).lookup m = none := by
  unfold wf
  rw [lk_ne h1, lk_ne h2, lk_ne h3, lk_ne h4, lk_ne h5]
  rfl
def WordAt (K : PySem.W.Frag) (C : Addr) (H : Hp) (p : Addr) (ns : List Int) : Prop :=
  ∃ (dx tl tk : Addr) (ks : List Int), H p = some (.ins C dx (wf tl ns.length tk (decide (Fr.shr ns = ns)) (decide (Fr.rnd ns = ns)))) ∧ SqT K H tl (iv ns) ∧ SqT K H tk (iv ks) ∧ kindsOk ns ks
theorem WordAt.same {K : PySem.W.Frag} {C : Addr} {H H' : Hp} {p : Addr} {ns : List Int} (h : WordAt K C H p ns) (s : Same H H') : WordAt K C H' p ns := by
  obtain ⟨dx, tl, tk, ks, h1, h2, h3, h4⟩ := h
  exact ⟨dx, tl, tk, ks, s _ _ h1, WR.Same.seqT s h2, WR.Same.seqT s h3, h4⟩
theorem Lts.nz {ns : List Int} (h : Lts ns) : Fr.NZ ns := fun a ha => by
  have := h a ha
  omega
def spInit (K : PySem.W.Frag) (C : Addr) : Sp := fun vs H Q _ => ∃ (H0 : Hp) (p dx a : Addr) (ns : List Int), vs = [.ref p, .ref a] ∧ Same H0 H ∧ H0 p = none ∧ H p = some (.ins C dx []) ∧ SqE K H0 a (iv ns) ∧ ns.length ≤ 500 ∧ Lts ns ∧
  ∀ H', Same H0 H' → WordAt K C H' p ns → Q .non H'
/-! ### tuples of ints held against one another -/
theorem dp_iv {K : PySem.W.Frag} {H : Hp} : ∀ ns : List Int, DpAll K H (iv ns) (ns.map PyData.int)
  | [] => .nil
  | n :: r => .cons (.int n) (dp_iv r)
theorem eqvAll_ints : ∀ ns ms : List Int, PyData.eqvAll (ns.map PyData.int) (ms.map PyData.int) = decide (ns = ms)
  | [], [] => rfl
  | [], b :: r => rfl
  | a :: r, [] => rfl
  | a :: r, b :: q => by
    have ih := eqvAll_ints r q
    show (PyData.eqv (.int a) (.int b) && PyData.eqvAll (r.map PyData.int) (q.map PyData.int)) = _
    rw [ih]
    have : PyData.eqv (.int a) (.int b) = decide (a = b) := by
      simp only [PyData.eqv]
      exact Bool.eq_iff_iff.mpr (by simp)
    rw [this]
    by_cases e1 : a = b <;> by_cases e2 : r = q <;> simp [e1, e2]
theorem eqv_ints (ns ms : List Int) : PyData.eqv (.tuple (ns.map .int)) (.tuple (ms.map .int)) = decide (ns = ms) := by
  show PyData.eqvAll _ _ = _
  exact eqvAll_ints ns ms
theorem lay_ints : ∀ ns : List Int, PyData.canLayAll0 (ns.map PyData.int) = true ∧ PyData.depthAll (ns.map PyData.int) = 0
  | [] => ⟨rfl, rfl⟩
  | n :: r => by
    obtain ⟨h1, h2⟩ := lay_ints r
    exact ⟨by simp [PyData.canLayAll0, PyData.canLay0, h1], by simp [PyData.depthAll, PyData.depth, h2]⟩
theorem shaped_ints (ns : List Int) : SeqAt.shaped (.tuple (ns.map .int)) = true := by
  obtain ⟨h1, h2⟩ := lay_ints ns
  simp [SeqAt.shaped, PyData.canLay0, PyData.depth, h1, h2]
section
variable {P : Program} {w : World} {K : PySem.W.Frag} {mg : Str → Option Value} {base : Heap}
theorem ok_listE {f : Addr} {fd : FuncData} (F : Fun K "is_listed" "is_listed" sListed f fd) (T : TxI mg) : FnOk P w K mg base CX0 1 f fd ["value"] (spListE K) := by
  refine F.ok scListed (fun vs H Q E h => ?_) (fun cdv A outer s H vs Q E hr h => ?_)
  · obtain ⟨a, xs, rfl, _⟩ := h
    rfl
  · obtain ⟨a, xs, rfl, hS, k⟩ := h
    refine ⟨_, pss_one (ps_ret (pe_callB call_isiT (by rfl) T.isin (by decide +kernel) (pa_cons (pv 0) (pa_cons (pe_tup (pa_cons (pe_bltn (v := .ty "list") (by rfl) T.list (by decide +kernel) rfl) (pa_cons (pe_bltn (v := .ty "tuple") (by rfl) T.tuple (by decide +kernel) rfl) pa_nil))) pa_nil)))), ?_⟩
    refine ⟨_, rfl, (by show 2 ≤ sizeLine; decide), fun p hp => ?_⟩
    have sm : Same H (upd H p (.tup [.ty "list", .ty "tuple"])) := same_upd hp
    rcases hS.same sm with hS | hS
    · exact ⟨_, p, _, _, _, _, rfl, upd_same, .cons (.ty _) (.cons (.ty _) .nil), SqL.tyx hS, (by rfl), k _ sm⟩
    · exact ⟨_, p, _, _, _, _, rfl, upd_same, .cons (.ty _) (.cons (.ty _) .nil), SqT.tyx hS, (Typ.tup (H := fun _ => some (.tup [])) (p := a) (xs := []) rfl).kSeq, k _ sm⟩
theorem scFew : FnScope ["many"] ["many"] (defScope sFew) := ⟨rfl, rfl, rfl, by decide +kernel, rfl, by decide +kernel, by decide +kernel⟩
theorem ok_few {C : Addr} {f : Addr} {fd : FuncData} (F : Fun K "need_few_letters" "need_few_letters" sFew f fd) (T : TxW K mg C) : FnOk P w K mg base CX0 1 f fd ["many"] spFew := by
  refine F.ok scFew (fun vs H Q E h => ?_) (fun cdv A outer s H vs Q E hr h => ?_)
  · obtain ⟨n, rfl, _⟩ := h
    rfl
  · obtain ⟨n, rfl, hn, k⟩ := h
    obtain ⟨tk, mM⟩ := T.most
    refine ⟨_, pss_one (ps_if (pt_cmpR op_gt (pv 0) (pe_glob (v := .int 500) (by rfl) mM ⟨_, rfl⟩) (nomark _)) (pss_one ps_never) pss_nil), ?_⟩
    refine ⟨_, rfl, _, _, rfl, rfl, _, rfl, ?_⟩
    exact iteF' (decide_eq_false (by omega)) k
end
end W29
set_option Elab.async false
set_option linter.all false
set_option maxRecDepth 100000
set_option maxHeartbeats 2000000
namespace W29
open PySem L2 PySem.Spec PyProof.Rows WR
theorem SqT.put {K : PySem.W.Frag} {H : Hp} {a p C dx : Addr} {fs : List (Str × V)} {o : HO} {xs : List V} (h : SqT K H a xs) (hp : H p = some (.ins C dx fs)) : SqT K (L2.upd H p o) a xs := by
  rcases h with h | h
  · left
    have ne : ∀ u, H a = some u → (∀ C dx fs, u ≠ .ins C dx fs) → a ≠ p := fun u e q z => by
      rw [z, hp] at e
      exact q _ _ _ (Option.some.inj e).symm
    rcases h with h | ⟨o', h⟩
    · exact .inl (by rw [upd_ne (ne _ h fun _ _ _ => by intro z; cases z)]; exact h)
    · exact .inr ⟨o', by rw [upd_ne (ne _ h fun _ _ _ => by intro z; cases z)]; exact h⟩
  · exact .inr h
theorem same_put {H0 H : Hp} {p : Addr} {o : HO} (s : Same H0 H) (hp : H0 p = none) : Same H0 (L2.upd H p o) := fun b u e => by
  have : b ≠ p := fun z => by rw [z, hp] at e; cases e
  rw [upd_ne this]
  exact s _ _ e
theorem letter_ok {i : Int} (h : 1 ≤ i.natAbs ∧ i.natAbs ≤ 26) : letterB (.int i) = true := by
  show ((decide (-26 ≤ i) && decide (i ≤ 26)) && !decide (i = 0)) = true
  rw [decide_eq_true (by omega), decide_eq_true (by omega), decide_eq_false (by omega)]
  rfl
theorem all_ok {ns : List Int} (h : Lts ns) : ((ns.map fun i => letterB (.int i)).all id) = true := by
  rw [List.all_eq_true]
  intro b hb
  obtain ⟨i, hi, rfl⟩ := List.mem_map.mp hb
  exact letter_ok (h i hi)
theorem bl_of {b c : Bool} (h : b = c) : V.bl b = V.bl c := by rw [h]
theorem kindsOk_ex (ns : List Int) : True := trivial
theorem not_lc {r : List V → Hp → VK → Prop} {wi : TI} {g : TG} {tt : TT} {te : TE} {vs : List Nat} {σ : L2.St} {H : Hp} {Q : Bool → Hp → Prop}
    (h : wi σ H fun J H1 => tLc (fun _ H R => R J H) g tt te vs σ H1 fun x H2 => r [x] H2 fun v H3 => ∃ c, v = .bl c ∧ Q (!c) H3) :
    tNot (fun σ H Q => tCB r (tCons (tLc wi g tt te vs) tNil) σ H fun x H1 => ∃ c, x = .bl c ∧ Q c H1) σ H Q := h
abbrev nInit : List Str := ["self", "letters", "letter"]
section
variable {P : Program} {w : World} {K : PySem.W.Frag} {mg : Str → Option Value} {base : Heap}
theorem scInit : FnScope nInit ["self", "letters"] (defScope sInit) := ⟨rfl, rfl, rfl, by decide +kernel, rfl, by decide +kernel, by decide +kernel⟩
theorem ok_init {C f : Addr} {fd : FuncData} (F : Fun K "__init__" "Word.__init__" sInit f fd) (T : TxW K mg C) (TA : TxA mg) (GL : Cal P w K mg base "is_listed" 1 ["value"] (spListE K)) (GX : Cal P w K mg base "is_letter" 3 ["value"] spLetter)
    (GF : Cal P w K mg base "need_few_letters" 1 ["many"] spFew) (GK : Cal P w K mg base "kinds_of" 1 ["letters"] (spKinds K)) (GS : Cal P w K mg base "shortened_letters" 1 ["letters"] (spShr K)) (GR : Cal P w K mg base "rounded_letters" 2 ["letters"] (spRnd K)) :
    FnOk P w K mg base CX0 4 f fd ["self", "letters"] (spInit K C) := by
  refine F.ok scInit (fun vs H Q E h => ?_) (fun cdv A outer s H vs Q E hr h => ?_)
  · obtain ⟨H0, p, dx, a, ns, rfl, _⟩ := h
    rfl
  · obtain ⟨H0, p, dx, a, ns, rfl, s0, p0, hp, hS, hlen, hl, k⟩ := h
    rcases hS with hS | hS
    · refine ⟨_, pss_cons (ps_if (PW.pt (pw_or (pt_not (pt_val (pe_cal GL hr (by decide) (by rfl) (pa_cons (pv 1) pa_nil)))) (pw_or1 (pt_not (pt_val (pe_callB (cr_all rfl) (by rfl) T.all (by decide +kernel) (pa_cons (pe_lc (own := [("letter", 2)]) (g := gName 2) (tt := tYes) rfl scInit.nd (pi_list (pv 1))
          (blkOk_by (N := nInit) (sc := defScope sInit) (by decide +kernel)) (fun _ _ _ _ _ => pg_name (i := 2) scInit.nd rfl (Or.inl rfl)) (fun _ _ _ _ _ => pts_nil)
          (fun _ _ _ _ _ => pe_cal GX hr (by decide) (by rfl) (pa_cons (pv 2) pa_nil))) pa_nil))))))) (pss_one ps_never) pss_nil)
        (pss_cons (ps_expr (pe_cal GF hr (by decide) (by rfl) (pa_cons (pe_callB call_len_seq (by rfl) TA.len PySem.boot_len (pa_cons (pv 1) pa_nil)) pa_nil)))
        (pss_cons (ps_fld (pv 0) (pe_callTy call_tuple_of (by rfl) TA.tuple (by decide +kernel) (pa_cons (pv 1) pa_nil)) rfl)
        (pss_cons (ps_fld (pv 0) (pe_callB call_len_seq (by rfl) TA.len PySem.boot_len (pa_cons (pv 1) pa_nil)) rfl)
        (pss_cons (ps_fld (pv 0) (pe_cal GK hr (by decide) (by rfl) (pa_cons (pv 1) pa_nil)) rfl)
        (pss_cons (ps_fld (pv 0) (pe_cmpR (op_eqD hr.units) (pe_cal GS hr (by decide) (by rfl) (pa_cons (pv 1) pa_nil)) (pe_fld (pv 0) rfl) (nomark _)) rfl)
        (pss_one (ps_fld (pv 0) (pe_cmpR (op_eqD hr.units) (pe_cal GR hr (by decide) (by rfl) (pa_cons (pv 1) pa_nil)) (pe_fld (pv 0) rfl) (nomark _)) rfl))))))), ?_⟩
      have E0 : SqE K H0 a (iv ns) := .inl hS
      refine ⟨_, rfl, a, _, rfl, E0.same s0, fun H1 s1 => ⟨_, rfl, ?_⟩⟩
      have s01 := s0.trans s1
      refine iteF ?_
      refine not_lc ?_
      refine ⟨_, rfl, a, rfl, ⟨_, (s01.seq hS)⟩, ?_⟩
      refine lcp (walk_list (xs := iv ns)) (fun _ => true) (fun x => .bl (letterB x)) (by simp; omega) (fun H2 s2 => (s01.trans s2).seq hS) ?_ ?_
      · intro x hx H2 s2 Qy Qn ky kn
        obtain ⟨i, hi, rfl⟩ := List.mem_map.mp hx
        exact ⟨rfl, yes_te ⟨_, rfl, .int i, _, rfl, .int i, ky rfl H2 (fun _ _ e => e)⟩⟩
      intro D H2 hD s2 h2
      have s02 := s01.trans s2
      refine ⟨D, ns.map fun i => letterB (.int i), rfl, SqL.of (by
        rw [h2, List.filter_eq_self.mpr (fun _ _ => rfl), List.map_map, List.map_map]
        rfl), ?_⟩
      rw [all_ok hl]
      refine ⟨_, rfl, iteF ?_⟩
      -- not too many
      refine ⟨_, rfl, a, _, rfl, E0.same s02, ((iv ns).length : Int), rfl, by rw [List.length_map]; omega, ?_⟩
      have hp2 : H2 p = some (.ins C dx []) := s2 _ _ (s1 _ _ hp)
      -- its letters
      refine ⟨_, rfl, a, _, rfl, .inl ⟨s02.seq hS, fun tl htl => ?_⟩⟩
      have s3 := s02.trans (same_upd (o := .tup (iv ns)) htl)
      have hp3 : L2.upd H2 tl (.tup (iv ns)) p = some (.ins C dx []) := by rw [upd_ne (ne_of_none hp2 htl)]; exact hp2
      have t3 : SqT K (L2.upd H2 tl (.tup (iv ns))) tl (iv ns) := SqT.of upd_same
      refine gen_heap fun H3 e3 => ?_
      rw [← e3] at s3 hp3 t3
      refine ⟨_, rfl, p, C, dx, _, rfl, hp3, T.cl, T.nL, (by show 0 < 1000; decide), ?_⟩
      have hp4 : L2.upd H3 p (.ins C dx (putF "letters" (.ref tl) [])) p = some (.ins C dx [("letters", .ref tl)]) := by rw [upd_same]; rfl
      have s4 := same_put (o := .ins C dx (putF "letters" (.ref tl) [])) s3 p0
      have t4 := SqT.put (o := .ins C dx (putF "letters" (.ref tl) [])) t3 hp3
      refine gen_heap fun H4 e4 => ?_
      rw [← e4] at hp4 s4 t4
      -- how many
      refine ⟨_, rfl, a, _, rfl, E0.same s4, _, rfl, p, C, dx, _, rfl, hp4, T.cl, T.nN, (by show 1 < 1000; decide), ?_⟩
      have hp5 : L2.upd H4 p (.ins C dx (putF "length" (.int ((iv ns).length : Nat)) [("letters", .ref tl)])) p = some (.ins C dx [("letters", .ref tl), ("length", .int (ns.length : Nat))]) := by
        rw [upd_same, pf_ne ne1, List.length_map]
        rfl
      have s5 := same_put (o := .ins C dx (putF "length" (.int ((iv ns).length : Nat)) [("letters", .ref tl)])) s4 p0
      have t5 := SqT.put (o := .ins C dx (putF "length" (.int ((iv ns).length : Nat)) [("letters", .ref tl)])) t4 hp4
      refine gen_heap fun H5 e5 => ?_
      rw [← e5] at hp5 s5 t5
      -- its kinds
      refine ⟨_, rfl, a, ns, rfl, E0.same s5, by omega, hl, fun ks hk tk H6 s6 tk6 => ?_⟩
      have hp6 := s6 _ _ hp5
      have s06 := s5.trans s6
      have t6 := WR.Same.seqT s6 t5
      refine ⟨_, rfl, p, C, dx, _, rfl, hp6, T.cl, T.nK, (by show 2 < 1000; decide), ?_⟩
      have hp7 : L2.upd H6 p (.ins C dx (putF "kinds" (.ref tk) [("letters", .ref tl), ("length", .int (ns.length : Nat))])) p = some (.ins C dx [("letters", .ref tl), ("length", .int (ns.length : Nat)), ("kinds", .ref tk)]) := by
        rw [upd_same, pf_ne ne2, pf_ne ne5]
        rfl
      have s7 := same_put (o := .ins C dx (putF "kinds" (.ref tk) [("letters", .ref tl), ("length", .int (ns.length : Nat))])) s06 p0
      have t7 := SqT.put (o := .ins C dx (putF "kinds" (.ref tk) [("letters", .ref tl), ("length", .int (ns.length : Nat))])) t6 hp6
      have k7 := SqT.put (o := .ins C dx (putF "kinds" (.ref tk) [("letters", .ref tl), ("length", .int (ns.length : Nat))])) tk6 hp6
      refine gen_heap fun H7 e7 => ?_
      rw [← e7] at hp7 s7 t7 k7
      -- short
      refine ⟨_, rfl, a, ns, rfl, E0.same s7, by omega, fun q H8 s8 q8 => ?_⟩
      have hp8 := s8 _ _ hp7
      have s08 := s7.trans s8
      have t8 := WR.Same.seqT s8 t7
      have k8 := WR.Same.seqT s8 k7
      refine ⟨_, rfl, p, C, dx, _, _, rfl, hp8, T.cl, T.nL, lk_eq, ?_⟩
      refine ⟨_, _, .tup q8 (dp_iv _), .tup t8 (dp_iv _), shaped_ints _, shaped_ints _, ?_⟩
      rw [eqv_ints]
      refine ⟨_, rfl, p, C, dx, _, rfl, hp8, T.cl, T.nS, (by show 3 < 1000; decide), ?_⟩
      have hp9 : L2.upd H8 p (.ins C dx (putF "is_short" (.bl (decide (Fr.shr ns = ns))) [("letters", .ref tl), ("length", .int (ns.length : Nat)), ("kinds", .ref tk)])) p = some (.ins C dx [("letters", .ref tl), ("length", .int (ns.length : Nat)), ("kinds", .ref tk), ("is_short", .bl (decide (Fr.shr ns = ns)))]) := by
        rw [upd_same, pf_ne ne3, pf_ne ne6, pf_ne ne8]
        rfl
      have s9 := same_put (o := .ins C dx (putF "is_short" (.bl (decide (Fr.shr ns = ns))) [("letters", .ref tl), ("length", .int (ns.length : Nat)), ("kinds", .ref tk)])) s08 p0
      have t9 := SqT.put (o := .ins C dx (putF "is_short" (.bl (decide (Fr.shr ns = ns))) [("letters", .ref tl), ("length", .int (ns.length : Nat)), ("kinds", .ref tk)])) t8 hp8
      have k9 := SqT.put (o := .ins C dx (putF "is_short" (.bl (decide (Fr.shr ns = ns))) [("letters", .ref tl), ("length", .int (ns.length : Nat)), ("kinds", .ref tk)])) k8 hp8
      refine gen_heap fun H9 e9 => ?_
      rw [← e9] at hp9 s9 t9 k9
      -- short round
      refine ⟨_, rfl, a, ns, rfl, E0.same s9, by omega, hl.nz, fun q2 Ha sa qa => ?_⟩
      have hpa := sa _ _ hp9
      have s0a := s9.trans sa
      have ta := WR.Same.seqT sa t9
      have ka := WR.Same.seqT sa k9
      refine ⟨_, rfl, p, C, dx, _, _, rfl, hpa, T.cl, T.nL, lk_eq, ?_⟩
      refine ⟨_, _, .tup qa (dp_iv _), .tup ta (dp_iv _), shaped_ints _, shaped_ints _, ?_⟩
      rw [eqv_ints]
      refine ⟨_, rfl, p, C, dx, _, rfl, hpa, T.cl, T.nR, (by show 4 < 1000; decide), ?_⟩
      refine k _ (same_put s0a p0) ⟨dx, tl, tk, ks, ?_, SqT.put ta hpa, SqT.put ka hpa, hk⟩
      rw [upd_same, pf_ne ne4, pf_ne ne7, pf_ne ne9, pf_ne ne10]
      rfl
    · refine ⟨_, pss_cons (ps_if (PW.pt (pw_or (pt_not (pt_val (pe_cal GL hr (by decide) (by rfl) (pa_cons (pv 1) pa_nil)))) (pw_or1 (pt_not (pt_val (pe_callB (cr_all rfl) (by rfl) T.all (by decide +kernel) (pa_cons (pe_lc (own := [("letter", 2)]) (g := gName 2) (tt := tYes) rfl scInit.nd (pi_tup (pv 1))
          (blkOk_by (N := nInit) (sc := defScope sInit) (by decide +kernel)) (fun _ _ _ _ _ => pg_name (i := 2) scInit.nd rfl (Or.inl rfl)) (fun _ _ _ _ _ => pts_nil)
          (fun _ _ _ _ _ => pe_cal GX hr (by decide) (by rfl) (pa_cons (pv 2) pa_nil))) pa_nil))))))) (pss_one ps_never) pss_nil)
        (pss_cons (ps_expr (pe_cal GF hr (by decide) (by rfl) (pa_cons (pe_callB call_len_seq (by rfl) TA.len PySem.boot_len (pa_cons (pv 1) pa_nil)) pa_nil)))
        (pss_cons (ps_fld (pv 0) (pe_callTy call_tuple_of (by rfl) TA.tuple (by decide +kernel) (pa_cons (pv 1) pa_nil)) rfl)
        (pss_cons (ps_fld (pv 0) (pe_callB call_len_seq (by rfl) TA.len PySem.boot_len (pa_cons (pv 1) pa_nil)) rfl)
        (pss_cons (ps_fld (pv 0) (pe_cal GK hr (by decide) (by rfl) (pa_cons (pv 1) pa_nil)) rfl)
        (pss_cons (ps_fld (pv 0) (pe_cmpR (op_eqD hr.units) (pe_cal GS hr (by decide) (by rfl) (pa_cons (pv 1) pa_nil)) (pe_fld (pv 0) rfl) (nomark _)) rfl)
        (pss_one (ps_fld (pv 0) (pe_cmpR (op_eqD hr.units) (pe_cal GR hr (by decide) (by rfl) (pa_cons (pv 1) pa_nil)) (pe_fld (pv 0) rfl) (nomark _)) rfl))))))), ?_⟩
      have E0 : SqE K H0 a (iv ns) := .inr hS
      refine ⟨_, rfl, a, _, rfl, E0.same s0, fun H1 s1 => ⟨_, rfl, ?_⟩⟩
      have s01 := s0.trans s1
      refine iteF ?_
      refine not_lc ?_
      refine ⟨_, rfl, a, rfl, ⟨_, (WR.Same.seqT s01 hS)⟩, ?_⟩
      refine lcp (walk_tup (xs := iv ns)) (fun _ => true) (fun x => .bl (letterB x)) (by simp; omega) (fun H2 s2 => WR.Same.seqT (s01.trans s2) hS) ?_ ?_
      · intro x hx H2 s2 Qy Qn ky kn
        obtain ⟨i, hi, rfl⟩ := List.mem_map.mp hx
        exact ⟨rfl, yes_te ⟨_, rfl, .int i, _, rfl, .int i, ky rfl H2 (fun _ _ e => e)⟩⟩
      intro D H2 hD s2 h2
      have s02 := s01.trans s2
      refine ⟨D, ns.map fun i => letterB (.int i), rfl, SqL.of (by
        rw [h2, List.filter_eq_self.mpr (fun _ _ => rfl), List.map_map, List.map_map]
        rfl), ?_⟩
      rw [all_ok hl]
      refine ⟨_, rfl, iteF ?_⟩
      -- not too many
      refine ⟨_, rfl, a, _, rfl, E0.same s02, ((iv ns).length : Int), rfl, by rw [List.length_map]; omega, ?_⟩
      have hp2 : H2 p = some (.ins C dx []) := s2 _ _ (s1 _ _ hp)
      -- its letters
      refine ⟨_, rfl, a, _, rfl, .inr ⟨WR.Same.seqT s02 hS, ?_⟩⟩
      have s3 := s02
      have hp3 := hp2
      have t3 : SqT K H2 a (iv ns) := WR.Same.seqT s02 hS
      refine gen_heap fun H3 e3 => ?_
      rw [← e3] at s3 hp3 t3
      refine ⟨_, rfl, p, C, dx, _, rfl, hp3, T.cl, T.nL, (by show 0 < 1000; decide), ?_⟩
      have hp4 : L2.upd H3 p (.ins C dx (putF "letters" (.ref a) [])) p = some (.ins C dx [("letters", .ref a)]) := by rw [upd_same]; rfl
      have s4 := same_put (o := .ins C dx (putF "letters" (.ref a) [])) s3 p0
      have t4 := SqT.put (o := .ins C dx (putF "letters" (.ref a) [])) t3 hp3
      refine gen_heap fun H4 e4 => ?_
      rw [← e4] at hp4 s4 t4
      -- how many
      refine ⟨_, rfl, a, _, rfl, E0.same s4, _, rfl, p, C, dx, _, rfl, hp4, T.cl, T.nN, (by show 1 < 1000; decide), ?_⟩
      have hp5 : L2.upd H4 p (.ins C dx (putF "length" (.int ((iv ns).length : Nat)) [("letters", .ref a)])) p = some (.ins C dx [("letters", .ref a), ("length", .int (ns.length : Nat))]) := by
        rw [upd_same, pf_ne ne1, List.length_map]
        rfl
      have s5 := same_put (o := .ins C dx (putF "length" (.int ((iv ns).length : Nat)) [("letters", .ref a)])) s4 p0
      have t5 := SqT.put (o := .ins C dx (putF "length" (.int ((iv ns).length : Nat)) [("letters", .ref a)])) t4 hp4
      refine gen_heap fun H5 e5 => ?_
      rw [← e5] at hp5 s5 t5
      -- its kinds
      refine ⟨_, rfl, a, ns, rfl, E0.same s5, by omega, hl, fun ks hk tk H6 s6 tk6 => ?_⟩
      have hp6 := s6 _ _ hp5
      have s06 := s5.trans s6
      have t6 := WR.Same.seqT s6 t5
      refine ⟨_, rfl, p, C, dx, _, rfl, hp6, T.cl, T.nK, (by show 2 < 1000; decide), ?_⟩
      have hp7 : L2.upd H6 p (.ins C dx (putF "kinds" (.ref tk) [("letters", .ref a), ("length", .int (ns.length : Nat))])) p = some (.ins C dx [("letters", .ref a), ("length", .int (ns.length : Nat)), ("kinds", .ref tk)]) := by
        rw [upd_same, pf_ne ne2, pf_ne ne5]
        rfl
      have s7 := same_put (o := .ins C dx (putF "kinds" (.ref tk) [("letters", .ref a), ("length", .int (ns.length : Nat))])) s06 p0
      have t7 := SqT.put (o := .ins C dx (putF "kinds" (.ref tk) [("letters", .ref a), ("length", .int (ns.length : Nat))])) t6 hp6
      have k7 := SqT.put (o := .ins C dx (putF "kinds" (.ref tk) [("letters", .ref a), ("length", .int (ns.length : Nat))])) tk6 hp6
      refine gen_heap fun H7 e7 => ?_
      rw [← e7] at hp7 s7 t7 k7
      -- short
      refine ⟨_, rfl, a, ns, rfl, E0.same s7, by omega, fun q H8 s8 q8 => ?_⟩
      have hp8 := s8 _ _ hp7
      have s08 := s7.trans s8
      have t8 := WR.Same.seqT s8 t7
      have k8 := WR.Same.seqT s8 k7
      refine ⟨_, rfl, p, C, dx, _, _, rfl, hp8, T.cl, T.nL, lk_eq, ?_⟩
      refine ⟨_, _, .tup q8 (dp_iv _), .tup t8 (dp_iv _), shaped_ints _, shaped_ints _, ?_⟩
      rw [eqv_ints]
      refine ⟨_, rfl, p, C, dx, _, rfl, hp8, T.cl, T.nS, (by show 3 < 1000; decide), ?_⟩
      have hp9 : L2.upd H8 p (.ins C dx (putF "is_short" (.bl (decide (Fr.shr ns = ns))) [("letters", .ref a), ("length", .int (ns.length : Nat)), ("kinds", .ref tk)])) p = some (.ins C dx [("letters", .ref a), ("length", .int (ns.length : Nat)), ("kinds", .ref tk), ("is_short", .bl (decide (Fr.shr ns = ns)))]) := by
        rw [upd_same, pf_ne ne3, pf_ne ne6, pf_ne ne8]
        rfl
      have s9 := same_put (o := .ins C dx (putF "is_short" (.bl (decide (Fr.shr ns = ns))) [("letters", .ref a), ("length", .int (ns.length : Nat)), ("kinds", .ref tk)])) s08 p0
      have t9 := SqT.put (o := .ins C dx (putF "is_short" (.bl (decide (Fr.shr ns = ns))) [("letters", .ref a), ("length", .int (ns.length : Nat)), ("kinds", .ref tk)])) t8 hp8
      have k9 := SqT.put (o := .ins C dx (putF "is_short" (.bl (decide (Fr.shr ns = ns))) [("letters", .ref a), ("length", .int (ns.length : Nat)), ("kinds", .ref tk)])) k8 hp8
      refine gen_heap fun H9 e9 => ?_
      rw [← e9] at hp9 s9 t9 k9
      -- short round
      refine ⟨_, rfl, a, ns, rfl, E0.same s9, by omega, hl.nz, fun q2 Ha sa qa => ?_⟩
      have hpa := sa _ _ hp9
      have s0a := s9.trans sa
      have ta := WR.Same.seqT sa t9
      have ka := WR.Same.seqT sa k9
      refine ⟨_, rfl, p, C, dx, _, _, rfl, hpa, T.cl, T.nL, lk_eq, ?_⟩
      refine ⟨_, _, .tup qa (dp_iv _), .tup ta (dp_iv _), shaped_ints _, shaped_ints _, ?_⟩
      rw [eqv_ints]
      refine ⟨_, rfl, p, C, dx, _, rfl, hpa, T.cl, T.nR, (by show 4 < 1000; decide), ?_⟩
      refine k _ (same_put s0a p0) ⟨dx, a, tk, ks, ?_, SqT.put ta hpa, SqT.put ka hpa, hk⟩
      rw [upd_same, pf_ne ne4, pf_ne ne7, pf_ne ne9, pf_ne ne10]
      rfl
end
end W29
set_option Elab.async false
set_option linter.all false
set_option maxRecDepth 100000
set_option maxHeartbeats 2000000
namespace W29
open PySem L2 PySem.Spec PyProof.Rows WR
abbrev sEq : Stmt := inClass (top 29) 1
/-- some word of these letters, all else as it stood -/
def NewW (K : PySem.W.Frag) (C : Addr) (H : Hp) (Q : VK) (ns : List Int) : Prop := ∀ p H', Same H H' → WordAt K C H' p ns → Q (.ref p) H'
theorem make_word {K : PySem.W.Frag} {C : Addr} {H1 : Hp} {q : Addr} {ms : List Int} {Q : VK} {E : XK} (hq : SqE K H1 q (iv ms)) (hlen : ms.length ≤ 500) (hl : Lts ms) (k : NewW K C H1 Q ms) :
    ∀ x dx, H1 x = none → H1 dx = none → dx ≠ x → spInit K C [.ref x, .ref q] (L2.upd (L2.upd H1 dx (.own x)) x (.ins C dx [])) (fun v H2 => v = .non ∧ Q (.ref x) H2) E := by
  intro x dx nx ndx nex
  have s0 : Same H1 (L2.upd (L2.upd H1 dx (.own x)) x (.ins C dx [])) := fun b o e => by
    rw [upd_ne (ne_of_none e nx), upd_ne (ne_of_none e ndx)]
    exact e
  exact ⟨H1, x, dx, q, ms, rfl, s0, nx, upd_same, hq, hlen, hl, fun H' s' W' => ⟨rfl, k x H' s' W'⟩⟩
def spOne (K : PySem.W.Frag) (C : Addr) (fn : List Int → List Int) : Sp := fun vs H Q _ => ∃ (p : Addr) (ns : List Int), vs = [.ref p] ∧ WordAt K C H p ns ∧ ns.length ≤ 500 ∧ Lts ns ∧ NewW K C H Q (fn ns)
def spEq (K : PySem.W.Frag) (C : Addr) : Sp := fun vs H Q _ => ∃ (p q : Addr) (ns ms : List Int), vs = [.ref p, .ref q] ∧ WordAt K C H p ns ∧ WordAt K C H q ms ∧ Q (.bl (decide (ns = ms))) H
/-- so many times, for a number below 0 the contrary so many times -/
def spNeedW (K : PySem.W.Frag) (C : Addr) : Sp := fun vs H Q _ => ∃ (q : Addr) (z : V) (ms : List Int), vs = [.ref q, z] ∧ WordAt K C H q ms ∧ Q .non H
theorem Lts.con {ns : List Int} (h : Lts ns) : Lts (Fr.con ns) := fun x hx => by
  unfold Fr.con at hx
  obtain ⟨y, hy, rfl⟩ := List.mem_map.mp hx
  have := h y (List.mem_reverse.mp hy)
  rw [Int.natAbs_neg]
  exact this
theorem Lts.app {ns ms : List Int} (h : Lts ns) (k : Lts ms) : Lts (ns ++ ms) := fun x hx => by
  rcases List.mem_append.mp hx with e | e
  · exact h x e
  · exact k x e
theorem Lts.shr {ns : List Int} (h : Lts ns) : Lts (Fr.shr ns) := fun x hx => h x (Fr.shr_mem hx)
theorem Lts.rep {ns : List Int} (h : Lts ns) : ∀ n, Lts (Fr.rep n ns)
  | 0 => fun x hx => nomatch hx
  | n + 1 => h.app (Lts.rep h n)
theorem rnd_sub {ns : List Int} (nz : Fr.NZ ns) : ∃ u, Fr.shr ns = u ++ Fr.rnd ns ++ Fr.con u := by
  obtain ⟨u, m, e, c, z⟩ := Fr.parted (Fr.shr ns) nz.shr (Fr.rd_shr ns)
  refine ⟨u, ?_⟩
  have er : Fr.rnd ns = m := by
    unfold Fr.rnd
    rw [e, Fr.ends_eq c z]
  rw [er]
  exact e
theorem Lts.rnd {ns : List Int} (h : Lts ns) : Lts (Fr.rnd ns) := fun x hx => by
  obtain ⟨u, e⟩ := rnd_sub h.nz
  refine h.shr x ?_
  rw [e]
  simp [hx]
theorem rnd_len {ns : List Int} (h : Lts ns) : (Fr.rnd ns).length ≤ ns.length := by
  obtain ⟨u, e⟩ := rnd_sub h.nz
  have h1 := shr_len ns
  rw [e] at h1
  rw [whole_len] at h1
  omega
theorem rep_flat (n : Nat) (ns : List Int) : (List.replicate n (iv ns)).flatten = iv (Fr.rep n ns) := by
  induction n with
  | zero => rfl
  | succ n ih => 
    rw [List.replicate_succ, List.flatten_cons, ih, Fr.rep_succ]
    exact List.map_append.symm
theorem WordAt.tyx {K : PySem.W.Frag} {mg : Str → Option Value} {C : Addr} {H : Hp} {p : Addr} {ns : List Int} (h : WordAt K C H p ns) (T : TxW K mg C) : TyX K H (.ref p) (.ref C) := by
  obtain ⟨dx, tl, tk, ks, h1, _⟩ := h
  exact .base (.ins h1 T.cl T.ca T.cn T.ct T.cm)
theorem kit_self {K : PySem.W.Frag} (C : Addr) : PySem.W.kitOne K (.ref C) (.ref C) = some true := by
  unfold PySem.W.kitOne
  rw [if_pos (by simp)]
structure MkW (P : Program) (w : World) (K : PySem.W.Frag) (mg : Str → Option Value) (base : Heap) (C : Addr) : Prop where
  ex : ∃ (f : Addr) (fd : FuncData), Mk K C f ∧ FnOk P w K mg base CX0 4 f fd ["self", "letters"] (spInit K C) ∧ Binds K fd ["self", "letters"] []
section
variable {X : Cx} {C : Addr} {p pos : Pos} {e : Expr} {es : List Expr} {t : TA} {j : Nat}
theorem pe_word (M : MkW X.prog X.w X.K X.mg X.base C) (T : TxW X.K X.mg C) (hr : Room j X.A) (hkj : 5 ≤ j) (hg : Gl X "Word") (ha : PA X (e :: es) t)
    (he : starEach (e :: es) X.env = (false, eval e X.env) :: starEach es X.env := by rfl) (hpl : (backTo pos (starEach es X.env)).any (·.1) = false := by rfl) :
    PE X (.Call (.Name "Word" p) (e :: es) [] pos) (tMake C (spInit X.K C) [] E0 t) := by
  obtain ⟨f, fd, M, F, hb⟩ := M.ex
  exact pe_make M F (hr.mono hkj) hg T.mgW hb .nil pass0 ha (by decide) he hpl
end
section
variable {P : Program} {w : World} {K : PySem.W.Frag} {mg : Str → Option Value} {base : Heap}
theorem scEq : FnScope ["self", "other"] ["self", "other"] (defScope sEq) := ⟨rfl, rfl, rfl, by decide +kernel, rfl, by decide +kernel, by decide +kernel⟩
theorem ok_eq {C f : Addr} {fd : FuncData} (F : Fun K "__eq__" "Word.__eq__" sEq f fd) (T : TxW K mg C) : FnOk P w K mg base CX0 1 f fd ["self", "other"] (spEq K C) := by
  refine F.ok scEq (fun vs H Q E h => ?_) (fun cdv A outer s H vs Q E hr h => ?_)
  · obtain ⟨p, q, ns, ms, rfl, _⟩ := h
    rfl
  · obtain ⟨p, q, ns, ms, rfl, W1, W2, k⟩ := h
    refine ⟨_, pss_one (ps_ret (pe_and (pe_callB call_isi (by rfl) T.isin (by decide +kernel) (pa_cons (pv 1) (pa_cons (pe_glob (v := .ref C) (by rfl) T.mgW rfl) pa_nil)))
      (pe_one (pe_cmpR (op_eqD hr.units) (pe_fld (pv 0) rfl) (pe_fld (pv 1) rfl) (nomark _))))), ?_⟩
    refine ⟨_, rfl, _, _, _, _, _, rfl, .own C, W2.tyx T, kit_self C, _, rfl, ?_⟩
    refine iteT ?_
    obtain ⟨dx, tl, tk, ks, h1, h2, h3, h4⟩ := W1
    obtain ⟨dx', tl', tk', ks', h1', h2', h3', h4'⟩ := W2
    refine ⟨_, rfl, p, C, dx, _, _, rfl, h1, T.cl, T.nL, wf_letters, _, rfl, q, C, dx', _, _, rfl, h1', T.cl, T.nL, wf_letters, ?_⟩
    refine ⟨_, _, .tup h2 (dp_iv _), .tup h2' (dp_iv _), shaped_ints _, shaped_ints _, ?_⟩
    rw [eqv_ints]
    exact k
theorem scNeedW : FnScope ["value", "part"] ["value", "part"] (defScope sNeedW) := ⟨rfl, rfl, rfl, by decide +kernel, rfl, by decide +kernel, by decide +kernel⟩
theorem ok_needW {C f : Addr} {fd : FuncData} (F : Fun K "need_word" "need_word" sNeedW f fd) (T : TxW K mg C) : FnOk P w K mg base CX0 1 f fd ["value", "part"] (spNeedW K C) := by
  refine F.ok scNeedW (fun vs H Q E h => ?_) (fun cdv A outer s H vs Q E hr h => ?_)
  · obtain ⟨q, z, ms, rfl, _⟩ := h
    rfl
  · obtain ⟨q, z, ms, rfl, W2, k⟩ := h
    refine ⟨_, pss_one (ps_if (pt_not (pt_val (pe_callB call_isi (by rfl) T.isin (by decide +kernel) (pa_cons (pv 0) (pa_cons (pe_glob (v := .ref C) (by rfl) T.mgW rfl) pa_nil))))) (pss_one ps_never) pss_nil), ?_⟩
    exact ⟨_, rfl, _, _, _, _, _, rfl, .own C, W2.tyx T, kit_self C, _, rfl, iteF k⟩
end
end W29
set_option Elab.async false
set_option linter.all false
set_option maxRecDepth 100000
set_option maxHeartbeats 2000000
namespace W29
open PySem L2
abbrev sJar : Stmt := top 38
abbrev sDraw : Stmt := top 39
/-! ### the hand that draws -/
/-- at a: a hand, of which at most n cells were begun -/
def HandAt (H : Hp) (a c : Addr) (n : Nat) : Prop := ∃ (ns : List Int) (i r : Int), H a = some (.lst [.ref c, .int i, .int r]) ∧ H c = some (.lst (ns.map V.int)) ∧ c ≠ a ∧ ns.length ≤ 1000 ∧ 0 ≤ i ∧ i ≤ (n : Int) ∧ 0 ≤ r
/-- all but what is at a stands as it did -/
def Kept (a : Addr) (H H' : Hp) : Prop := ∀ b o, b ≠ a → H b = some o → H' b = some o
theorem Kept.refl {a : Addr} {H : Hp} : Kept a H H := fun _ _ _ e => e
theorem Kept.trans {a : Addr} {H H1 H2 : Hp} (h1 : Kept a H H1) (h2 : Kept a H1 H2) : Kept a H H2 := fun b o n e => h2 b o n (h1 b o n e)
theorem Kept.upd {a : Addr} {H : Hp} {o : HO} : Kept a H (upd H a o) := fun b u n e => by rw [upd_ne n]; exact e
theorem Kept.new {a p : Addr} {H H' : Hp} {o : HO} (k : Kept a H H') (hp : H' p = none) : Kept a H (L2.upd H' p o) := fun b u n e => by
  rw [upd_ne (ne_of_none (k b u n e) hp)]
  exact k b u n e

theorem HandAt.put {H : Hp} {a c : Addr} {ns : List Int} {i r : Int} {n : Nat} (hC : H c = some (.lst (ns.map V.int))) (hca : c ≠ a) (hl : ns.length ≤ 1000) (i0 : 0 ≤ i) (hi : i ≤ (n : Int)) (r0 : 0 ≤ r) :
    HandAt (L2.upd H a (.lst [.ref c, .int i, .int r])) a c n := ⟨ns, i, r, upd_same, by rw [upd_ne hca]; exact hC, hca, hl, i0, hi, r0⟩
def spHand (K : PySem.W.Frag) : Sp := fun vs H Q _ => ∃ (a : Addr) (ns : List Int), vs = [.ref a] ∧ SqL K H a (ns.map V.int) ∧ ns.length ≤ 1000 ∧
  ∀ (H' : Hp) (p c : Addr), Same H H' → H p = none → H c = none → HandAt H' p c 0 → Q (.ref p) H'
def spTake : Sp := fun vs H Q _ => ∃ (a c : Addr) (m : Int) (n : Nat), vs = [.ref a, .int m] ∧ HandAt H a c n ∧ n ≤ 10000 ∧ 0 < m ∧ m.natAbs < 2 ^ 200 ∧
  ∀ (H' : Hp) (q : Int), 0 ≤ q → q < m → HandAt H' a c (n + 1) → Kept a H H' → Q (.int q) H'

theorem dpInts {K : PySem.W.Frag} {H : Hp} : ∀ ns : List Int, DpAll K H (ns.map V.int) (ns.map PyData.int)
  | [] => .nil
  | n :: r => .cons (.int n) (dpInts r)
structure TxL (mg : Str → Option Value) : Prop where
  int : mg "int" = none
  len : mg "len" = none
  abs : mg "abs" = none
section
variable {P : Program} {w : World} {K : PySem.W.Frag} {mg : Str → Option Value} {base : Heap}
theorem scHand : FnScope ["_law_script", "_law_cell"] ["_law_script"] (defScope sJar) := ⟨rfl, rfl, rfl, by decide +kernel, rfl, by decide +kernel, by decide +kernel⟩
theorem ok_hand {f : Addr} {fd : FuncData} (F : Fun K "_law_pen" "_law_pen" sJar f fd) (T : TxL mg) : FnOk P w K mg base CX0 1 f fd ["_law_script"] (spHand K) := by
  refine F.ok scHand (fun vs H Q E h => ?_) (fun cdv A outer s H vs Q E hr h => ?_)
  · obtain ⟨a, ns, rfl, _⟩ := h
    rfl
  · obtain ⟨a, ns, rfl, hS, hlen, k⟩ := h
    refine ⟨_, pss_one (ps_ret (pe_lst (pa_cons (pe_lc (own := [("_law_cell", 1)]) (g := gName 1) (tt := tYes) rfl scHand.nd (pi_list (pe_slice sl_list (pv 0) po_none (po_some pe_int)))
      (blkOk_by (N := ["_law_script", "_law_cell"]) (sc := defScope sJar) (by decide +kernel)) (fun _ _ _ _ _ => pg_name (i := 1) scHand.nd rfl (Or.inl rfl)) (fun _ _ _ _ _ => pts_nil)
      (fun _ _ _ _ _ => pe_callTy call_int1 (by rfl) T.int (by decide +kernel) (pa_cons (pv 1) pa_nil))) (pa_cons pe_int (pa_cons pe_int pa_nil))))), ?_⟩
    refine ⟨_, rfl, 60, rfl, a, ns.map V.int, rfl, hS, fun p hp => ?_⟩
    refine ⟨p, rfl, ⟨_, SqL.of upd_same⟩, fun D hD => ?_⟩
    have hDp : D ≠ p := fun e => by
      rw [e, upd_same] at hD
      cases hD
    have hD0 : H D = none := by
      rw [upd_ne hDp] at hD
      exact hD
    have hc : cutV (ns.map V.int) none (some 60) = (ns.take 60).map V.int := by
      unfold cutV
      rw [List.map_take, List.length_map]
      have e0 : HT.sIx ns.length 0 none = 0 := rfl
      rw [e0, List.drop_zero]
      have e1 : HT.sIx ns.length ns.length (some 60) = min 60 ns.length := by
        unfold HT.sIx
        simp
        try omega
      rw [e1, Nat.sub_zero]
      by_cases h : 60 ≤ ns.length
      · rw [Nat.min_eq_left h]
      · rw [Nat.min_eq_right (by omega), List.take_of_length_le (by simp), List.take_of_length_le (by simp; omega)]
    refine lc_list (K := K) (a := p) (xs := (ns.take 60).map V.int) (fun i H' => H' D = some (.lst (((ns.take 60).take i).map V.int)) ∧ H' p = some (.lst ((ns.take 60).map V.int)) ∧ Same H H') ⟨upd_same, ?_, ?_⟩ (fun i H' _ q => SqL.of q.2.1) ?_ ?_
    · rw [upd_ne hDp.symm, upd_same, hc]
    · intro b o e
      rw [upd_ne (ne_of_none e hD0), upd_ne (ne_of_none e hp)]
      exact e
    · intro i x H' hi q
      obtain ⟨z, hz, rfl⟩ : ∃ z, (ns.take 60)[i]? = some z ∧ x = V.int z := by
        rw [List.getElem?_map] at hi
        cases e : (ns.take 60)[i]? with
        | none =>
          rw [e] at hi
          cases hi
        | some z =>
          rw [e] at hi
          exact ⟨z, rfl, (Option.some.inj hi).symm⟩
      have hli : i < (ns.take 60).length := (List.getElem?_eq_some_iff.mp hz).1
      have hl60 : (ns.take 60).length ≤ 60 := by rw [List.length_take]; omega
      refine ⟨rfl, ?_⟩
      refine yes_te ?_
      refine ⟨_, rfl, .inl ⟨z, rfl, _, q.1, Evl.sz_lt (by rw [List.length_map, List.length_take]; omega), ?_⟩⟩
      refine ⟨?_, ?_, ?_⟩
      · rw [upd_same]
        congr 2
        have ez : (ns.take 60)[i] = z := (List.getElem?_eq_some_iff.mp hz).2
        rw [List.take_succ_eq_append_getElem hli, ez, List.map_append]
        rfl
      · rw [upd_ne hDp.symm]
        exact q.2.1
      · intro b o e
        rw [upd_ne (ne_of_none e hD0)]
        exact q.2.2 b o e
    · intro H' q
      refine ⟨by show 3 ≤ sizeLine; decide, fun l hl => ?_⟩
      have hlD : D ≠ l := ne_of_none q.1 hl
      have hl0 : H l = none := by
        cases e : H l with
        | none => rfl
        | some o => rw [q.2.2 l o e] at hl; cases hl
      refine k _ l D (fun b o e => by rw [upd_ne (ne_of_none e hl0)]; exact q.2.2 b o e) hl0 hD0 ?_
      have q1 := q.1
      rw [List.length_map, List.take_length] at q1
      exact ⟨ns.take 60, 0, 0, upd_same, by rw [upd_ne hlD]; exact q1, hlD, by rw [List.length_take]; omega, Int.le_refl _, Int.le_refl _, Int.le_refl _⟩

theorem scTake : FnScope ["_law_pen_here", "_law_many", "_law_rest", "_law_at", "_law_cell", "_law_mixed"] ["_law_pen_here", "_law_many"] (defScope sDraw) := ⟨rfl, rfl, rfl, by decide +kernel, rfl, by decide +kernel, by decide +kernel⟩
theorem ok_take {f : Addr} {fd : FuncData} (F : Fun K "_law_draw" "_law_draw" sDraw f fd) (T : TxL mg) : FnOk P w K mg base CX0 1 f fd ["_law_pen_here", "_law_many"] spTake := by
  refine F.ok scTake (fun vs H Q E h => ?_) (fun cdv A outer s H vs Q E hr h => ?_)
  · obtain ⟨a, c, m, n, rfl, _⟩ := h
    rfl
  · obtain ⟨a, c, m, n, rfl, ⟨ns, i, r, hA, hC, hca, hlen, i0, hi, r0⟩, hn, m0, hm, k⟩ := h
    refine ⟨_, pss_cons (ps_if (pt_cmpR op_gt (pe_ix ix_list (pv 0) pe_int (fun _ _ => rfl)) pe_int (nomark _))
        (pss_cons (ps_set (i := 2) scTake.nd rfl (Or.inl rfl) (pe_callTy call_int1 (by rfl) T.int (by decide +kernel) (pa_cons (pe_ix ix_list (pv 0) pe_int (fun _ _ => rfl)) pa_nil)))
        (pss_cons (ps_asg (pe_op op_fdivW (pv 2) (pv 1)) (pg_sub (pv 0) pe_int set_list))
        (pss_one (ps_ret (pe_op op_mod (pe_callTy call_int1 (by rfl) T.int (by decide +kernel) (pa_cons (pv 2) pa_nil)) (pv 1)))))) pss_nil)
      (pss_cons (ps_set (i := 3) scTake.nd rfl (Or.inl rfl) (pe_ix ix_list (pv 0) pe_int (fun _ _ => rfl)))
      (pss_cons (ps_asg (pe_op op_add (pv 3) pe_int) (pg_sub (pv 0) pe_int set_list))
      (pss_cons (ps_set (i := 4) scTake.nd rfl (Or.inl rfl) (pe_op op_add (pe_op op_mul pe_int (pv 3)) pe_int))
      (Evl.pss_cut (ps_if (pt_cmpR (op_neD hr.units) (pe_ix ix_list (pv 0) pe_int (fun _ _ => rfl)) (pe_lst pa_nil) (nomark _))
        (pss_one (ps_set (i := 4) scTake.nd rfl (Or.inl rfl) (pe_ix ix_list (pe_ix ix_list (pv 0) pe_int (fun _ _ => rfl)) (pe_op op_mod (pe_callTy call_int1 (by rfl) T.int (by decide +kernel) (pa_cons (pv 3) pa_nil)) (pe_callB call_len_seq (by rfl) T.len PySem.boot_len (pa_cons (pe_ix ix_list (pv 0) pe_int (fun _ _ => rfl)) pa_nil))) (fun _ _ => rfl)))) pss_nil)
      (Evl.pss_cut (ps_if (PW.pt (pw_and (pt_cmpR op_lt (pv 3) (pe_callB call_len_seq (by rfl) T.len PySem.boot_len (pa_cons (pe_ix ix_list (pv 0) pe_int (fun _ _ => rfl)) pa_nil)) (nomark _)) (pw_and1 (pt_cmpR op_ge (pe_callB call_abs (by rfl) T.abs (by decide +kernel) (pa_cons (pv 4) pa_nil)) (pe_op op_pow pe_int pe_int) (nomark _)))))
        (pss_cons (ps_set (i := 2) scTake.nd rfl (Or.inl rfl) (pe_op op_add (pe_op op_mul pe_int (pe_op op_sub (pe_callB call_abs (by rfl) T.abs (by decide +kernel) (pa_cons (pv 4) pa_nil)) (pe_op op_pow pe_int pe_int))) (pe_callTy call_int1 (by rfl) T.int (by decide +kernel) (pa_cons (pe_cmpR op_lt (pv 4) pe_int (nomark _)) pa_nil))))
        (pss_cons (ps_asg (pe_op op_fdivW (pe_callTy call_int1 (by rfl) T.int (by decide +kernel) (pa_cons (pv 2) pa_nil)) (pv 1)) (pg_sub (pv 0) pe_int set_list))
        (pss_one (ps_ret (pe_op op_mod (pe_callTy call_int1 (by rfl) T.int (by decide +kernel) (pa_cons (pv 2) pa_nil)) (pv 1)))))) pss_nil)
      (pss_cons (ps_set (i := 5) scTake.nd rfl (Or.inl rfl) (pe_op op_mod (pe_callTy call_int1 (by rfl) T.int (by decide +kernel) (pa_cons (pe_op op_pow (pe_op op_add (pe_op op_add (pe_op op_mod (pe_callTy call_int1 (by rfl) T.int (by decide +kernel) (pa_cons (pv 4) pa_nil)) pe_int) (pe_op op_mul pe_int (pv 3))) pe_int) pe_int) pa_nil)) pe_int))
      (pss_cons (ps_set (i := 5) scTake.nd rfl (Or.inl rfl) (pe_op op_mod (pe_callTy call_int1 (by rfl) T.int (by decide +kernel) (pa_cons (pe_op op_pow (pe_op op_add (pe_op op_add (pe_op op_mul (pv 5) (pe_op op_add (pe_op op_mul pe_int (pv 3)) pe_int)) (pe_op op_mul (pe_op op_mul pe_int (pv 3)) (pv 3))) pe_int) pe_int) pa_nil)) pe_int))
      (pss_one (ps_ret (pe_op op_mod (pe_callTy call_int1 (by rfl) T.int (by decide +kernel) (pa_cons (pe_op op_fdiv (pv 5) pe_int) pa_nil)) (pv 1)))))))))))
      , ?_⟩
    have hdv : ∀ x : Int, CDivW x m := fun x => wide_div m0 hm (by decide) (by decide)
    -- if hand[2] > 0
    refine ⟨_, rfl, a, _, 2, _, rfl, rfl, SqL.of hA, rfl, _, _, rfl, rfl, _, rfl, ?_⟩
    refine ite2 (fun hp => ?_) (fun _ => ?_)
    · refine ⟨_, rfl, a, _, 2, _, rfl, rfl, SqL.of hA, rfl, .inl ⟨_, rfl, ?_⟩⟩
      refine ⟨_, rfl, _, rfl, _, _, rfl, rfl, hdv _, _, rfl, a, _, 2, 2, rfl, rfl, hA, rfl, ?_⟩
      refine ⟨_, rfl, .inl ⟨_, rfl, _, rfl, _, _, rfl, rfl, m0, ?_⟩⟩
      exact k _ (r % m) (Int.emod_nonneg _ (by omega)) (Int.emod_lt_of_pos _ m0) (HandAt.put hC hca hlen i0 (by omega) (Int.ediv_nonneg r0 (by omega))) Kept.upd
    -- at = hand[1]; hand[1] = at + 1; cell = ..
    refine ⟨_, rfl, a, _, 1, _, rfl, rfl, SqL.of hA, rfl, ?_⟩
    refine ⟨_, rfl, _, _, rfl, rfl, _, rfl, a, _, 1, 1, rfl, rfl, hA, rfl, ?_⟩
    refine ⟨_, rfl, _, _, rfl, rfl, .inl ⟨by decide, by decide⟩, _, _, rfl, rfl, ?_⟩
    -- H1: the heap behind this
    obtain ⟨H1, eH1⟩ : ∃ H1, H1 = upd H a (.lst [.ref c, .int (i + 1), .int r]) := ⟨_, rfl⟩
    have kH : Kept a H H1 := by rw [eH1]; exact Kept.upd
    have hA1 : H1 a = some (.lst [.ref c, .int (i + 1), .int r]) := by rw [eH1]; exact upd_same
    have hC1 : H1 c = some (.lst (ns.map V.int)) := by rw [eH1, upd_ne hca]; exact hC
    show Evl.tCut _ _ _ _ (upd H a (.lst [.ref c, .int (i + 1), .int r]))
    rw [← eH1]
    refine ⟨fun σ' H' => Same H1 H' ∧ ∃ cell : Int, σ' = [some (.ref a), some (.int m), none, some (.int i), some (.int cell), none], ?_, ?_⟩
    · refine ⟨_, rfl, a, _, 0, _, rfl, rfl, SqL.of hA1, rfl, Nat.zero_le _, fun p hp => ?_⟩
      have hcp : c ≠ p := ne_of_none hC1 hp
      have hap : a ≠ p := ne_of_none hA1 hp
      have sm : Same H1 (upd H1 p (.lst [])) := fun b o e => by rw [upd_ne (ne_of_none e hp)]; exact e
      refine ⟨.list (ns.map PyData.int), .list [], .lst (SqL.of (sm _ _ hC1)) (dpInts ns), .lst (SqL.of upd_same) .nil, PySem.W.ke_shaped_ints ns, rfl, _, rfl, ?_⟩
      refine ite2 (fun hne => ?_) (fun _ => ?_)
      · have hn0 : 0 < ns.length := by
          cases ns with
          | nil => exact absurd hne (by decide)
          | cons x xs => exact Nat.succ_pos _
        have hl0 : (0 : Int) < (((ns.map V.int).length : Nat) : Int) := by rw [List.length_map]; omega
        have hj0 : 0 ≤ i % (((ns.map V.int).length : Nat) : Int) := Int.emod_nonneg _ (by omega)
        have hj1 : i % (((ns.map V.int).length : Nat) : Int) < (((ns.map V.int).length : Nat) : Int) := Int.emod_lt_of_pos _ hl0
        obtain ⟨j, hj⟩ : ∃ j : Nat, i % (((ns.map V.int).length : Nat) : Int) = (j : Int) := ⟨(i % (((ns.map V.int).length : Nat) : Int)).toNat, by omega⟩
        have hjl : j < ns.length := by rw [List.length_map] at hj1 hj; omega
        refine ⟨_, rfl, a, _, 0, _, rfl, rfl, SqL.of (sm _ _ hA1), rfl, _, rfl, .inl ⟨_, rfl, ?_⟩⟩
        refine ⟨_, rfl, a, _, 0, _, rfl, rfl, SqL.of (sm _ _ hA1), rfl, c, _, rfl, .inl (SqL.of (sm _ _ hC1)), _, _, rfl, rfl, hl0, c, _, _, .int ns[j], rfl, rfl, SqL.of (sm _ _ hC1), ?_, ?_⟩
        · rw [hj]
          exact atI_nat (by rw [List.getElem?_map, List.getElem?_eq_getElem hjl]; rfl)
        · exact ⟨sm, ns[j], rfl⟩
      · exact ⟨sm, _, rfl⟩
    · rintro σ' H2 ⟨sm, cell, rfl⟩
      have hA2 := sm _ _ hA1
      have hC2 := sm _ _ hC1
      have kH2 : Kept a H H2 := fun b o e q => sm b o (kH b o e q)
      -- a great cell: what is left of it
      refine ⟨fun σ' H' => σ' = [some (.ref a), some (.int m), none, some (.int i), some (.int cell), none] ∧ H' = H2, ?_, ?_⟩
      · refine ⟨_, rfl, _, rfl, a, _, 0, _, rfl, rfl, SqL.of hA2, rfl, c, _, rfl, .inl (SqL.of hC2), _, _, rfl, rfl, _, rfl, ?_⟩
        refine ite2 (fun _ => ?_) (fun _ => ?_)
        · refine ⟨_, rfl, cell, rfl, _, _, rfl, rfl, ⟨by decide, by decide, by decide⟩, _, _, rfl, rfl, _, rfl, ?_⟩
          refine ite2 (fun hge => ?_) (fun _ => ⟨rfl, rfl⟩)
          have hge' := of_decide_eq_true hge
          refine ⟨_, rfl, cell, rfl, _, _, rfl, rfl, ⟨by decide, by decide, by decide⟩, _, _, rfl, rfl, _, _, rfl, rfl, .inl ⟨by decide, by decide⟩, _, rfl, _, _, rfl, rfl, .inr ⟨_, rfl, _, _, rfl, rfl, ?_⟩⟩
          have hr2 : ∀ b : Bool, 0 ≤ 2 * ((if cell < 0 then -cell else cell) - (10 : Int) ^ Int.toNat 18) + (if b = true then 1 else 0) := by
            intro b
            have e1 : (if b = true then (1 : Int) else 0) ≥ 0 := by cases b <;> decide
            have e2 : (10 : Int) ^ Int.toNat 18 ≤ (if cell < 0 then -cell else cell) := hge'
            omega
          refine ⟨_, rfl, .inl ⟨_, rfl, _, rfl, _, _, rfl, rfl, hdv _, _, rfl, a, _, 2, 2, rfl, rfl, hA2, rfl, ?_⟩⟩
          refine ⟨_, rfl, .inl ⟨_, rfl, _, rfl, _, _, rfl, rfl, m0, ?_⟩⟩
          exact k _ _ (Int.emod_nonneg _ (by omega)) (Int.emod_lt_of_pos _ m0) (HandAt.put hC2 hca hlen (by omega) (by omega) (Int.ediv_nonneg (hr2 _) (by omega))) (kH2.trans Kept.upd)
        · exact ⟨rfl, rfl⟩
      · rintro σ' H3 ⟨rfl, rfl⟩
        have hin : i ≤ 10000 := by omega
        have b1 : 0 ≤ cell % 2147483563 := Int.emod_nonneg _ (by decide)
        have b2 : cell % 2147483563 < 2147483563 := Int.emod_lt_of_pos _ (by decide)
        refine ⟨_, rfl, .inl ⟨_, rfl, _, _, rfl, rfl, (by decide : (0 : Int) < 2147483563), _, rfl, _, _, rfl, rfl, .inl ⟨by decide, by decide⟩, _, _, rfl, rfl, _, _, rfl, rfl, _, _, rfl, rfl, ⟨by decide, by decide, ?_⟩, ?_⟩⟩
        · show (cell % 2147483563 + 74377 * i + 5443).natAbs < 2 ^ 64
          have e : (2 : Nat) ^ 64 = 18446744073709551616 := by decide
          rw [e]
          omega
        have hb : ∀ x : Int, ((x % 2147483587) * (2 * i + 2999) + 62003 * i * i + 93923).natAbs < 2 ^ 64 := by
          intro x
          have b3 : 0 ≤ x % 2147483587 := Int.emod_nonneg _ (by decide)
          have b4 : x % 2147483587 < 2147483587 := Int.emod_lt_of_pos _ (by decide)
          have e : (2 : Nat) ^ 64 = 18446744073709551616 := by decide
          have c1 : 0 ≤ (x % 2147483587) * (2 * i + 2999) := Int.mul_nonneg b3 (by omega)
          have c2 : (x % 2147483587) * (2 * i + 2999) ≤ 2147483587 * 22999 := Int.mul_le_mul (by omega) (by omega) (by omega) (by omega)
          have c3 : 0 ≤ 62003 * i * i := Int.mul_nonneg (by omega) i0
          have c4 : 62003 * i * i ≤ 620030000 * 10000 := Int.mul_le_mul (by omega) hin i0 (by omega)
          rw [e]
          omega
        have hc : ∀ x : Int, CMul (x % 2147483587) (2 * i + 2999) := by
          intro x
          have b3 : 0 ≤ x % 2147483587 := Int.emod_nonneg _ (by decide)
          have b4 : x % 2147483587 < 2147483587 := Int.emod_lt_of_pos _ (by decide)
          exact .inl ⟨by omega, by omega⟩
        refine .inl ⟨_, rfl, _, _, rfl, rfl, (by decide : (0 : Int) < 2147483587), ?_⟩
        refine ⟨_, rfl, _, rfl, _, _, rfl, rfl, .inl ⟨by decide, by decide⟩, _, _, rfl, rfl, _, _, rfl, rfl, hc _, _, rfl, _, _, rfl, rfl, .inl ⟨by decide, by decide⟩, _, rfl, _, _, rfl, rfl, .inl ⟨by omega, by omega⟩, _, _, rfl, rfl, _, _, rfl, rfl, _, _, rfl, rfl, ⟨by decide, by decide, hb _⟩, ?_⟩
        refine .inl ⟨_, rfl, _, _, rfl, rfl, (by decide : (0 : Int) < 2147483629), ?_⟩
        refine ⟨_, rfl, _, _, rfl, rfl, ⟨by decide, by decide⟩, .inl ⟨_, rfl, _, rfl, _, _, rfl, rfl, m0, ?_⟩⟩
        exact k _ _ (Int.emod_nonneg _ (by omega)) (Int.emod_lt_of_pos _ m0) ⟨ns, i + 1, r, hA2, hC2, hca, hlen, by omega, by omega, r0⟩ kH2
end
end W29
set_option Elab.async false
set_option linter.all false
set_option maxRecDepth 100000
set_option maxHeartbeats 2000000
namespace W29
open PySem L2 PySem.Spec PyProof.Rows WR
structure EqW (P : Program) (w : World) (K : PySem.W.Frag) (mg : Str → Option Value) (base : Heap) (C : Addr) : Prop where
  ex : ∃ (f : Addr) (fd : FuncData), FnOk P w K mg base CX0 1 f fd ["self", "other"] (spEq K C) ∧ PySem.W.findIn K (.ref C) "__eq__" = some (some (.ref f)) ∧ PySem.W.isFn K (.ref f) = true ∧ Binds K fd ["self", "other"] []
/-- two words, held against one another -/
def rEqW (K : PySem.W.Frag) (C : Addr) : R2 := fun x y H Q => ∃ (p q : Addr) (ns ms : List Int), x = .ref p ∧ y = .ref q ∧ WordAt K C H p ns ∧ WordAt K C H q ms ∧ Q (.bl (decide (ns = ms))) H
section
variable {X : Cx} {C : Addr}
theorem op_eqW (M : EqW X.prog X.w X.K X.mg X.base C) {j : Nat} (hr : Room j X.A) (hj : 1 ≤ j) : OpR X (compareOp .Eq) (rEqW X.K C) := by
  intro pins s σ H x y u v Q I rx ry d
  obtain ⟨f, fd, F, hs, hf, hb⟩ := M.ex
  obtain ⟨a, b, ns, ms, rfl, rfl, W1, W2, hq⟩ := d
  cases rx
  cases ry
  obtain ⟨dx, tl, tk, ks, ha, _⟩ := id W1
  obtain ⟨dx', tl', tk', ks', hb', _⟩ := id W2
  obtain ⟨mA, J, _⟩ := ins_get I.hok ha
  obtain ⟨mB, J', _⟩ := ins_get I.hok hb'
  obtain ⟨od, J, _⟩ := J.look
  obtain ⟨od', J', _⟩ := J'.look
  obtain ⟨m, hF⟩ := I.fr
  have rm : Room 1 X.A := hr.mono hj
  show wpAny (model X.prog X.w) X.A (richCompare .Eq (.ref a) (.ref b)) (EP X pins σ Q) X.xe s
  refine PySem.W.cmp_K (op := .Eq) (tb := .ref C) rm.units0 hF I.ok.mod.kin J J'.type (by simp [PySem.W.notFirst]) hs hf ?_
  have hsp : spEq X.K C [.ref a, .ref b] H (fun v H' => ∃ c, v = .bl c ∧ Q (.bl c) H') E0 := ⟨a, b, ns, ms, rfl, W1, W2, _, rfl, hq⟩
  have e0 : Env0 X.prog X.w X.K X.mg X.base X.A X.stack s H := I.env0
  have hl := F.len _ _ _ _ hsp
  have r2 : Vals [V.ref a, V.ref b] [Value.ref a, Value.ref b] := .cons rfl (.cons rfl .nil)
  refine wpAny_call (codeAny_mono (F.run X.A X.stack s H ⟨[.ref a, .ref b], []⟩ [.ref a, .ref b] [.ref a, .ref b] _ E0 rm e0 (by
    have := hb s [.ref a, .ref b] I.kIn (by simpa using hl)
    simpa using this) r2 hsp) fun r s' hq => ?_)
  cases r with
  | error e => exact pass0 pins σ H s e s' I hq
  | ok fl =>
    cases fl with
    | ret w =>
      obtain ⟨z, H', I', rz, c, ez, q⟩ := I.after hq
      subst ez
      cases rz
      exact ⟨.bl c, H', I', rfl, q⟩
    | next => exact False.elim hq
    | brk => exact False.elim hq
    | cont => exact False.elim hq
end
end W29
set_option Elab.async false
set_option linter.all false
set_option maxRecDepth 100000
set_option maxHeartbeats 2000000
/-! x != y, of two instances whose class has an own == and no own !=. -/
namespace NeK
open PySem PySem.Spec PyProof.Rows PySem.SeqAt
section
variable {M : Model} {prog : Program} {w : World} {A : Around} {E : Value → Shared → Prop} {s : Shared} {K : PySem.W.Frag} {x y f C : Addr} {ox oy : Obj} {od od' : Option Obj}
theorem ne_entry (hu : A.units < cLine) (X : K.In s.heap) (I : PySem.W.InstAt s.heap x ox C od) (hs : PySem.W.findIn K (.ref C) "__eq__" = some (some (.ref f))) (hf : PySem.W.isFn K (.ref f) = true) {Q : Fin → Shared → Prop}
    (hcall : wpAny (model prog w) A (call (.ref f) [.ref x, .ref y]) (fun v s' => ∃ b, v = .bool b ∧ Q (.done (.ret (.bool (!b)))) s') E s) :
    wpAny (model prog w) A (Builtin.«object.__ne__» ⟨[.ref x, .ref y], []⟩) Q E s := by
  unfold Builtin.«object.__ne__»
  repeat (first
    | with_reducible refine wpAny_cRoomFor hu ?_
    | (refine wpAny_bind (m := callSpecialIfBound? (.ref x) (Str.ofString "__eq__") [.ref y])
        (PySem.W.ifBound_K X I hs hf (wpAny_mono hcall (fun r s' hr => by
          obtain ⟨b, rfl, hq⟩ := hr
          repeat (first | exact hq | exact wpAny_pure hq | exact wpAny_truthy_bool hq | (refine wpAny_bind (m := truthy (.bool _)) (wpAny_truthy_bool ?_)) | wp_step)) fun _ _ e => e)))
    | wp_step)
theorem ifBound_ne {args : List Value} {Q : Option Value → Shared → Prop} (X : K.In s.heap) (I : PySem.W.InstAt s.heap x ox C od) (hs : PySem.W.findIn K (.ref C) "__ne__" = some (some (.builtin "object.__ne__")))
    (h : wpAny M A (call (.builtin "object.__ne__") (.ref x :: args)) (fun v => Q (some v)) E s) : wpAny M A (callSpecialIfBound? (.ref x) "__ne__" args) Q E s := by
  simp only [callSpecialIfBound?, bindSpecialIfBound?]
  refine wpAny_holding (wpAny_bind (wpAny_bind (wpAny_bind (I.type.here ((PySem.W.looks_findIn X hs).here ?_)))))
  refine wpAny_bind (wpAny_askSetting (wpAny_ite ?_))
  have fin : wpAny M A (call (.builtin "object.__ne__") ([.ref x] ++ args) >>= fun v => pure (some v)) Q E s := wpAny_bind (wpAny_mono h (fun v s' h' => wpAny_pure h') fun _ _ h' => h')
  split
  · exact wpAny_bind (wpAny_of_eq (F.cmp_object.ne.bind _) (wpAny_pure (by exact fin)))
  · exact wpAny_tryCatch (wpAny_bind (wpAny_of_eq (F.cmp_object.ne.bind _) (wpAny_pure (by exact fin))))
theorem rc_ne (hu : A.units + 1 < cLine) (X : K.In s.heap) (I : PySem.W.InstAt s.heap x ox C od) (I' : PySem.W.InstAt s.heap y oy C od') (hm : PySem.W.mroIn K C (.type "object") = some true) (hs : PySem.W.findIn K (.ref C) "__eq__" = some (some (.ref f))) (hf : PySem.W.isFn K (.ref f) = true)
    (hn : PySem.W.findIn K (.ref C) "__ne__" = some (some (.builtin "object.__ne__"))) {Q : Value → Shared → Prop}
    (hcall : wpAny (model prog w) A.in1 (call (.ref f) [.ref x, .ref y]) (fun v s' => ∃ b, v = .bool b ∧ Q (.bool (!b)) s') E s) :
    wpAny (model prog w) A (richCompare .NotEq (.ref x) (.ref y)) Q E s := by
  have one : wpAny (model prog w) A (tryCompare (.ref x) "__ne__" (.ref y)) (fun r s' => ∃ b, r = some (.bool b) ∧ Q (.bool b) s') E s := by
    unfold tryCompare
    refine wpAny_bind (ifBound_ne X I hn (wpAny_call (codeAny_call_builtin F.cmp_object.ne.plain F.cmpEntry_ne (PySem.W.check_slot F.cmpKind_ne F.cmpSplit_ne (I.type.andThen (PySem.W.looks_mroIn X hm)) (F.cmpArgs_ne _ _)
      (ne_entry (A := A.in1) hu X I hs hf (wpAny_mono hcall (fun v s' hv => ?_) fun _ _ e => e))))))
    obtain ⟨b, rfl, hq⟩ := hv
    first | exact ⟨b, rfl, wpAny_pure ⟨_, rfl, hq⟩⟩ | exact ⟨b, rfl, wpAny_pure (wpAny_pure ⟨_, rfl, hq⟩)⟩ | exact ⟨b, rfl, _, rfl, hq⟩
  unfold richCompare
  simp only [oneThing_ref]
  refine wpAny_holding (wpAny_bind (wpAny_cRoomFor (Nat.lt_of_succ_lt hu) ?_))
  rw [cmpInfo_NotEq]
  dsimp only
  refine wpAny_bind (I.type.here (wpAny_bind (I'.type.here ?_)))
  rw [show (Value.ref C != Value.ref C) = false from by simp]
  simp only [Bool.false_eq_true, if_false]
  refine wpAny_bind (wpAny_pure ?_)
  simp only [Bool.false_eq_true, if_false]
  refine wpAny_bind (wpAny_mono one (fun v s' hv => ?_) fun _ _ e => e)
  obtain ⟨b, rfl, hq⟩ := hv
  first | exact wpAny_pure hq | exact wpAny_pure (wpAny_pure hq) | exact hq
end
end NeK
namespace W29
open PySem L2 PySem.Spec PyProof.Rows WR
def rNeW (K : PySem.W.Frag) (C : Addr) : R2 := fun x y H Q => ∃ (p q : Addr) (ns ms : List Int), x = .ref p ∧ y = .ref q ∧ WordAt K C H p ns ∧ WordAt K C H q ms ∧ Q (.bl (!decide (ns = ms))) H
section
variable {X : Cx} {C : Addr}
theorem op_neW (M : EqW X.prog X.w X.K X.mg X.base C) (hne : PySem.W.findIn X.K (.ref C) "__ne__" = some (some (.builtin "object.__ne__"))) (hmr : PySem.W.mroIn X.K C (.type "object") = some true) {j : Nat} (hr : Room j X.A) (hj : 2 ≤ j) : OpR X (compareOp .NotEq) (rNeW X.K C) := by
  intro pins s σ H x y u v Q I rx ry d
  obtain ⟨f, fd, F, hs, hf, hb⟩ := M.ex
  obtain ⟨a, b, ns, ms, rfl, rfl, W1, W2, hq⟩ := d
  cases rx
  cases ry
  obtain ⟨dx, tl, tk, ks, ha, _⟩ := id W1
  obtain ⟨dx', tl', tk', ks', hb', _⟩ := id W2
  obtain ⟨mA, J, _⟩ := ins_get I.hok ha
  obtain ⟨mB, J', _⟩ := ins_get I.hok hb'
  obtain ⟨od, J, _⟩ := J.look
  obtain ⟨od', J', _⟩ := J'.look
  have rm2 : Room 2 X.A := hr.mono hj
  have rm : Room 1 X.A.in1 := rm2.in1
  show wpAny (model X.prog X.w) X.A (richCompare .NotEq (.ref a) (.ref b)) (EP X pins σ Q) X.xe s
  refine NeK.rc_ne (by have := rm.units0; exact this) I.kIn J J' hmr hs hf hne ?_
  have hsp : spEq X.K C [.ref a, .ref b] H (fun v H' => ∃ c, v = .bl c ∧ Q (.bl (!c)) H') E0 := ⟨a, b, ns, ms, rfl, W1, W2, _, rfl, hq⟩
  have e0 : Env0 X.prog X.w X.K X.mg X.base X.A.in1 X.stack s H := by
    have e := I.env0
    exact ⟨e.frames, e.mod, e.bs, e.bsz, e.funs, e.frf, e.hok, e.bare⟩
  have hl := F.len _ _ _ _ hsp
  have r2 : Vals [V.ref a, V.ref b] [Value.ref a, Value.ref b] := .cons rfl (.cons rfl .nil)
  refine wpAny_call (codeAny_mono (F.run X.A.in1 X.stack s H ⟨[.ref a, .ref b], []⟩ [.ref a, .ref b] [.ref a, .ref b] _ E0 rm e0 (by
    have := hb s [.ref a, .ref b] I.kIn (by simpa using hl)
    simpa using this) r2 hsp) fun r s' hq => ?_)
  cases r with
  | error e => exact pass0 pins σ H s e s' I hq
  | ok fl =>
    cases fl with
    | ret w =>
      obtain ⟨z, H', I', rz, c, ez, q⟩ := I.after hq
      subst ez
      cases rz
      exact ⟨c, rfl, .bl (!c), H', I', rfl, q⟩
    | next => exact False.elim hq
    | brk => exact False.elim hq
    | cont => exact False.elim hq
end
end W29
set_option Elab.async false
set_option linter.all false
set_option maxRecDepth 100000
set_option maxHeartbeats 2000000
namespace W29
open PySem L2 PySem.Spec PyProof.Rows WR
abbrev sPick : Stmt := top 40
def Drew (a c : Addr) (n : Nat) (H H' : Hp) : Prop := HandAt H' a c n ∧ Kept a H H'
theorem HandAt.mono {H : Hp} {a c : Addr} {m n : Nat} (h : HandAt H a c m) (l : m ≤ n) : HandAt H a c n := by
  obtain ⟨ns, i, r, h1, h2, h3, h4, h5, h6, h7⟩ := h
  exact ⟨ns, i, r, h1, h2, h3, h4, h5, by omega, h7⟩
theorem HandAt.off {H : Hp} {a c p : Addr} {n : Nat} {o : HO} (h : HandAt H a c n) (h1 : p ≠ a) (h2 : p ≠ c) : HandAt (L2.upd H p o) a c n := by
  obtain ⟨ns, i, r, h3, h4, h5⟩ := h
  exact ⟨ns, i, r, by rw [upd_ne h1.symm]; exact h3, by rw [upd_ne h2.symm]; exact h4, h5⟩
theorem HandAt.ne {H : Hp} {a c p : Addr} {n : Nat} (h : HandAt H a c n) (hp : H p = none) : p ≠ a := by
  obtain ⟨ns, i, r, h1, _⟩ := h
  exact (ne_of_none h1 hp).symm
theorem HandAt.neC {H : Hp} {a c p : Addr} {n : Nat} (h : HandAt H a c n) (hp : H p = none) : p ≠ c := by
  obtain ⟨ns, i, r, h1, h2, _⟩ := h
  exact (ne_of_none h2 hp).symm
theorem HandAt.new {H : Hp} {a c p : Addr} {n : Nat} {o : HO} (h : HandAt H a c n) (hp : H p = none) : HandAt (L2.upd H p o) a c n := h.off (h.ne hp) (h.neC hp)
theorem Drew.refl {a c : Addr} {n : Nat} {H : Hp} (h : HandAt H a c n) : Drew a c n H H := ⟨h, Kept.refl⟩
theorem Drew.trans {a c : Addr} {m n : Nat} {H H1 H2 : Hp} (h1 : Drew a c m H H1) (h2 : Drew a c n H1 H2) : Drew a c n H H2 := ⟨h2.1, h1.2.trans h2.2⟩
theorem Drew.new {a c p : Addr} {n : Nat} {H H1 : Hp} {o : HO} (h : Drew a c n H H1) (hp : H1 p = none) : Drew a c n H (L2.upd H1 p o) := ⟨h.1.new hp, h.2.new hp⟩
theorem Drew.mono {a c : Addr} {m n : Nat} {H H1 : Hp} (h : Drew a c m H H1) (l : m ≤ n) : Drew a c n H H1 := ⟨h.1.mono l, h.2⟩
/-- an object that was not there at first may change -/
theorem Drew.put {a c p : Addr} {n : Nat} {H H1 : Hp} {o : HO} (h : Drew a c n H H1) (h0 : H p = none) (h1 : p ≠ a) (h2 : p ≠ c) : Drew a c n H (L2.upd H1 p o) :=
  ⟨h.1.off h1 h2, fun b u nb e => by rw [upd_ne (ne_of_none e h0)]; exact h.2 b u nb e⟩
theorem Drew.back {a c p : Addr} {n : Nat} {H H1 : Hp} (h : Drew a c n H H1) (hp : H1 p = none) : H p = none := by
  cases e : H p with
  | none => rfl
  | some o =>
    have q := h.2 p o (h.1.ne hp) e
    rw [hp] at q
    cases q
theorem HandAt.same {H H' : Hp} {a c : Addr} {n : Nat} (h : HandAt H a c n) (s : Same H H') : HandAt H' a c n := by
  obtain ⟨ns, i, r, h1, h2, h3⟩ := h
  exact ⟨ns, i, r, s _ _ h1, s _ _ h2, h3⟩
theorem Drew.same {a c : Addr} {n : Nat} {H H1 H2 : Hp} (h : Drew a c n H H1) (s : Same H1 H2) : Drew a c n H H2 := ⟨h.1.same s, fun b o nb e => s b o (h.2 b o nb e)⟩
/-- a new list of these ints -/
def NewL (H : Hp) (Q : VK) (ns : List Int) : Prop := ∀ p H', H p = none → Same H H' → H' p = some (.lst (iv ns)) → Q (.ref p) H'
def spPick : Sp := fun vs H Q _ => ∃ (a c p : Addr) (xs : List V) (n : Nat), vs = [.ref a, .ref p] ∧ HandAt H a c n ∧ n ≤ 10000 ∧ p ≠ a ∧ H p = some (.lst xs) ∧ 0 < xs.length ∧ xs.length ≤ 1000 ∧ ∀ v ∈ xs, ∀ H', Drew a c (n + 1) H H' → Q v H'
structure TxN (mg : Str → Option Value) : Prop where
  range : mg "range" = none
  list : mg "list" = none
theorem Drew.ofNew {a c p : Addr} {n : Nat} {H H' : Hp} (d : Drew a c n H H') (h0 : HandAt H a c n) {o : HO} (hp : H p = some o) (hn : p ≠ a) : H' p = some o := d.2 _ _ hn hp
section
variable {P : Program} {w : World} {K : PySem.W.Frag} {mg : Str → Option Value} {base : Heap}
theorem scPick : FnScope ["_law_pen_here", "_law_some"] ["_law_pen_here", "_law_some"] (defScope sPick) := ⟨rfl, rfl, rfl, by decide +kernel, rfl, by decide +kernel, by decide +kernel⟩
theorem ok_pick {f : Addr} {fd : FuncData} (F : Fun K "_law_pick" "_law_pick" sPick f fd) (GT : Cal P w K mg base "_law_draw" 1 ["_law_pen_here", "_law_many"] spTake) (T : TxL mg) : FnOk P w K mg base CX0 2 f fd ["_law_pen_here", "_law_some"] spPick := by
  refine F.ok scPick (fun vs H Q E h => ?_) (fun cdv A outer s H vs Q E hr h => ?_)
  · obtain ⟨a, c, p, xs, n, rfl, _⟩ := h
    rfl
  · obtain ⟨a, c, p, xs, n, rfl, hH, hn, hpa, hp, h0, h1, k⟩ := h
    refine ⟨_, pss_one (ps_ret (pe_ix ix_list (pv 1) (pe_cal GT hr (by decide) (by rfl) (pa_cons (pv 0) (pa_cons (pe_callB call_len_seq (by rfl) T.len PySem.boot_len (pa_cons (pv 1) pa_nil)) pa_nil))) (fun _ _ => rfl))), ?_⟩
    refine ⟨_, rfl, _, rfl, _, rfl, p, _, rfl, .inl (SqL.of hp), a, c, _, n, rfl, hH, hn, by omega, ?_, ?_⟩
    · have : (((xs.length : Nat) : Int)).natAbs ≤ 1000 := by omega
      exact Nat.lt_of_le_of_lt this (by decide)
    · intro H' q q0 q1 hH' hK
      obtain ⟨j, rfl⟩ : ∃ j : Nat, q = (j : Int) := ⟨q.toNat, by omega⟩
      have hj : j < xs.length := by omega
      refine ⟨p, xs, _, xs[j], rfl, rfl, SqL.of (hK _ _ hpa hp), atI_nat (List.getElem?_eq_getElem hj), ?_⟩
      exact k _ (List.getElem_mem hj) H' ⟨hH', hK⟩
theorem int_eq {x y : Int} : decide (V.int x = V.int y) = decide (x = y) := by
  rw [Bool.eq_iff_iff, decide_eq_true_iff, decide_eq_true_iff]
  exact ⟨fun e => by injection e, fun e => by rw [e]⟩
end
end W29
set_option Elab.async false
set_option linter.all false
set_option maxRecDepth 100000
set_option maxHeartbeats 4000000
namespace W29
open PySem L2 PySem.Spec PyProof.Rows WR
abbrev sExch : Stmt := top 17
abbrev sWordOf : Stmt := top 28
abbrev sIsPair : Stmt := top 32
abbrev sArePairs : Stmt := top 33
abbrev sNeedPairs : Stmt := top 34
abbrev sProdL : Stmt := top 35
abbrev sProd : Stmt := top 36
def exch (a b : List Int) : List Int := a ++ b ++ Fr.con a ++ Fr.con b
abbrev Pr : Type := List Int × List Int
def prodL (prs : List Pr) : List Int := (prs.map fun p => exch p.1 p.2).flatten
theorem exch_length (a b : List Int) : (exch a b).length = 2 * a.length + 2 * b.length := by
  unfold exch
  simp [Fr.con_length]
  omega
theorem Lts.exch {a b : List Int} (h : Lts a) (k : Lts b) : Lts (W29.exch a b) := ((h.app k).app h.con).app k.con
theorem prodL_length {prs : List Pr} {m : Nat} (h : ∀ p ∈ prs, p.1.length ≤ m ∧ p.2.length ≤ m) : (prodL prs).length ≤ prs.length * (4 * m) := by
  induction prs with
  | nil => simp [prodL]
  | cons p t ih =>
    have h1 := h p List.mem_cons_self
    have h2 := ih fun q hq => h q (List.mem_cons_of_mem _ hq)
    have : prodL (p :: t) = W29.exch p.1 p.2 ++ prodL t := by simp [prodL]
    rw [this, List.length_append, exch_length, List.length_cons, Nat.add_mul]
    omega
theorem prodL_take {prs : List Pr} {i : Nat} {p : Pr} (h : prs[i]? = some p) : prodL (prs.take (i + 1)) = prodL (prs.take i) ++ W29.exch p.1 p.2 := by
  have hi : i < prs.length := (List.getElem?_eq_some_iff.mp h).1
  have hx : prs[i] = p := (List.getElem?_eq_some_iff.mp h).2
  rw [List.take_succ_eq_append_getElem hi, hx]
  simp [prodL]
theorem Lts.prodL {prs : List Pr} (h : ∀ p ∈ prs, Lts p.1 ∧ Lts p.2) : Lts (W29.prodL prs) := by
  intro x hx
  unfold W29.prodL at hx
  obtain ⟨l, hl, hx⟩ := List.mem_flatten.mp hx
  obtain ⟨p, hp, rfl⟩ := List.mem_map.mp hl
  exact (h p hp).1.exch (h p hp).2 x hx
/-! ### two rows side by side -/
inductive All2 {α β : Type} (R : α → β → Prop) : List α → List β → Prop
  | nil : All2 R [] []
  | cons {a : α} {b : β} {as : List α} {bs : List β} (h : R a b) (r : All2 R as bs) : All2 R (a :: as) (b :: bs)
theorem All2.length {α β : Type} {R : α → β → Prop} {as : List α} {bs : List β} (h : All2 R as bs) : as.length = bs.length := by
  induction h with
  | nil => rfl
  | cons _ _ ih => simp [ih]
theorem All2.imp {α β : Type} {R S : α → β → Prop} {as : List α} {bs : List β} (h : All2 R as bs) (k : ∀ a b, R a b → S a b) : All2 S as bs := by
  induction h with
  | nil => exact .nil
  | cons h _ ih => exact .cons (k _ _ h) ih
theorem All2.at {α β : Type} {R : α → β → Prop} {as : List α} {bs : List β} (h : All2 R as bs) : ∀ {i : Nat} {a : α}, as[i]? = some a → ∃ b, bs[i]? = some b ∧ R a b := by
  induction h with
  | nil => intro i a e; simp at e
  | cons h r ih =>
    intro i a e
    cases i with
    | zero => simp at e; subst e; exact ⟨_, by simp, h⟩
    | succ i => simpa using ih (by simpa using e)
theorem All2.mem {α β : Type} {R : α → β → Prop} {as : List α} {bs : List β} (h : All2 R as bs) {a : α} (ha : a ∈ as) : ∃ b, b ∈ bs ∧ R a b := by
  obtain ⟨i, e⟩ := List.mem_iff_getElem?.mp ha
  obtain ⟨b, e2, r⟩ := h.at e
  exact ⟨b, List.mem_of_getElem? e2, r⟩
theorem All2.app {α β : Type} {R : α → β → Prop} {as : List α} {bs : List β} (h : All2 R as bs) {cs : List α} {ds : List β} (k : All2 R cs ds) : All2 R (as ++ cs) (bs ++ ds) := by
  induction h with
  | nil => exact k
  | cons h _ ih => exact .cons h ih
theorem All2.rev {α β : Type} {R : α → β → Prop} {as : List α} {bs : List β} (h : All2 R as bs) : All2 R as.reverse bs.reverse := by
  induction h with
  | nil => exact .nil
  | cons h _ ih =>
    rw [List.reverse_cons, List.reverse_cons]
    exact ih.app (.cons h .nil)
/-! ### what a value is -/
inductive Odd (K : PySem.W.Frag) (C : Addr) (H : Hp) : V → Value → Prop
  | typ {x : V} {t : String} (h : Typ H x t) : Odd K C H x (.type t)
  | word {p : Addr} {ns : List Int} (h : WordAt K C H p ns) : Odd K C H (.ref p) (.ref C)
  | lst {a : Addr} {xs : List V} (h : SqL K H a xs) : Odd K C H (.ref a) (.type "list")
  | tup {a : Addr} {xs : List V} (h : SqT K H a xs) : Odd K C H (.ref a) (.type "tuple")
theorem Odd.same {K : PySem.W.Frag} {C : Addr} {H H' : Hp} {x : V} {t : Value} (h : Odd K C H x t) (s : Same H H') : Odd K C H' x t := by
  cases h with
  | typ h => exact .typ (h.same s)
  | word h => exact .word (h.same s)
  | lst h => exact .lst (s.seq h)
  | tup h => exact .tup (WR.Same.seqT s h)
theorem Odd.tyx {K : PySem.W.Frag} {mg : Str → Option Value} {C : Addr} {H : Hp} {x : V} {t : Value} (h : Odd K C H x t) (T : TxW K mg C) : TyX K H x t := by
  cases h with
  | typ h => exact h.ty
  | word h => exact h.tyx T
  | lst h => exact SqL.tyx h
  | tup h => exact SqT.tyx h
/-- no list and no tuple -/
def NotSq (K : PySem.W.Frag) (C : Addr) (H : Hp) (x : V) : Prop := ∃ t, Odd K C H x t ∧ PySem.W.kitAny K t [.type "list", .type "tuple"] = some false
/-- b: it is a Word -/
def IsW (K : PySem.W.Frag) (C : Addr) (H : Hp) (x : V) (b : Bool) : Prop := ∃ t, Odd K C H x t ∧ PySem.W.kitOne K t (.ref C) = some b
/-- b: it is a pair of Words -/
def IsP (K : PySem.W.Frag) (C : Addr) (H : Hp) (x : V) (b : Bool) : Prop :=
  (NotSq K C H x ∧ b = false) ∨ ∃ (a : Addr) (ys : List V) (f : V → Bool), x = .ref a ∧ SqE K H a ys ∧ ys.length ≤ 1000 ∧ (∀ y ∈ ys, IsW K C H y (f y)) ∧ b = (decide (ys.length = 2) && ys.all f)
/-- b: it is a list of pairs of Words, not too many -/
def IsR (K : PySem.W.Frag) (C : Addr) (H : Hp) (x : V) (b : Bool) : Prop :=
  (NotSq K C H x ∧ b = false) ∨ ∃ (a : Addr) (ys : List V) (f : V → Bool), x = .ref a ∧ SqE K H a ys ∧ ys.length ≤ 1000 ∧ (∀ y ∈ ys, IsP K C H y (f y)) ∧ b = (decide (ys.length ≤ 12) && ys.all f)
section
variable {K : PySem.W.Frag} {C : Addr} {H H' : Hp} {x : V} {b : Bool}
theorem NotSq.same (h : NotSq K C H x) (s : Same H H') : NotSq K C H' x := by
  obtain ⟨t, h1, h2⟩ := h
  exact ⟨t, h1.same s, h2⟩
theorem IsW.same (h : IsW K C H x b) (s : Same H H') : IsW K C H' x b := by
  obtain ⟨t, h1, h2⟩ := h
  exact ⟨t, h1.same s, h2⟩
theorem IsP.same (h : IsP K C H x b) (s : Same H H') : IsP K C H' x b := by
  rcases h with ⟨h, e⟩ | ⟨a, ys, f, e, hS, hl, hf, eb⟩
  · exact .inl ⟨h.same s, e⟩
  · exact .inr ⟨a, ys, f, e, hS.same s, hl, fun y hy => (hf y hy).same s, eb⟩
theorem IsR.same (h : IsR K C H x b) (s : Same H H') : IsR K C H' x b := by
  rcases h with ⟨h, e⟩ | ⟨a, ys, f, e, hS, hl, hf, eb⟩
  · exact .inl ⟨h.same s, e⟩
  · exact .inr ⟨a, ys, f, e, hS.same s, hl, fun y hy => (hf y hy).same s, eb⟩
end
def spListed2 (K : PySem.W.Frag) (C : Addr) : Sp := fun vs H Q _ => ∃ (x : V) (t : Value) (b : Bool), vs = [x] ∧ Odd K C H x t ∧ PySem.W.kitAny K t [.type "list", .type "tuple"] = some b ∧ ∀ H', Same H H' → Q (.bl b) H'
def spIsPair (K : PySem.W.Frag) (C : Addr) : Sp := fun vs H Q _ => ∃ (x : V) (b : Bool), vs = [x] ∧ IsP K C H x b ∧ ∀ H', Same H H' → Q (.bl b) H'
def spArePairs (K : PySem.W.Frag) (C : Addr) : Sp := fun vs H Q _ => ∃ (x : V) (b : Bool), vs = [x] ∧ IsR K C H x b ∧ ∀ H', Same H H' → Q (.bl b) H'
def spExch (K : PySem.W.Frag) : Sp := fun vs H Q _ => ∃ (a b : Addr) (ns ms : List Int), vs = [.ref a, .ref b] ∧ SqT K H a (iv ns) ∧ SqT K H b (iv ms) ∧ ns.length ≤ 1000 ∧ ms.length ≤ 1000 ∧ NewT K H Q (iv (exch ns ms))
/-- a pair of Words, as a list or a tuple -/
def WPr (K : PySem.W.Frag) (C : Addr) (H : Hp) (v : V) (p : Pr) : Prop := ∃ q x y : Addr, v = .ref q ∧ SqE K H q [.ref x, .ref y] ∧ WordAt K C H x p.1 ∧ WordAt K C H y p.2
def WRows (K : PySem.W.Frag) (C : Addr) (H : Hp) (a : Addr) (prs : List Pr) : Prop := ∃ vs, SqE K H a vs ∧ All2 (WPr K C H) vs prs
theorem WPr.same {K : PySem.W.Frag} {C : Addr} {H H' : Hp} {v : V} {p : Pr} (h : WPr K C H v p) (s : Same H H') : WPr K C H' v p := by
  obtain ⟨q, x, y, e, h1, h2, h3⟩ := h
  exact ⟨q, x, y, e, h1.same s, h2.same s, h3.same s⟩
theorem WRows.same {K : PySem.W.Frag} {C : Addr} {H H' : Hp} {a : Addr} {prs : List Pr} (h : WRows K C H a prs) (s : Same H H') : WRows K C H' a prs := by
  obtain ⟨vs, h1, h2⟩ := h
  exact ⟨vs, h1.same s, h2.imp fun _ _ r => r.same s⟩
theorem kseq_l {K : PySem.W.Frag} : PySem.W.kitAny K (.type "list") [.type "list", .type "tuple"] = some true := by rfl
theorem kseq_t {K : PySem.W.Frag} : PySem.W.kitAny K (.type "tuple") [.type "list", .type "tuple"] = some true := (Typ.tup (H := fun _ => some (.tup [])) (p := 0) (xs := []) rfl).kSeq
theorem WRows.isR {K : PySem.W.Frag} {C : Addr} {H : Hp} {a : Addr} {prs : List Pr} (h : WRows K C H a prs) (hl : prs.length ≤ 12) : IsR K C H (.ref a) true := by
  obtain ⟨vs, h1, h2⟩ := h
  have hlen := h2.length
  refine .inr ⟨a, vs, fun _ => true, rfl, h1, by omega, fun v hv => ?_, ?_⟩
  · obtain ⟨p, _, q, x, y, rfl, h3, h4, h5⟩ := h2.mem hv
    refine .inr ⟨q, _, fun _ => true, rfl, h3, by show 2 ≤ 1000; decide, fun z hz => ?_, by simp⟩
    simp only [List.mem_cons, List.mem_nil_iff, or_false] at hz
    rcases hz with rfl | rfl
    · exact ⟨_, .word h4, kit_self C⟩
    · exact ⟨_, .word h5, kit_self C⟩
  · simp
    omega
def spProdL (K : PySem.W.Frag) (C : Addr) : Sp := fun vs H Q _ => ∃ (a : Addr) (prs : List Pr), vs = [.ref a] ∧ WRows K C H a prs ∧ prs.length ≤ 12 ∧ (∀ p ∈ prs, p.1.length ≤ 500 ∧ p.2.length ≤ 500) ∧ ∀ p H', H p = none → Same H H' → H' p = some (.lst (iv (prodL prs))) → Q (.ref p) H'
structure TxQ (mg : Str → Option Value) : Prop where
  most : ∃ t, mg "MOST_PAIRS" = some (.int 12 t)
section
variable {P : Program} {w : World} {K : PySem.W.Frag} {mg : Str → Option Value} {base : Heap}
theorem ok_listed2 {C f : Addr} {fd : FuncData} (F : Fun K "is_listed" "is_listed" sListed f fd) (T : TxI mg) (TW : TxW K mg C) : FnOk P w K mg base CX0 1 f fd ["value"] (spListed2 K C) := by
  refine F.ok scListed (fun vs H Q E h => ?_) (fun cdv A outer s H vs Q E hr h => ?_)
  · obtain ⟨x, t, b, rfl, _⟩ := h
    rfl
  · obtain ⟨x, t, b, rfl, hO, hk, k⟩ := h
    refine ⟨_, pss_one (ps_ret (pe_callB call_isiT (by rfl) T.isin (by decide +kernel) (pa_cons (pv 0) (pa_cons (pe_tup (pa_cons (pe_bltn (v := .ty "list") (by rfl) T.list (by decide +kernel) rfl) (pa_cons (pe_bltn (v := .ty "tuple") (by rfl) T.tuple (by decide +kernel) rfl) pa_nil))) pa_nil)))), ?_⟩
    refine ⟨_, rfl, (by show 2 ≤ sizeLine; decide), fun p hp => ?_⟩
    have sm : Same H (upd H p (.tup [.ty "list", .ty "tuple"])) := same_upd hp
    exact ⟨_, p, _, _, _, _, rfl, upd_same, .cons (.ty _) (.cons (.ty _) .nil), (hO.same sm).tyx TW, hk, k _ sm⟩
theorem scExch : FnScope ["one", "other"] ["one", "other"] (defScope sExch) := ⟨rfl, rfl, rfl, by decide +kernel, rfl, by decide +kernel, by decide +kernel⟩
theorem ok_exch {f : Addr} {fd : FuncData} (F : Fun K "exchange_letters" "exchange_letters" sExch f fd) (GC : Cal P w K mg base "contrary_letters" 1 ["letters"] (spCon K)) : FnOk P w K mg base CX0 2 f fd ["one", "other"] (spExch K) := by
  refine F.ok scExch (fun vs H Q E h => ?_) (fun cdv A outer s H vs Q E hr h => ?_)
  · obtain ⟨a, b, ns, ms, rfl, _⟩ := h
    rfl
  · obtain ⟨a, b, ns, ms, rfl, hA, hB, l1, l2, k⟩ := h
    refine ⟨_, pss_one (ps_ret (pe_op op_catU (pe_op op_catU (pe_op op_catU (pv 0) (pv 1)) (pe_cal GC hr (by decide) (by rfl) (pa_cons (pv 0) pa_nil))) (pe_cal GC hr (by decide) (by rfl) (pa_cons (pv 1) pa_nil)))), ?_⟩
    refine ⟨_, rfl, _, rfl, a, b, _, _, rfl, rfl, hA, hB, Evl.sz_of (by simp only [List.length_map]; omega), fun p1 H1 s1 h1 => ?_⟩
    refine ⟨_, rfl, a, ns, rfl, WR.Same.seqT s1 hA, l1, fun p2 H2 s2 h2 => ?_⟩
    refine ⟨p1, p2, _, _, rfl, rfl, WR.Same.seqT s2 h1, h2, Evl.sz_of (by simp only [List.length_append, List.length_map, Fr.con_length]; omega), fun p3 H3 s3 h3 => ?_⟩
    refine ⟨_, rfl, b, ms, rfl, WR.Same.seqT ((s1.trans s2).trans s3) hB, l2, fun p4 H4 s4 h4 => ?_⟩
    refine ⟨p3, p4, _, _, rfl, rfl, WR.Same.seqT s4 h3, h4, Evl.sz_of (by simp only [List.length_append, List.length_map, Fr.con_length]; omega), fun p5 H5 s5 h5 => ?_⟩
    refine k p5 H5 ((((s1.trans s2).trans s3).trans s4).trans s5) ?_
    have e : iv (W29.exch ns ms) = iv ns ++ iv ms ++ iv (Fr.con ns) ++ iv (Fr.con ms) := by
      unfold W29.exch iv
      simp only [List.map_append]
    rw [e]
    exact h5
end
end W29
set_option Elab.async false
set_option linter.all false
set_option maxRecDepth 100000
set_option maxHeartbeats 4000000
namespace W29
open PySem L2 PySem.Spec PyProof.Rows WR
theorem and_lc {r : List V → Hp → VK → Prop} {wi : TI} {g : TG} {tt : TT} {te : TE} {vs : List Nat} {σ : L2.St} {H : Hp} {Q : VK}
    (h : wi σ H fun J H1 => tLc (fun _ H R => R J H) g tt te vs σ H1 fun x H2 => r [x] H2 Q) : tCB r (tCons (tLc wi g tt te vs) tNil) σ H Q := h
theorem all_eq {ys : List V} {f : V → Bool} : ((ys.filter fun _ => true).map fun y => V.bl (f y)) = (ys.map f).map V.bl := by
  rw [List.filter_eq_self.mpr (fun _ _ => rfl), List.map_map]
  rfl
theorem all_id {ys : List V} {f : V → Bool} : (ys.map f).all id = ys.all f := by
  rw [List.all_map]
  rfl
section
variable {P : Program} {w : World} {K : PySem.W.Frag} {mg : Str → Option Value} {base : Heap}
theorem scIsPair : FnScope ["value", "part"] ["value"] (defScope sIsPair) := ⟨rfl, rfl, rfl, by decide +kernel, rfl, by decide +kernel, by decide +kernel⟩
theorem scArePairs : FnScope ["value", "pair"] ["value"] (defScope sArePairs) := ⟨rfl, rfl, rfl, by decide +kernel, rfl, by decide +kernel, by decide +kernel⟩
theorem ok_isPair {C f : Addr} {fd : FuncData} (F : Fun K "is_word_pair" "is_word_pair" sIsPair f fd) (T : TxW K mg C) (TA : TxA mg) (GL : Cal P w K mg base "is_listed" 1 ["value"] (spListed2 K C)) : FnOk P w K mg base CX0 2 f fd ["value"] (spIsPair K C) := by
  refine F.ok scIsPair (fun vs H Q E h => ?_) (fun cdv A outer s H vs Q E hr h => ?_)
  · obtain ⟨x, b, rfl, _⟩ := h
    rfl
  · obtain ⟨x, b, rfl, hP, k⟩ := h
    rcases hP with ⟨hN, eb⟩ | ⟨a, ys, f, rfl, hS | hS, hl, hf, eb⟩
    · refine ⟨_, pss_one (ps_ret (pe_and (pe_cal GL hr (by decide) (by rfl) (pa_cons (pv 0) pa_nil)) (pe_and (pe_cmpR op_eq (pe_callB call_len_seq (by rfl) TA.len PySem.boot_len (pa_cons (pv 0) pa_nil)) pe_int (nomark _))
        (pe_one (pe_callB (cr_all rfl) (by rfl) T.all (by decide +kernel) (pa_cons (pe_lc (own := [("part", 1)]) (g := gName 1) (tt := tYes) rfl scIsPair.nd (pi_list (pv 0))
          (blkOk_by (N := ["value", "part"]) (sc := defScope sIsPair) (by decide +kernel)) (fun _ _ _ _ _ => pg_name (i := 1) scIsPair.nd rfl (Or.inl rfl)) (fun _ _ _ _ _ => pts_nil)
          (fun _ _ _ _ _ => pe_callB (r := rIsi K) (id := "isinstance") call_isi (by rfl) T.isin (by decide +kernel) (pa_cons (pv 1) (pa_cons (pe_glob (v := .ref C) (by rfl) T.mgW rfl) pa_nil)))) pa_nil)))))), ?_⟩
      obtain ⟨t, hO, hk⟩ := hN
      refine ⟨_, rfl, x, t, false, rfl, hO, hk, fun H1 s1 => ⟨_, rfl, ?_⟩⟩
      refine iteF ?_
      rw [eb] at k
      exact k H1 s1
    · refine ⟨_, pss_one (ps_ret (pe_and (pe_cal GL hr (by decide) (by rfl) (pa_cons (pv 0) pa_nil)) (pe_and (pe_cmpR op_eq (pe_callB call_len_seq (by rfl) TA.len PySem.boot_len (pa_cons (pv 0) pa_nil)) pe_int (nomark _))
        (pe_one (pe_callB (cr_all rfl) (by rfl) T.all (by decide +kernel) (pa_cons (pe_lc (own := [("part", 1)]) (g := gName 1) (tt := tYes) rfl scIsPair.nd (pi_list (pv 0))
          (blkOk_by (N := ["value", "part"]) (sc := defScope sIsPair) (by decide +kernel)) (fun _ _ _ _ _ => pg_name (i := 1) scIsPair.nd rfl (Or.inl rfl)) (fun _ _ _ _ _ => pts_nil)
          (fun _ _ _ _ _ => pe_callB (r := rIsi K) (id := "isinstance") call_isi (by rfl) T.isin (by decide +kernel) (pa_cons (pv 1) (pa_cons (pe_glob (v := .ref C) (by rfl) T.mgW rfl) pa_nil)))) pa_nil)))))), ?_⟩
      refine ⟨_, rfl, _, _, true, rfl, .lst hS, kseq_l, fun H1 s1 => ⟨_, rfl, ?_⟩⟩
      refine iteT ?_
      have ed : decide (V.int ((ys.length : Nat) : Int) = V.int 2) = decide (ys.length = 2) := by rw [int_eq, decide_eq_decide]; omega
      refine ⟨_, rfl, a, _, rfl, .inl (s1.seq hS), rfl, _, rfl, ?_⟩
      rw [ed]
      refine ite2 (fun h2 => ?_) (fun h2 => ?_)
      · refine and_lc ?_
        refine ⟨_, rfl, a, rfl, ⟨_, s1.seq hS⟩, ?_⟩
        refine lcp (walk_list (xs := ys)) (fun _ => true) (fun y => .bl (f y)) (by omega) (fun H2 s2 => (s1.trans s2).seq hS) ?_ ?_
        · intro y hy H2 s2 Qy Qn ky kn
          obtain ⟨t, hO, hk⟩ := (hf y hy).same (s1.trans s2)
          refine ⟨rfl, yes_te ?_⟩
          exact ⟨_, rfl, _, _, _, _, _, rfl, .own C, hO.tyx T, hk, ky rfl H2 (fun _ _ e => e)⟩
        · intro D H2 hD s2 h2'
          refine ⟨D, ys.map f, rfl, SqL.of (by rw [h2', all_eq]), ?_⟩
          rw [all_id]
          have e : b = ys.all f := by rw [eb, h2, Bool.true_and]
          rw [← e]
          exact k H2 (s1.trans s2)
      · have e : b = false := by rw [eb, Bool.eq_false_iff.mpr h2, Bool.false_and]
        rw [e] at k
        exact k H1 s1
    · refine ⟨_, pss_one (ps_ret (pe_and (pe_cal GL hr (by decide) (by rfl) (pa_cons (pv 0) pa_nil)) (pe_and (pe_cmpR op_eq (pe_callB call_len_seq (by rfl) TA.len PySem.boot_len (pa_cons (pv 0) pa_nil)) pe_int (nomark _))
        (pe_one (pe_callB (cr_all rfl) (by rfl) T.all (by decide +kernel) (pa_cons (pe_lc (own := [("part", 1)]) (g := gName 1) (tt := tYes) rfl scIsPair.nd (pi_tup (pv 0))
          (blkOk_by (N := ["value", "part"]) (sc := defScope sIsPair) (by decide +kernel)) (fun _ _ _ _ _ => pg_name (i := 1) scIsPair.nd rfl (Or.inl rfl)) (fun _ _ _ _ _ => pts_nil)
          (fun _ _ _ _ _ => pe_callB (r := rIsi K) (id := "isinstance") call_isi (by rfl) T.isin (by decide +kernel) (pa_cons (pv 1) (pa_cons (pe_glob (v := .ref C) (by rfl) T.mgW rfl) pa_nil)))) pa_nil)))))), ?_⟩
      refine ⟨_, rfl, _, _, true, rfl, .tup hS, kseq_t, fun H1 s1 => ⟨_, rfl, ?_⟩⟩
      refine iteT ?_
      have ed : decide (V.int ((ys.length : Nat) : Int) = V.int 2) = decide (ys.length = 2) := by rw [int_eq, decide_eq_decide]; omega
      refine ⟨_, rfl, a, _, rfl, .inr (WR.Same.seqT s1 hS), rfl, _, rfl, ?_⟩
      rw [ed]
      refine ite2 (fun h2 => ?_) (fun h2 => ?_)
      · refine and_lc ?_
        refine ⟨_, rfl, a, rfl, ⟨_, WR.Same.seqT s1 hS⟩, ?_⟩
        refine lcp (walk_tup (xs := ys)) (fun _ => true) (fun y => .bl (f y)) (by omega) (fun H2 s2 => WR.Same.seqT (s1.trans s2) hS) ?_ ?_
        · intro y hy H2 s2 Qy Qn ky kn
          obtain ⟨t, hO, hk⟩ := (hf y hy).same (s1.trans s2)
          refine ⟨rfl, yes_te ?_⟩
          exact ⟨_, rfl, _, _, _, _, _, rfl, .own C, hO.tyx T, hk, ky rfl H2 (fun _ _ e => e)⟩
        · intro D H2 hD s2 h2'
          refine ⟨D, ys.map f, rfl, SqL.of (by rw [h2', all_eq]), ?_⟩
          rw [all_id]
          have e : b = ys.all f := by rw [eb, h2, Bool.true_and]
          rw [← e]
          exact k H2 (s1.trans s2)
      · have e : b = false := by rw [eb, Bool.eq_false_iff.mpr h2, Bool.false_and]
        rw [e] at k
        exact k H1 s1
theorem ok_arePairs {C f : Addr} {fd : FuncData} (F : Fun K "are_word_pairs" "are_word_pairs" sArePairs f fd) (T : TxW K mg C) (TA : TxA mg) (GL : Cal P w K mg base "is_listed" 1 ["value"] (spListed2 K C)) (TQ : TxQ mg) (GP : Cal P w K mg base "is_word_pair" 2 ["value"] (spIsPair K C)) : FnOk P w K mg base CX0 3 f fd ["value"] (spArePairs K C) := by
  refine F.ok scArePairs (fun vs H Q E h => ?_) (fun cdv A outer s H vs Q E hr h => ?_)
  · obtain ⟨x, b, rfl, _⟩ := h
    rfl
  · obtain ⟨x, b, rfl, hP, k⟩ := h
    obtain ⟨tm, mM⟩ := TQ.most
    rcases hP with ⟨hN, eb⟩ | ⟨a, ys, f, rfl, hS | hS, hl, hf, eb⟩
    · refine ⟨_, pss_one (ps_ret (pe_and (pe_cal GL hr (by decide) (by rfl) (pa_cons (pv 0) pa_nil)) (pe_and (pe_cmpR op_le (pe_callB call_len_seq (by rfl) TA.len PySem.boot_len (pa_cons (pv 0) pa_nil)) (pe_glob (v := .int 12) (by rfl) mM ⟨_, rfl⟩) (nomark _))
        (pe_one (pe_callB (cr_all rfl) (by rfl) T.all (by decide +kernel) (pa_cons (pe_lc (own := [("pair", 1)]) (g := gName 1) (tt := tYes) rfl scArePairs.nd (pi_list (pv 0))
          (blkOk_by (N := ["value", "pair"]) (sc := defScope sArePairs) (by decide +kernel)) (fun _ _ _ _ _ => pg_name (i := 1) scArePairs.nd rfl (Or.inl rfl)) (fun _ _ _ _ _ => pts_nil)
          (fun _ _ _ _ _ => pe_cal GP hr (by decide) (by rfl) (pa_cons (pv 1) pa_nil))) pa_nil)))))), ?_⟩
      obtain ⟨t, hO, hk⟩ := hN
      refine ⟨_, rfl, x, t, false, rfl, hO, hk, fun H1 s1 => ⟨_, rfl, ?_⟩⟩
      refine iteF ?_
      rw [eb] at k
      exact k H1 s1
    · refine ⟨_, pss_one (ps_ret (pe_and (pe_cal GL hr (by decide) (by rfl) (pa_cons (pv 0) pa_nil)) (pe_and (pe_cmpR op_le (pe_callB call_len_seq (by rfl) TA.len PySem.boot_len (pa_cons (pv 0) pa_nil)) (pe_glob (v := .int 12) (by rfl) mM ⟨_, rfl⟩) (nomark _))
        (pe_one (pe_callB (cr_all rfl) (by rfl) T.all (by decide +kernel) (pa_cons (pe_lc (own := [("pair", 1)]) (g := gName 1) (tt := tYes) rfl scArePairs.nd (pi_list (pv 0))
          (blkOk_by (N := ["value", "pair"]) (sc := defScope sArePairs) (by decide +kernel)) (fun _ _ _ _ _ => pg_name (i := 1) scArePairs.nd rfl (Or.inl rfl)) (fun _ _ _ _ _ => pts_nil)
          (fun _ _ _ _ _ => pe_cal GP hr (by decide) (by rfl) (pa_cons (pv 1) pa_nil))) pa_nil)))))), ?_⟩
      refine ⟨_, rfl, _, _, true, rfl, .lst hS, kseq_l, fun H1 s1 => ⟨_, rfl, ?_⟩⟩
      refine iteT ?_
      have ed : decide (((ys.length : Nat) : Int) ≤ 12) = decide (ys.length ≤ 12) := by rw [decide_eq_decide]; omega
      refine ⟨_, rfl, a, _, rfl, .inl (s1.seq hS), _, _, rfl, rfl, _, rfl, ?_⟩
      rw [ed]
      refine ite2 (fun h2 => ?_) (fun h2 => ?_)
      · refine and_lc ?_
        refine ⟨_, rfl, a, rfl, ⟨_, s1.seq hS⟩, ?_⟩
        refine lcp (walk_list (xs := ys)) (fun _ => true) (fun y => .bl (f y)) (by omega) (fun H2 s2 => (s1.trans s2).seq hS) ?_ ?_
        · intro y hy H2 s2 Qy Qn ky kn
          refine ⟨rfl, yes_te ?_⟩
          exact ⟨_, rfl, y, _, rfl, (hf y hy).same (s1.trans s2), fun H3 s3 => ky rfl H3 s3⟩
        · intro D H2 hD s2 h2'
          refine ⟨D, ys.map f, rfl, SqL.of (by rw [h2', all_eq]), ?_⟩
          rw [all_id]
          have e : b = ys.all f := by rw [eb, h2, Bool.true_and]
          rw [← e]
          exact k H2 (s1.trans s2)
      · have e : b = false := by rw [eb, Bool.eq_false_iff.mpr h2, Bool.false_and]
        rw [e] at k
        exact k H1 s1
    · refine ⟨_, pss_one (ps_ret (pe_and (pe_cal GL hr (by decide) (by rfl) (pa_cons (pv 0) pa_nil)) (pe_and (pe_cmpR op_le (pe_callB call_len_seq (by rfl) TA.len PySem.boot_len (pa_cons (pv 0) pa_nil)) (pe_glob (v := .int 12) (by rfl) mM ⟨_, rfl⟩) (nomark _))
        (pe_one (pe_callB (cr_all rfl) (by rfl) T.all (by decide +kernel) (pa_cons (pe_lc (own := [("pair", 1)]) (g := gName 1) (tt := tYes) rfl scArePairs.nd (pi_tup (pv 0))
          (blkOk_by (N := ["value", "pair"]) (sc := defScope sArePairs) (by decide +kernel)) (fun _ _ _ _ _ => pg_name (i := 1) scArePairs.nd rfl (Or.inl rfl)) (fun _ _ _ _ _ => pts_nil)
          (fun _ _ _ _ _ => pe_cal GP hr (by decide) (by rfl) (pa_cons (pv 1) pa_nil))) pa_nil)))))), ?_⟩
      refine ⟨_, rfl, _, _, true, rfl, .tup hS, kseq_t, fun H1 s1 => ⟨_, rfl, ?_⟩⟩
      refine iteT ?_
      have ed : decide (((ys.length : Nat) : Int) ≤ 12) = decide (ys.length ≤ 12) := by rw [decide_eq_decide]; omega
      refine ⟨_, rfl, a, _, rfl, .inr (WR.Same.seqT s1 hS), _, _, rfl, rfl, _, rfl, ?_⟩
      rw [ed]
      refine ite2 (fun h2 => ?_) (fun h2 => ?_)
      · refine and_lc ?_
        refine ⟨_, rfl, a, rfl, ⟨_, WR.Same.seqT s1 hS⟩, ?_⟩
        refine lcp (walk_tup (xs := ys)) (fun _ => true) (fun y => .bl (f y)) (by omega) (fun H2 s2 => WR.Same.seqT (s1.trans s2) hS) ?_ ?_
        · intro y hy H2 s2 Qy Qn ky kn
          refine ⟨rfl, yes_te ?_⟩
          exact ⟨_, rfl, y, _, rfl, (hf y hy).same (s1.trans s2), fun H3 s3 => ky rfl H3 s3⟩
        · intro D H2 hD s2 h2'
          refine ⟨D, ys.map f, rfl, SqL.of (by rw [h2', all_eq]), ?_⟩
          rw [all_id]
          have e : b = ys.all f := by rw [eb, h2, Bool.true_and]
          rw [← e]
          exact k H2 (s1.trans s2)
      · have e : b = false := by rw [eb, Bool.eq_false_iff.mpr h2, Bool.false_and]
        rw [e] at k
        exact k H1 s1
end
end W29
set_option Elab.async false
set_option linter.all false
set_option maxRecDepth 100000
set_option maxHeartbeats 4000000
namespace W29
open PySem L2 PySem.Spec PyProof.Rows WR
section
variable {P : Program} {w : World} {K : PySem.W.Frag} {mg : Str → Option Value} {base : Heap}
abbrev nProdL : List Str := ["pairs", "letters", "one", "other"]
theorem scProdL : FnScope nProdL ["pairs"] (defScope sProdL) := ⟨rfl, rfl, rfl, by decide +kernel, rfl, by decide +kernel, by decide +kernel⟩
theorem ok_prodL {C f : Addr} {fd : FuncData} (F : Fun K "product_letters" "product_letters" sProdL f fd) (T : TxW K mg C) (GE : Cal P w K mg base "exchange_letters" 2 ["one", "other"] (spExch K)) : FnOk P w K mg base CX0 3 f fd ["pairs"] (spProdL K C) := by
  refine F.ok scProdL (fun vs H Q E h => ?_) (fun cdv A outer s H vs Q E hr h => ?_)
  · obtain ⟨a, prs, rfl, _⟩ := h
    rfl
  · obtain ⟨a, prs, rfl, ⟨ws, hS, h2⟩, hlen, hm, k⟩ := h
    rcases hS with hS | hS
    · refine ⟨_, pss_cons (ps_set (i := 1) scProdL.nd rfl (Or.inl rfl) (pe_lst pa_nil))
        (pss_cons (ps_for PassesOwn.never rfl (pi_list (pv 0)) (UL.pg_either rfl (pgs_cons (pg_name (i := 2) scProdL.nd rfl (Or.inl rfl)) (pgs_cons (pg_name (i := 3) scProdL.nd rfl (Or.inl rfl)) pgs_nil)))
          (pss_one (ps_expr (pe_bm PySem.F.plainAttrs_list PySem.F.slot_list_extend PySem.F.type_list_extend XT.mt_extT (pv 1) (pa_cons (pe_cal GE hr (by decide) (by rfl) (pa_cons (pe_fld (pv 2) rfl) (pa_cons (pe_fld (pv 3) rfl) pa_nil))) pa_nil)))))
        (pss_one (ps_ret (pv 1)))), ?_⟩
      refine ⟨Nat.zero_le _, fun l hl => ?_⟩
      refine ⟨_, rfl, a, rfl, ⟨_, (same_upd (o := HO.lst []) hl).seq hS⟩, for_list (K := K) (a := a) (xs := ws) (fun i σ H' => ∃ v1 v2 : Option V, σ = [some (.ref a), some (.ref l), v1, v2] ∧ Same H H' ∧ H' l = some (.lst (iv (prodL (prs.take i)))))
        ⟨none, none, rfl, same_upd hl, by rw [upd_same]; rfl⟩ (fun i σ H1 _ ⟨_, _, _, s, _⟩ => (s).seq hS) ?_ ?_⟩
      · rintro i y σ H1 hi ⟨v1, v2, rfl, sm, hL⟩
        obtain ⟨p, hp, q, x, z, rfl, h3, h4, h5⟩ := h2.at hi
        have hil : i < prs.length := (List.getElem?_eq_some_iff.mp hp).1
        obtain ⟨m1, m2⟩ := hm p (List.mem_of_getElem? hp)
        obtain ⟨dx, tl, tk, ks, w1, w2, _⟩ := h4.same sm
        obtain ⟨dx', tl', tk', ks', w1', w2', _⟩ := h5.same sm
        have hb : (prodL (prs.take i)).length ≤ (prs.take i).length * (4 * 500) := prodL_length fun p hp => hm p (List.mem_of_mem_take hp)
        rw [List.length_take] at hb
        have hx := exch_length p.1 p.2
        refine ⟨q, _, rfl, h3.same sm, rfl, _, _, rfl, _, _, rfl, rfl, ?_⟩
        refine ⟨_, rfl, .inl ⟨rfl, _, SqL.of hL⟩, ?_⟩
        refine ⟨_, rfl, x, C, dx, _, _, rfl, w1, T.cl, T.nL, wf_letters, _, rfl, z, C, dx', _, _, rfl, w1', T.cl, T.nL, wf_letters, ?_⟩
        refine ⟨tl, tl', p.1, p.2, rfl, w2, w2', by omega, by omega, fun p1 H2 s2 h => ?_⟩
        have hL2 := s2 _ _ hL
        refine ⟨l, p1, _, _, rfl, rfl, hL2, h, Evl.sz_of (by simp only [List.length_map]; omega), ?_⟩
        refine ⟨_, _, rfl, fun b o e => ?_, ?_⟩
        · rw [upd_ne (ne_of_none e hl)]
          exact s2 _ _ (sm _ _ e)
        · rw [upd_same, prodL_take hp]
          simp [iv]
      · rintro σ H1 ⟨v1, v2, rfl, sm, hL⟩
        rw [h2.length, List.take_length] at hL
        exact ⟨_, rfl, k l H1 hl sm hL⟩
    · refine ⟨_, pss_cons (ps_set (i := 1) scProdL.nd rfl (Or.inl rfl) (pe_lst pa_nil))
        (pss_cons (ps_for PassesOwn.never rfl (pi_tup (pv 0)) (UL.pg_either rfl (pgs_cons (pg_name (i := 2) scProdL.nd rfl (Or.inl rfl)) (pgs_cons (pg_name (i := 3) scProdL.nd rfl (Or.inl rfl)) pgs_nil)))
          (pss_one (ps_expr (pe_bm PySem.F.plainAttrs_list PySem.F.slot_list_extend PySem.F.type_list_extend XT.mt_extT (pv 1) (pa_cons (pe_cal GE hr (by decide) (by rfl) (pa_cons (pe_fld (pv 2) rfl) (pa_cons (pe_fld (pv 3) rfl) pa_nil))) pa_nil)))))
        (pss_one (ps_ret (pv 1)))), ?_⟩
      refine ⟨Nat.zero_le _, fun l hl => ?_⟩
      refine ⟨_, rfl, a, rfl, ⟨_, WR.Same.seqT (same_upd (o := HO.lst []) hl) hS⟩, for_tup (K := K) (a := a) (xs := ws) (fun i σ H' => ∃ v1 v2 : Option V, σ = [some (.ref a), some (.ref l), v1, v2] ∧ Same H H' ∧ H' l = some (.lst (iv (prodL (prs.take i)))))
        ⟨none, none, rfl, same_upd hl, by rw [upd_same]; rfl⟩ (fun i σ H1 _ ⟨_, _, _, s, _⟩ => WR.Same.seqT (s) hS) ?_ ?_⟩
      · rintro i y σ H1 hi ⟨v1, v2, rfl, sm, hL⟩
        obtain ⟨p, hp, q, x, z, rfl, h3, h4, h5⟩ := h2.at hi
        have hil : i < prs.length := (List.getElem?_eq_some_iff.mp hp).1
        obtain ⟨m1, m2⟩ := hm p (List.mem_of_getElem? hp)
        obtain ⟨dx, tl, tk, ks, w1, w2, _⟩ := h4.same sm
        obtain ⟨dx', tl', tk', ks', w1', w2', _⟩ := h5.same sm
        have hb : (prodL (prs.take i)).length ≤ (prs.take i).length * (4 * 500) := prodL_length fun p hp => hm p (List.mem_of_mem_take hp)
        rw [List.length_take] at hb
        have hx := exch_length p.1 p.2
        refine ⟨q, _, rfl, h3.same sm, rfl, _, _, rfl, _, _, rfl, rfl, ?_⟩
        refine ⟨_, rfl, .inl ⟨rfl, _, SqL.of hL⟩, ?_⟩
        refine ⟨_, rfl, x, C, dx, _, _, rfl, w1, T.cl, T.nL, wf_letters, _, rfl, z, C, dx', _, _, rfl, w1', T.cl, T.nL, wf_letters, ?_⟩
        refine ⟨tl, tl', p.1, p.2, rfl, w2, w2', by omega, by omega, fun p1 H2 s2 h => ?_⟩
        have hL2 := s2 _ _ hL
        refine ⟨l, p1, _, _, rfl, rfl, hL2, h, Evl.sz_of (by simp only [List.length_map]; omega), ?_⟩
        refine ⟨_, _, rfl, fun b o e => ?_, ?_⟩
        · rw [upd_ne (ne_of_none e hl)]
          exact s2 _ _ (sm _ _ e)
        · rw [upd_same, prodL_take hp]
          simp [iv]
      · rintro σ H1 ⟨v1, v2, rfl, sm, hL⟩
        rw [h2.length, List.take_length] at hL
        exact ⟨_, rfl, k l H1 hl sm hL⟩
end
/-! ### the errors -/
abbrev sInitB : Stmt := inClass (top 3) 0
abbrev sInitT : Stmt := inClass (top 4) 0
def spI1 (C : Addr) : Sp := fun vs H Q _ => ∃ (a : Addr) (v : V), vs = [.ref a, v] ∧ H a = some (exo a C none) ∧ ∀ dx, H dx = none → dx ≠ a → Q .non (L2.upd (L2.upd H dx (exd dx [("part", v)])) a (exo a C (some dx)))
def spI2 (C : Addr) : Sp := fun vs H Q _ => ∃ (a : Addr) (v u : V), vs = [.ref a, v, u] ∧ H a = some (exo a C none) ∧ ∀ dx, H dx = none → dx ≠ a → Q .non (L2.upd (L2.upd (L2.upd H dx (exd dx [("what", v)])) a (exo a C (some dx))) dx (exd dx [("most", u), ("what", v)]))
structure ErrC (P : Program) (w : World) (K : PySem.W.Frag) (mg : Str → Option Value) (base : Heap) (C : Addr) (x : Str) (ps : List Str) (sp : Sp) : Prop where
  oex : OexC K C
  ini : ∃ (fI : Addr) (fd : FuncData), PySem.W.findIn K (.ref C) "__init__" = some (some (.ref fI)) ∧ PySem.W.typeIn K (.ref fI) = some (.type "function") ∧ FnOk P w K mg base CX0 1 fI fd ps sp ∧ Binds K fd ps []
  g : mg x = some (.ref C)
  xf : XfC K C
  te : PySem.W.exmOne K (.ref C) (.ref C) = some true
section
variable {P : Program} {w : World} {K : PySem.W.Frag} {mg : Str → Option Value} {base : Heap}
theorem scInitB : FnScope ["self", "part"] ["self", "part"] (defScope sInitB) := ⟨rfl, rfl, rfl, by decide +kernel, rfl, by decide +kernel, by decide +kernel⟩
theorem scInitT : FnScope ["self", "what", "most"] ["self", "what", "most"] (defScope sInitT) := ⟨rfl, rfl, rfl, by decide +kernel, rfl, by decide +kernel, by decide +kernel⟩
theorem ok_initB {C f : Addr} {fd : FuncData} (F : Fun K "__init__" "BadWord.__init__" sInitB f fd) (O : OexC K C) (n1 : PySem.W.findIn K (.ref C) "part" = some none) : FnOk P w K mg base CX0 1 f fd ["self", "part"] (spI1 C) := by
  refine F.ok scInitB (fun vs H Q E h => ?_) (fun cdv A outer s H vs Q E hr h => ?_)
  · obtain ⟨a, v, rfl, _⟩ := h
    rfl
  · obtain ⟨a, v, rfl, hA, k⟩ := h
    refine ⟨_, pss_one (ps_ost (pv 0) (pv 1)), ?_⟩
    exact ⟨_, rfl, _, rfl, a, C, rfl, O, n1, .inl ⟨hA, fun dx h1 h2 => k dx h1 h2⟩⟩
theorem ok_initT {C f : Addr} {fd : FuncData} (F : Fun K "__init__" "TooMany.__init__" sInitT f fd) (O : OexC K C) (n1 : PySem.W.findIn K (.ref C) "what" = some none) (n2 : PySem.W.findIn K (.ref C) "most" = some none) : FnOk P w K mg base CX0 1 f fd ["self", "what", "most"] (spI2 C) := by
  refine F.ok scInitT (fun vs H Q E h => ?_) (fun cdv A outer s H vs Q E hr h => ?_)
  · obtain ⟨a, v, u, rfl, _⟩ := h
    rfl
  · obtain ⟨a, v, u, rfl, hA, k⟩ := h
    refine ⟨_, pss_cons (ps_ost (pv 0) (pv 1)) (pss_one (ps_ost (pv 0) (pv 2))), ?_⟩
    refine ⟨_, rfl, _, rfl, a, C, rfl, O, n1, .inl ⟨hA, fun dx h1 h2 => ?_⟩⟩
    refine ⟨_, rfl, _, rfl, a, C, rfl, O, n2, .inr ⟨dx, _, upd_same, by rw [upd_ne h2, upd_same], by show 1 ≤ 900; decide, k dx h1 h2⟩⟩
end
theorem heap1 {H : Hp} {a d : Addr} {e1 e2 e3 o : HO} (ha : H a = none) (hd : d ≠ a) : L2.upd (del (L2.upd (L2.upd (L2.upd H a e1) d e2) a e3) a) d o = L2.upd H d o := by
  funext b
  by_cases h1 : b = d
  · subst h1
    rw [upd_same, upd_same]
  · rw [upd_ne h1, upd_ne h1]
    by_cases h2 : b = a
    · subst h2
      rw [del_same, ha]
    · rw [del_ne h2, upd_ne h2, upd_ne h1, upd_ne h2]
theorem heap2 {H : Hp} {a d : Addr} {e1 e2 e3 e4 o : HO} (ha : H a = none) (hd : d ≠ a) : L2.upd (del (L2.upd (L2.upd (L2.upd (L2.upd H a e1) d e2) a e3) d e4) a) d o = L2.upd H d o := by
  funext b
  by_cases h1 : b = d
  · subst h1
    rw [upd_same, upd_same]
  · rw [upd_ne h1, upd_ne h1]
    by_cases h2 : b = a
    · subst h2
      rw [del_same, ha]
    · rw [del_ne h2, upd_ne h1, upd_ne h2, upd_ne h1, upd_ne h2]
theorem mk1 {C : Addr} {H : Hp} {v : V} {Q : XK} (k : ∀ d, H d = none → Q (.ref C) (some d) (L2.upd H d (.xd [("part", v)]))) : ∀ a, H a = none → spI1 C [.ref a, v] (L2.upd H a (exo a C none))
    (fun z H2 => z = .non ∧ ∃ (d : Addr) (fs : List (Str × V)), H2 a = some (exo a C (some d)) ∧ H2 d = some (exd d fs) ∧ H d = none ∧ Q (.ref C) (some d) (L2.upd (del H2 a) d (.xd fs))) (fun _ _ _ => False) := by
  intro a ha
  refine ⟨a, v, rfl, upd_same, fun dx h1 h2 => ⟨rfl, dx, _, upd_same, by rw [upd_ne h2, upd_same], by rw [upd_ne h2] at h1; exact h1, ?_⟩⟩
  rw [heap1 ha h2]
  exact k dx (by rw [upd_ne h2] at h1; exact h1)
theorem mk2 {C : Addr} {H : Hp} {v u : V} {Q : XK} (k : ∀ d, H d = none → Q (.ref C) (some d) (L2.upd H d (.xd [("most", u), ("what", v)]))) : ∀ a, H a = none → spI2 C [.ref a, v, u] (L2.upd H a (exo a C none))
    (fun z H2 => z = .non ∧ ∃ (d : Addr) (fs : List (Str × V)), H2 a = some (exo a C (some d)) ∧ H2 d = some (exd d fs) ∧ H d = none ∧ Q (.ref C) (some d) (L2.upd (del H2 a) d (.xd fs))) (fun _ _ _ => False) := by
  intro a ha
  refine ⟨a, v, u, rfl, upd_same, fun dx h1 h2 => ⟨rfl, dx, _, by rw [upd_ne h2.symm, upd_same], upd_same, by rw [upd_ne h2] at h1; exact h1, ?_⟩⟩
  rw [heap2 ha h2]
  exact k dx (by rw [upd_ne h2] at h1; exact h1)
end W29
set_option Elab.async false
set_option linter.all false
set_option maxRecDepth 100000
set_option maxHeartbeats 4000000
namespace W29
open PySem L2 PySem.Spec PyProof.Rows WR
/-- BadWord with this part -/
abbrev BadW (CB : Addr) (E : XK) (H : Hp) (z : Str) : Prop := ∀ H1, Same H H1 → ∀ d, H1 d = none → E (.ref CB) (some d) (L2.upd H1 d (.xd [(("part" : Str), .str z)]))
/-- TooMany letters -/
abbrev BadM (CT : Addr) (E : XK) (H : Hp) : Prop := ∀ H1, Same H H1 → ∀ d, H1 d = none → E (.ref CT) (some d) (L2.upd H1 d (.xd [(("most" : Str), .int 500), (("what" : Str), .str "letters")]))
def spNeedP (K : PySem.W.Frag) (C CB : Addr) : Sp := fun vs H Q E => ∃ (x : V) (b : Bool) (z : Str), vs = [x, .str z] ∧ IsR K C H x b ∧ (b = true → ∀ H', Same H H' → Q .non H') ∧ (b = false → BadW CB E H z)
def spFewX (CT : Addr) : Sp := fun vs H Q E => ∃ n : Int, vs = [.int n] ∧ (n ≤ 500 → Q .non H) ∧ (500 < n → BadM CT E H)
def spWordOf (K : PySem.W.Frag) (C CT : Addr) : Sp := fun vs H Q E => ∃ (a : Addr) (ns : List Int), vs = [.ref a] ∧ SqE K H a (iv ns) ∧ ns.length ≤ 30000 ∧ Lts ns ∧ ((Fr.shr ns).length ≤ 500 → NewW K C H Q (Fr.shr ns)) ∧ (500 < (Fr.shr ns).length → BadM CT E H)
def spProd (K : PySem.W.Frag) (C CB CT : Addr) : Sp := fun vs H Q E => ∃ x : V, vs = [x] ∧
  ((IsR K C H x false ∧ BadW CB E H "pairs") ∨
    ∃ (a : Addr) (prs : List Pr), x = .ref a ∧ WRows K C H a prs ∧ prs.length ≤ 12 ∧ (∀ p ∈ prs, p.1.length ≤ 500 ∧ p.2.length ≤ 500) ∧ (∀ p ∈ prs, Lts p.1 ∧ Lts p.2) ∧
      ((Fr.shr (prodL prs)).length ≤ 500 → NewW K C H Q (Fr.shr (prodL prs))) ∧ (500 < (Fr.shr (prodL prs)).length → BadM CT E H))
structure CalX (P : Program) (w : World) (K : PySem.W.Frag) (mg : Str → Option Value) (base : Heap) (x : Str) (k : Nat) (ps : List Str) (sp : Sp) : Prop where
  ex : ∃ (f : Addr) (fd : FuncData), FnOk P w K mg base (L2.CX P w) k f fd ps sp ∧ mg x = some (.ref f) ∧ PySem.W.keepIn K (.ref f) = true ∧ Binds K fd ps []
section
variable {X : Cx} {x : Str} {k j : Nat} {ps : List Str} {sp : Sp} {p pos : Pos} {e : Expr} {es : List Expr} {t : TA} {E : XK}
theorem pe_calX (C : CalX X.prog X.w X.K X.mg X.base x k ps sp) (hr : Room j X.A) (hkj : k ≤ j) (hx : Passes (L2.CX X.prog X.w) X E) (hg : Gl X x) (ha : PA X (e :: es) t) (hdb : (x == ("__debug__" : Str)) = false := by decide)
    (he : starEach (e :: es) X.env = (false, eval e X.env) :: starEach es X.env := by rfl) (hpl : (backTo pos (starEach es X.env)).any (·.1) = false := by rfl) :
    PE X (.Call (.Name x p) (e :: es) [] pos) (tCall sp [] E t) := by
  obtain ⟨f, fd, F, hm, hk, hb⟩ := C.ex
  exact pe_call F (hr.mono hkj) hg hm hk hb .nil hx ha hdb he hpl
/-- nothing is let out -/
theorem passF : Passes (L2.CX X.prog X.w) X (fun _ _ _ => False) := fun pins σ H s e s' I c => by
  obtain ⟨a, B, H', cls, d, rfl, fl, hok, ub, na, os, ag, hE⟩ := c
  exact hE.elim
end
section
variable {P : Program} {w : World} {K : PySem.W.Frag} {mg : Str → Option Value} {base : Heap} {C CB CT : Addr}
theorem scNeedP : FnScope ["value", "part"] ["value", "part"] (defScope sNeedPairs) := ⟨rfl, rfl, rfl, by decide +kernel, rfl, by decide +kernel, by decide +kernel⟩
theorem ok_needP {f : Addr} {fd : FuncData} (F : Fun K "need_word_pairs" "need_word_pairs" sNeedPairs f fd) (EB : ErrC P w K mg base CB "BadWord" ["self", "part"] (spI1 CB)) (GA : Cal P w K mg base "are_word_pairs" 3 ["value"] (spArePairs K C)) :
    FnOk P w K mg base (L2.CX P w) 4 f fd ["value", "part"] (spNeedP K C CB) := by
  refine F.okX scNeedP (fun vs H Q E h => ?_) (fun cdv A outer s H vs Q E hr h => ?_)
  · obtain ⟨x, b, z, rfl, _⟩ := h
    rfl
  · obtain ⟨x, b, z, rfl, hR, k1, k2⟩ := h
    obtain ⟨fI, fdI, iC, tI, FI, bI⟩ := EB.ini
    refine ⟨_, pss_one (ps_if (pt_not (pt_val (pe_cal GA hr (by decide) (by rfl) (pa_cons (pv 0) pa_nil)))) (pss_one (ps_raise rfl (takes_of rfl rfl rfl rfl) (pmk_oex (dvs := []) EB.oex iC tI FI (hr.mono (by decide)) bI .nil pass0 (by rfl) EB.g (pa_cons (pv 1) pa_nil)))) pss_nil), ?_⟩
    refine ⟨_, rfl, x, b, rfl, hR, fun H1 s1 => ⟨_, rfl, ?_⟩⟩
    cases b with
    | true => exact iteF (k1 rfl H1 s1)
    | false => exact iteT ⟨_, rfl, by show 1 ≤ 1000; decide, mk1 (Q := fun cls d H' => E cls d H') fun d hd => k2 rfl H1 s1 d hd⟩
theorem ok_fewX {f : Addr} {fd : FuncData} (F : Fun K "need_few_letters" "need_few_letters" sFew f fd) (T : TxW K mg C) (ET : ErrC P w K mg base CT "TooMany" ["self", "what", "most"] (spI2 CT)) : FnOk P w K mg base (L2.CX P w) 3 f fd ["many"] (spFewX CT) := by
  refine F.okX scFew (fun vs H Q E h => ?_) (fun cdv A outer s H vs Q E hr h => ?_)
  · obtain ⟨n, rfl, _⟩ := h
    rfl
  · obtain ⟨n, rfl, k1, k2⟩ := h
    obtain ⟨tk, mM⟩ := T.most
    obtain ⟨fI, fdI, iC, tI, FI, bI⟩ := ET.ini
    refine ⟨_, pss_one (ps_if (pt_cmpR op_gt (pv 0) (pe_glob (v := .int 500) (by rfl) mM ⟨_, rfl⟩) (nomark _)) (pss_one (ps_raise rfl (takes_of rfl rfl rfl rfl) (pmk_oex (dvs := []) ET.oex iC tI FI (hr.mono (by decide)) bI .nil pass0 (by rfl) ET.g (pa_cons pe_str (pa_cons (pe_glob (v := .int 500) (by rfl) mM ⟨_, rfl⟩) pa_nil))))) pss_nil), ?_⟩
    refine ⟨_, rfl, _, _, rfl, rfl, _, rfl, ?_⟩
    refine ite2 (fun h => ?_) (fun h => ?_)
    · exact ⟨by show 2 ≤ 1000; decide, mk2 (Q := fun cls d H' => E cls d H') fun d hd => k2 (of_decide_eq_true h) H (fun _ _ e => e) d hd⟩
    · exact k1 (by have := of_decide_eq_false (Bool.eq_false_iff.mpr h); omega)
theorem scWordOf : FnScope ["letters", "left"] ["letters"] (defScope sWordOf) := ⟨rfl, rfl, rfl, by decide +kernel, rfl, by decide +kernel, by decide +kernel⟩
theorem ok_wordOf {f : Addr} {fd : FuncData} (F : Fun K "word_of" "word_of" sWordOf f fd) (T : TxW K mg C) (TA : TxA mg) (M : MkW P w K mg base C) (GS : Cal P w K mg base "shortened_letters" 1 ["letters"] (spShr K)) (GF : CalX P w K mg base "need_few_letters" 3 ["many"] (spFewX CT)) :
    FnOk P w K mg base (L2.CX P w) 6 f fd ["letters"] (spWordOf K C CT) := by
  refine F.okX scWordOf (fun vs H Q E h => ?_) (fun cdv A outer s H vs Q E hr h => ?_)
  · obtain ⟨a, ns, rfl, _⟩ := h
    rfl
  · obtain ⟨a, ns, rfl, hS, hlen, hl, k1, k2⟩ := h
    refine ⟨_, pss_cons (ps_set (i := 1) scWordOf.nd rfl (Or.inl rfl) (pe_cal GS hr (by decide) (by rfl) (pa_cons (pv 0) pa_nil)))
      (pss_cons (ps_expr (pe_calX GF hr (by decide) (passes_call (takes_of rfl rfl rfl rfl) (fun _ _ _ _ h => h)) (by rfl) (pa_cons (pe_callB call_len_seq (by rfl) TA.len PySem.boot_len (pa_cons (pv 1) pa_nil)) pa_nil)))
      (pss_one (ps_ret (pe_word M T hr (by decide) (by rfl) (pa_cons (pv 1) pa_nil))))), ?_⟩
    refine ⟨_, rfl, a, ns, rfl, hS, hlen, fun p H1 s1 hp => ?_⟩
    refine ⟨_, rfl, p, _, rfl, .inr hp, (((Fr.shr ns).length : Nat) : Int), congrArg (fun z => [V.int z]) (by rw [List.length_map]), fun h => ?_, fun h => fun H2 s2 d hd => k2 (by omega) H2 (s1.trans s2) d hd⟩
    have h2 : (Fr.shr ns).length ≤ 500 := by omega
    refine ⟨_, rfl, make_word (.inr hp) h2 hl.shr fun q H2 s2 W => ?_⟩
    exact k1 h2 q H2 (s1.trans s2) W
theorem scProd : FnScope ["pairs"] ["pairs"] (defScope sProd) := ⟨rfl, rfl, rfl, by decide +kernel, rfl, by decide +kernel, by decide +kernel⟩
theorem ok_prod {f : Addr} {fd : FuncData} (F : Fun K "product_of" "product_of" sProd f fd) (GN : CalX P w K mg base "need_word_pairs" 4 ["value", "part"] (spNeedP K C CB)) (GL : Cal P w K mg base "product_letters" 3 ["pairs"] (spProdL K C)) (GW : CalX P w K mg base "word_of" 6 ["letters"] (spWordOf K C CT)) :
    FnOk P w K mg base (L2.CX P w) 7 f fd ["pairs"] (spProd K C CB CT) := by
  refine F.okX scProd (fun vs H Q E h => ?_) (fun cdv A outer s H vs Q E hr h => ?_)
  · obtain ⟨x, rfl, _⟩ := h
    rfl
  · obtain ⟨x, rfl, h⟩ := h
    refine ⟨_, pss_cons (ps_expr (pe_calX GN hr (by decide) (passes_call (takes_of rfl rfl rfl rfl) (fun _ _ _ _ h => h)) (by rfl) (pa_cons (pv 0) (pa_cons pe_str pa_nil))))
      (pss_one (ps_ret (pe_calX GW hr (by decide) (passes_call (takes_of rfl rfl rfl rfl) (fun _ _ _ _ h => h)) (by rfl) (pa_cons (pe_cal GL hr (by decide) (by rfl) (pa_cons (pv 0) pa_nil)) pa_nil)))), ?_⟩
    rcases h with ⟨hR, kb⟩ | ⟨a, prs, rfl, hW, hl, hm, hL, k1, k2⟩
    · exact ⟨_, rfl, x, false, _, rfl, hR, (fun z => Bool.noConfusion z), fun _ => kb⟩
    · refine ⟨_, rfl, .ref a, true, _, rfl, hW.isR hl, fun _ H1 s1 => ?_, fun z => Bool.noConfusion z⟩
      refine ⟨_, rfl, a, prs, rfl, hW.same s1, hl, hm, fun p H2 hp s2 h2 => ?_⟩
      have hb := prodL_length hm
      refine ⟨p, prodL prs, rfl, .inl (SqL.of h2), by omega, Lts.prodL hL, fun h => fun q H3 s3 W => ?_, fun h => fun H3 s3 d hd => k2 h H3 ((s1.trans s2).trans s3) d hd⟩
      exact k1 h q H3 ((s1.trans s2).trans s3) W
end
end W29
set_option Elab.async false
set_option linter.all false
set_option maxRecDepth 100000
set_option maxHeartbeats 4000000
namespace W29
open PySem L2 PySem.Spec PyProof.Rows WR
abbrev sConL : Stmt := top 41
abbrev sShL : Stmt := top 42
abbrev sExL : Stmt := top 43
abbrev sPrL : Stmt := top 44
def spConL : Sp := fun vs H Q _ => ∃ (p : Addr) (ns : List Int), vs = [.ref p] ∧ H p = some (.lst (iv ns)) ∧ ns.length ≤ 1000 ∧ NewL H Q (Fr.con ns)
def spShL : Sp := fun vs H Q _ => ∃ (p : Addr) (ns : List Int), vs = [.ref p] ∧ H p = some (.lst (iv ns)) ∧ ns.length ≤ 1000 ∧ NewL H Q (Fr.shr ns)
def spExL : Sp := fun vs H Q _ => ∃ (p q : Addr) (ns ms : List Int), vs = [.ref p, .ref q] ∧ H p = some (.lst (iv ns)) ∧ H q = some (.lst (iv ms)) ∧ ns.length ≤ 1000 ∧ ms.length ≤ 1000 ∧ NewL H Q (exch ns ms)
/-- a pair of plain words -/
def PPr (H : Hp) (v : V) (p : Pr) : Prop := ∃ q x y : Addr, v = .ref q ∧ H q = some (.tup [.ref x, .ref y]) ∧ H x = some (.lst (iv p.1)) ∧ H y = some (.lst (iv p.2))
def PRows (H : Hp) (a : Addr) (prs : List Pr) : Prop := ∃ vs, H a = some (.lst vs) ∧ All2 (PPr H) vs prs
theorem PPr.same {H H' : Hp} {v : V} {p : Pr} (h : PPr H v p) (s : Same H H') : PPr H' v p := by
  obtain ⟨q, x, y, e, h1, h2, h3⟩ := h
  exact ⟨q, x, y, e, s _ _ h1, s _ _ h2, s _ _ h3⟩
theorem PRows.same {H H' : Hp} {a : Addr} {prs : List Pr} (h : PRows H a prs) (s : Same H H') : PRows H' a prs := by
  obtain ⟨vs, h1, h2⟩ := h
  exact ⟨vs, s _ _ h1, h2.imp fun _ _ r => r.same s⟩
def spPrL : Sp := fun vs H Q _ => ∃ (a : Addr) (prs : List Pr), vs = [.ref a] ∧ PRows H a prs ∧ prs.length ≤ 12 ∧ (∀ p ∈ prs, p.1.length ≤ 9 ∧ p.2.length ≤ 9) ∧ NewL H Q (Fr.shr (prodL prs))
theorem eq_nil (ns : List Int) : PyData.eqv (.list (ns.map .int)) (.list []) = decide (ns = []) := by cases ns <;> rfl
section
variable {P : Program} {w : World} {K : PySem.W.Frag} {mg : Str → Option Value} {base : Heap}
theorem scConL : FnScope ["_law_word_here", "_law_letter"] ["_law_word_here"] (defScope sConL) := ⟨rfl, rfl, rfl, by decide +kernel, rfl, by decide +kernel, by decide +kernel⟩
theorem ok_conL {f : Addr} {fd : FuncData} (F : Fun K "_law_contrary" "_law_contrary" sConL f fd) : FnOk P w K mg base CX0 1 f fd ["_law_word_here"] spConL := by
  refine F.ok scConL (fun vs H Q E h => ?_) (fun cdv A outer s H vs Q E hr h => ?_)
  · obtain ⟨a, ns, rfl, _⟩ := h
    rfl
  · obtain ⟨a, ns, rfl, hS, hlen, k⟩ := h
    refine ⟨_, pss_one (ps_ret (pe_lc (own := [("_law_letter", 1)]) (g := gName 1) (tt := tYes) rfl scConL.nd (pi_list (pe_revL (pv 0)))
      (blkOk_by (N := ["_law_word_here", "_law_letter"]) (sc := defScope sConL) (by decide +kernel)) (fun _ _ _ _ _ => pg_name (i := 1) scConL.nd rfl (Or.inl rfl)) (fun _ _ _ _ _ => pts_nil)
      (fun _ _ _ _ _ => pe_un un_neg (pv 1)))), ?_⟩
    refine ret_e (lc_in ?_)
    refine ⟨_, rfl, a, iv ns, rfl, SqL.of hS, fun p hp => ?_⟩
    refine ⟨p, rfl, ⟨_, SqL.of upd_same⟩, ?_⟩
    refine lcp (walk_list (xs := (iv ns).reverse)) (fun _ => true) (fun x => match x with | .int i => .int (-i) | _ => .non) (by simp; omega) (fun H2 s2 => SqL.of (s2 _ _ upd_same)) ?_ ?_
    · intro x hx H2 s2 Qy Qn ky kn
      obtain ⟨i, rfl⟩ : ∃ i, x = V.int i := by
        simp at hx
        obtain ⟨i, _, rfl⟩ := hx
        exact ⟨i, rfl⟩
      refine ⟨rfl, yes_te ?_⟩
      exact ⟨_, rfl, i, rfl, ky rfl H2 (fun _ _ e => e)⟩
    · intro D H2 hD s2 h2
      have e : (((iv ns).reverse.filter fun _ => true).map fun x => match x with | .int i => V.int (-i) | _ => .non) = iv (Fr.con ns) := by
        rw [List.filter_eq_self.mpr (fun _ _ => rfl)]
        unfold Fr.con
        simp [iv, List.map_reverse, Function.comp_def]
      rw [e] at h2
      exact k D H2 ((same_upd hp).free hD) ((same_upd hp).trans s2) h2
abbrev nShL : List Str := ["_law_word_here", "_law_found", "_law_letter"]
theorem scShL : FnScope nShL ["_law_word_here"] (defScope sShL) := ⟨rfl, rfl, rfl, by decide +kernel, rfl, by decide +kernel, by decide +kernel⟩
theorem ok_shL {f : Addr} {fd : FuncData} (F : Fun K "_law_short" "_law_short" sShL f fd) : FnOk P w K mg base CX0 1 f fd ["_law_word_here"] spShL := by
  refine F.ok scShL (fun vs H Q E h => ?_) (fun cdv A outer s H vs Q E hr h => ?_)
  · obtain ⟨a, ns, rfl, _⟩ := h
    rfl
  · obtain ⟨a, ns, rfl, hS, hlen, k⟩ := h
    refine ⟨_, pss_cons (ps_set (i := 1) scShL.nd rfl (Or.inl rfl) (pe_lst pa_nil))
      (pss_cons (ps_for PassesOwn.never rfl (pi_list (pv 0)) (pg_name (i := 2) scShL.nd rfl (Or.inl rfl))
        (pss_one (ps_if (PW.pt (pw_and (pt_cmpR (op_neD hr.units) (pv 1) (pe_lst pa_nil) (nomark _)) (pw_and1 (pt_cmpR op_eq (pe_ix ix_list (pv 1) (pe_un un_neg pe_int) (fun _ _ => rfl)) (pe_un un_neg (pv 2)) (nomark _)))))
          (pss_one (ps_expr (pe_bm0 PySem.F.plainAttrs_list PySem.F.slot_list_pop PySem.F.type_list_pop mt_pop (pv 1))))
          (pss_one (ps_expr (pe_bm PySem.F.plainAttrs_list PySem.F.slot_list_append PySem.F.type_list_append mt_append (pv 1) (pa_cons (pv 2) pa_nil)))))))
      (pss_one (ps_ret (pv 1)))), ?_⟩
    refine ⟨Nat.zero_le _, fun l hl => ?_⟩
    refine ⟨_, rfl, a, rfl, ⟨_, SqL.of ((same_upd (o := HO.lst []) hl) _ _ hS)⟩, for_list (K := K) (a := a) (xs := iv ns) (fun i σ H1 => ∃ v : Option V, σ = [some (.ref a), some (.ref l), v] ∧ Same H H1 ∧ H1 l = some (.lst (iv (Fr.act [] (ns.take i)).reverse)))
      ⟨none, rfl, same_upd hl, by rw [upd_same]; rfl⟩ (fun i σ H1 _ ⟨_, _, s, _⟩ => SqL.of (s _ _ hS)) ?_ ?_⟩
    · rintro i y σ H1 hi ⟨v, rfl, sm, hL⟩
      obtain ⟨x, hx, rfl⟩ : ∃ x, ns[i]? = some x ∧ y = V.int x := by
        rw [List.getElem?_map] at hi
        cases e : ns[i]? with
        | none => rw [e] at hi; cases hi
        | some x => rw [e] at hi; exact ⟨x, rfl, (Option.some.inj hi).symm⟩
      have hi2 : i < ns.length := (List.getElem?_eq_some_iff.mp hx).1
      have nx := act_take hx
      have hsz : (Fr.act [] (ns.take i)).length ≤ 1000 := by
        have := act_len (ns.take i) []
        rw [List.length_take] at this
        simp at this
        omega
      -- the empty list that it is held against
      refine ⟨_, rfl, Nat.zero_le _, fun p hp => ?_⟩
      have s1 := same_upd (o := HO.lst []) hp
      have hL1 := s1 _ _ hL
      have sm1 := sm.trans s1
      have put : ∀ xs, Same H (L2.upd (L2.upd H1 p (.lst [])) l (.lst xs)) := fun xs b o e => by
        rw [upd_ne (ne_of_none e hl)]
        exact sm1 b o e
      refine ⟨.list ((Fr.act [] (ns.take i)).reverse.map PyData.int), .list [], .lst (SqL.of hL1) (dpInts _), .lst (SqL.of upd_same) .nil, PySem.W.ke_shaped_ints _, rfl, _, rfl, ?_⟩
      rw [eq_nil]
      obtain ⟨H2, e2⟩ : ∃ H2, H2 = L2.upd H1 p (.lst []) := ⟨_, rfl⟩
      rw [← e2] at hL1 put ⊢
      cases est : Fr.act [] (ns.take i) with
      | nil =>
        rw [est] at hL1 nx
        refine iteF' (by rfl) ?_
        refine iteF ?_
        refine ⟨_, rfl, .inl ⟨rfl, _, SqL.of hL1⟩, _, rfl, l, _, _, rfl, rfl, hL1, Evl.sz_lt (by simp), ?_⟩
        refine ⟨_, rfl, put _, ?_⟩
        rw [upd_same, nx]
        rfl
      | cons b t =>
        rw [est] at hL1 nx hsz
        have eL : iv (b :: t).reverse = iv t.reverse ++ [V.int b] := by simp [iv]
        refine iteT' (by simp) ?_
        refine ⟨_, rfl, _, rfl, l, _, _, _, rfl, rfl, SqL.of hL1, (by rw [eL]; exact atI_last _ _), _, rfl, x, rfl, rfl, _, rfl, ?_⟩
        refine ite2 (fun hb => ?_) (fun hb => ?_)
        · have eb : b = -x := by
            have := of_decide_eq_true hb
            injection this
          refine ⟨_, rfl, .inl ⟨rfl, _, SqL.of hL1⟩, l, _, V.int b, rfl, rfl, hL1, (by rw [eL]; simp), ?_⟩
          refine ⟨_, rfl, put _, ?_⟩
          rw [upd_same, nx]
          have : Fr.push (b :: t) x = t := by simp [Fr.push, eb]
          rw [this, eL, List.dropLast_concat]
        · have eb : ¬ b = -x := fun e => hb (decide_eq_true (by rw [e]))
          refine ⟨_, rfl, .inl ⟨rfl, _, SqL.of hL1⟩, _, rfl, l, _, _, rfl, rfl, hL1, Evl.sz_lt (by simp [iv] at hsz ⊢; omega), ?_⟩
          refine ⟨_, rfl, put _, ?_⟩
          rw [upd_same, nx]
          have : Fr.push (b :: t) x = x :: b :: t := by simp [Fr.push, eb]
          rw [this]
          simp [iv]
    · rintro σ H1 ⟨v, rfl, sm, hL⟩
      rw [List.take_of_length_le (by simp)] at hL
      exact ⟨_, rfl, k l H1 hl sm hL⟩
theorem scExL : FnScope ["_law_one", "_law_other"] ["_law_one", "_law_other"] (defScope sExL) := ⟨rfl, rfl, rfl, by decide +kernel, rfl, by decide +kernel, by decide +kernel⟩
theorem ok_exL {f : Addr} {fd : FuncData} (F : Fun K "_law_exchange" "_law_exchange" sExL f fd) (GC : Cal P w K mg base "_law_contrary" 1 ["_law_word_here"] spConL) : FnOk P w K mg base CX0 2 f fd ["_law_one", "_law_other"] spExL := by
  refine F.ok scExL (fun vs H Q E h => ?_) (fun cdv A outer s H vs Q E hr h => ?_)
  · obtain ⟨p, q, ns, ms, rfl, _⟩ := h
    rfl
  · obtain ⟨p, q, ns, ms, rfl, hp, hq, l1, l2, k⟩ := h
    refine ⟨_, pss_one (ps_ret (pe_op op_cat (pe_op op_cat (pe_op op_cat (pv 0) (pv 1)) (pe_cal GC hr (by decide) (by rfl) (pa_cons (pv 0) pa_nil))) (pe_cal GC hr (by decide) (by rfl) (pa_cons (pv 1) pa_nil)))), ?_⟩
    refine ⟨_, rfl, _, rfl, p, q, _, _, rfl, rfl, hp, hq, Evl.sz_of (by simp only [List.length_map]; omega), fun p1 h1 => ?_⟩
    have s1 := same_upd (o := .lst (iv ns ++ iv ms)) h1
    have g1 : L2.upd H p1 (.lst (iv ns ++ iv ms)) p1 = some (.lst (iv ns ++ iv ms)) := upd_same
    obtain ⟨H1, e1⟩ : ∃ H1, H1 = L2.upd H p1 (.lst (iv ns ++ iv ms)) := ⟨_, rfl⟩
    rw [← e1] at s1 g1 ⊢
    refine ⟨_, rfl, p, ns, rfl, s1 _ _ hp, l1, fun p2 H2 h2 s2 g2 => ?_⟩
    refine ⟨p1, p2, _, _, rfl, rfl, s2 _ _ g1, g2, Evl.sz_of (by simp only [List.length_append, List.length_map, Fr.con_length]; omega), fun p3 h3 => ?_⟩
    have s3 := same_upd (o := .lst (iv ns ++ iv ms ++ iv (Fr.con ns))) h3
    have g3 : L2.upd H2 p3 (.lst (iv ns ++ iv ms ++ iv (Fr.con ns))) p3 = some (.lst (iv ns ++ iv ms ++ iv (Fr.con ns))) := upd_same
    obtain ⟨H3, e3⟩ : ∃ H3, H3 = L2.upd H2 p3 (.lst (iv ns ++ iv ms ++ iv (Fr.con ns))) := ⟨_, rfl⟩
    rw [← e3] at s3 g3 ⊢
    have s13 := (s1.trans s2).trans s3
    refine ⟨_, rfl, q, ms, rfl, s13 _ _ hq, l2, fun p4 H4 h4 s4 g4 => ?_⟩
    refine ⟨p3, p4, _, _, rfl, rfl, s4 _ _ g3, g4, Evl.sz_of (by simp only [List.length_append, List.length_map, Fr.con_length]; omega), fun p5 h5 => ?_⟩
    refine k p5 _ ((s13.trans s4).free h5) ((s13.trans s4).trans (same_upd h5)) ?_
    rw [upd_same]
    congr 2
    unfold W29.exch iv
    simp only [List.map_append]
abbrev nPrL : List Str := ["_law_pairs_here", "_law_found", "_law_one", "_law_other"]
theorem scPrL : FnScope nPrL ["_law_pairs_here"] (defScope sPrL) := ⟨rfl, rfl, rfl, by decide +kernel, rfl, by decide +kernel, by decide +kernel⟩
theorem ok_prL {f : Addr} {fd : FuncData} (F : Fun K "_law_product" "_law_product" sPrL f fd) (GS : Cal P w K mg base "_law_short" 1 ["_law_word_here"] spShL) (GX : Cal P w K mg base "_law_exchange" 2 ["_law_one", "_law_other"] spExL) : FnOk P w K mg base CX0 3 f fd ["_law_pairs_here"] spPrL := by
  refine F.ok scPrL (fun vs H Q E h => ?_) (fun cdv A outer s H vs Q E hr h => ?_)
  · obtain ⟨a, prs, rfl, _⟩ := h
    rfl
  · obtain ⟨a, prs, rfl, ⟨ws, hS, h2⟩, hlen, hm, k⟩ := h
    refine ⟨_, pss_cons (ps_set (i := 1) scPrL.nd rfl (Or.inl rfl) (pe_lst pa_nil))
      (pss_cons (ps_for PassesOwn.never rfl (pi_list (pv 0)) (pg_tup rfl (pgs_cons (pg_name (i := 2) scPrL.nd rfl (Or.inl rfl)) (pgs_cons (pg_name (i := 3) scPrL.nd rfl (Or.inl rfl)) pgs_nil)))
        (pss_one (ps_set (i := 1) scPrL.nd rfl (Or.inl rfl) (pe_cal GS hr (by decide) (by rfl) (pa_cons (pe_op op_cat (pv 1) (pe_cal GX hr (by decide) (by rfl) (pa_cons (pv 2) (pa_cons (pv 3) pa_nil)))) pa_nil)))))
      (pss_one (ps_ret (pv 1)))), ?_⟩
    refine ⟨Nat.zero_le _, fun l hl => ?_⟩
    refine ⟨_, rfl, a, rfl, ⟨_, SqL.of ((same_upd (o := HO.lst []) hl) _ _ hS)⟩, for_list (K := K) (a := a) (xs := ws) (fun i σ H' => ∃ (g : Addr) (v1 v2 : Option V), σ = [some (.ref a), some (.ref g), v1, v2] ∧ H g = none ∧ Same H H' ∧ H' g = some (.lst (iv (Fr.shr (prodL (prs.take i))))))
      ⟨l, none, none, rfl, hl, same_upd hl, by rw [upd_same]; rfl⟩ (fun i σ H1 _ ⟨_, _, _, _, _, s, _⟩ => SqL.of (s _ _ hS)) ?_ ?_⟩
    · rintro i y σ H1 hi ⟨g, v1, v2, rfl, hg, sm, hL⟩
      obtain ⟨p, hp, q, x, z, rfl, h3, h4, h5⟩ := h2.at hi
      have hil : i < prs.length := (List.getElem?_eq_some_iff.mp hp).1
      obtain ⟨m1, m2⟩ := hm p (List.mem_of_getElem? hp)
      have hb : (prodL (prs.take i)).length ≤ (prs.take i).length * (4 * 9) := prodL_length fun p hp => hm p (List.mem_of_mem_take hp)
      rw [List.length_take] at hb
      have hx := exch_length p.1 p.2
      have hsl := shr_len (prodL (prs.take i))
      refine ⟨q, _, rfl, SqT.of (sm _ _ h3), rfl, _, _, rfl, _, _, rfl, rfl, ?_⟩
      refine ⟨_, rfl, _, rfl, _, rfl, x, z, p.1, p.2, rfl, sm _ _ h4, sm _ _ h5, by omega, by omega, fun q2 H2 hq2 s2 g2 => ?_⟩
      refine ⟨g, q2, _, _, rfl, rfl, s2 _ _ hL, g2, Evl.sz_of (by simp only [List.length_map]; omega), fun q3 hq3 => ?_⟩
      refine ⟨q3, Fr.shr (prodL (prs.take i)) ++ W29.exch p.1 p.2, rfl, by rw [upd_same]; simp [iv], by rw [List.length_append]; omega, fun q4 H4 hq4 s4 g4 => ?_⟩
      have s24 := (sm.trans s2).trans ((same_upd hq3).trans s4)
      refine ⟨q4, _, _, rfl, (sm.trans (s2.trans (same_upd hq3))).free hq4, s24, ?_⟩
      rw [prodL_take hp, g4]
      congr 3
      rw [← Fr.shr_app (Fr.shr _), Fr.shr_shr, Fr.shr_app]
    · rintro σ H1 ⟨g, v1, v2, rfl, hg, sm, hL⟩
      rw [h2.length, List.take_length] at hL
      exact ⟨_, rfl, k g H1 hg sm hL⟩
end
end W29
set_option Elab.async false
set_option linter.all false
set_option maxRecDepth 100000
set_option maxHeartbeats 4000000
namespace W29
open PySem L2 PySem.Spec PyProof.Rows WR
abbrev sWordL : Stmt := top 45
abbrev sPairsL : Stmt := top 46
abbrev sMade : Stmt := top 47
abbrev sShift : Stmt := top 49
theorem small {x : Int} (h : x.natAbs ≤ 1000) : x.natAbs < 2 ^ 200 := Nat.lt_of_le_of_lt h (by decide)
theorem HandAt.iv_ne {H : Hp} {a c x : Addr} {n : Nat} {ns : List Int} (h : HandAt H a c n) (e : H x = some (.lst (iv ns))) : x ≠ a := by
  rintro rfl
  obtain ⟨cs, i, r, hA, _⟩ := h
  rw [hA] at e
  have e2 := Option.some.inj e
  injection e2 with e3
  cases ns with
  | nil => cases e3
  | cons y t =>
    have : V.ref c = V.int y := by
      have e4 : V.ref c :: _ = V.int y :: _ := e3
      injection e4
    cases this
theorem HandAt.tup_ne {H : Hp} {a c x : Addr} {n : Nat} {xs : List V} (h : HandAt H a c n) (e : H x = some (.tup xs)) : x ≠ a := by
  rintro rfl
  obtain ⟨cs, i, r, hA, _⟩ := h
  rw [hA] at e
  cases e
/-- a pair of plain words that stands apart from D -/
def PPrN (D : Addr) (H : Hp) (v : V) (p : Pr) : Prop := ∃ q x y : Addr, (q ≠ D ∧ x ≠ D ∧ y ≠ D) ∧ v = .ref q ∧ H q = some (.tup [.ref x, .ref y]) ∧ H x = some (.lst (iv p.1)) ∧ H y = some (.lst (iv p.2))
theorem PPrN.to {D : Addr} {H : Hp} {v : V} {p : Pr} (h : PPrN D H v p) : PPr H v p := by
  obtain ⟨q, x, y, _, e, h1, h2, h3⟩ := h
  exact ⟨q, x, y, e, h1, h2, h3⟩
theorem PPrN.drew {D a c : Addr} {m n : Nat} {H H' : Hp} {v : V} {p : Pr} (h : PPrN D H v p) (hH : HandAt H a c m) (d : Drew a c n H H') : PPrN D H' v p := by
  obtain ⟨q, x, y, e0, e, h1, h2, h3⟩ := h
  exact ⟨q, x, y, e0, e, d.2 _ _ (hH.tup_ne h1) h1, d.2 _ _ (hH.iv_ne h2) h2, d.2 _ _ (hH.iv_ne h3) h3⟩
theorem PPrN.put {D : Addr} {H : Hp} {v : V} {p : Pr} {o : HO} (h : PPrN D H v p) : PPrN D (L2.upd H D o) v p := by
  obtain ⟨q, x, y, ⟨n1, n2, n3⟩, e, h1, h2, h3⟩ := h
  exact ⟨q, x, y, ⟨n1, n2, n3⟩, e, by rw [upd_ne n1]; exact h1, by rw [upd_ne n2]; exact h2, by rw [upd_ne n3]; exact h3⟩
theorem PPrN.same {D : Addr} {H H' : Hp} {v : V} {p : Pr} (h : PPrN D H v p) (s : Same H H') : PPrN D H' v p := by
  obtain ⟨q, x, y, e0, e, h1, h2, h3⟩ := h
  exact ⟨q, x, y, e0, e, s _ _ h1, s _ _ h2, s _ _ h3⟩
def spWordL : Sp := fun vs H Q _ => ∃ (a c : Addr) (m k n : Nat), vs = [.ref a, .int (m : Int), .int (k : Int)] ∧ HandAt H a c n ∧ m ≤ 9 ∧ n ≤ 8000 ∧ 1 ≤ k ∧ k ≤ 26 ∧
  ∀ p H' ls, H p = none → Drew a c (n + 19) H H' → H' p = some (.lst (iv ls)) → ls.length ≤ 9 → Lts ls → Q (.ref p) H'
def okPr (p : Pr) : Prop := p.1.length ≤ 9 ∧ p.2.length ≤ 9 ∧ Lts p.1 ∧ Lts p.2
def spPairsL : Sp := fun vs H Q _ => ∃ (a c : Addr) (j m k n : Nat), vs = [.ref a, .int (j : Int), .int (m : Int), .int (k : Int)] ∧ HandAt H a c n ∧ j ≤ 12 ∧ m ≤ 9 ∧ n ≤ 7000 ∧ 1 ≤ k ∧ k ≤ 26 ∧
  ∀ p H' prs, H p = none → Drew a c (n + 500) H H' → PRows H' p prs → prs.length ≤ 12 → (∀ q ∈ prs, okPr q) → Q (.ref p) H'
def shI (b x : Int) : Int := ((((if x < 0 then -x else x) - 1 + b) % 26) + 1) * (if 0 < x then 1 else -1)
def shV (b : Int) : V → V
  | .int x => .int (shI b x)
  | _ => .non
theorem shI_ok {b x : Int} : 1 ≤ (shI b x).natAbs ∧ (shI b x).natAbs ≤ 26 := by
  unfold shI
  have h1 := Int.emod_nonneg ((if x < 0 then -x else x) - 1 + b) (show (26 : Int) ≠ 0 by decide)
  have h2 := Int.emod_lt_of_pos ((if x < 0 then -x else x) - 1 + b) (show (0 : Int) < 26 by decide)
  generalize ((if x < 0 then -x else x) - 1 + b) % 26 = z at h1 h2
  split <;> omega
def spShift : Sp := fun vs H Q _ => ∃ (p : Addr) (b : Int) (ns : List Int), vs = [.ref p, .int b] ∧ H p = some (.lst (iv ns)) ∧ ns.length ≤ 1000 ∧ NewL H Q (ns.map (shI b))
section
variable {P : Program} {w : World} {K : PySem.W.Frag} {mg : Str → Option Value} {base : Heap}
abbrev nWordL : List Str := ["_law_pen_here", "_law_most", "_law_kinds", "_law_letter"]
theorem scWordL : FnScope nWordL ["_law_pen_here", "_law_most", "_law_kinds"] (defScope sWordL) := ⟨rfl, rfl, rfl, by decide +kernel, rfl, by decide +kernel, by decide +kernel⟩
theorem ok_wordL {f : Addr} {fd : FuncData} (F : Fun K "_law_word" "_law_word" sWordL f fd) (GD : Cal P w K mg base "_law_draw" 1 ["_law_pen_here", "_law_many"] spTake) (TN : TxN mg) : FnOk P w K mg base CX0 2 f fd ["_law_pen_here", "_law_most", "_law_kinds"] spWordL := by
  refine F.ok scWordL (fun vs H Q E h => ?_) (fun cdv A outer s H vs Q E hr h => ?_)
  · obtain ⟨a, c, m, k, n, rfl, _⟩ := h
    rfl
  · obtain ⟨a, c, m, k, n, rfl, hH, hm, hn, k1, k26, kq⟩ := h
    refine ⟨_, pss_one (ps_ret (pe_lc (own := [("_law_letter", 3)]) (g := gName 3) (tt := tYes) rfl scWordL.nd (pi_range1 (by rfl) TN.range (pa_cons (pe_cal GD hr (by decide) (by rfl) (pa_cons (pv 0) (pa_cons (pe_op op_add (pv 1) pe_int) pa_nil))) pa_nil))
      (blkOk_by (N := nWordL) (sc := defScope sWordL) (by decide +kernel)) (fun _ _ _ _ _ => pg_name (i := 3) scWordL.nd rfl (Or.inl rfl)) (fun _ _ _ _ _ => pts_nil)
      (fun _ _ _ _ _ => pe_op op_mul (pe_op op_add pe_int (pe_cal GD hr (by decide) (by rfl) (pa_cons (pv 0) (pa_cons (pv 2) pa_nil)))) (pe_op op_sub pe_int (pe_op op_mul pe_int (pe_cal GD hr (by decide) (by rfl) (pa_cons (pv 0) (pa_cons pe_int pa_nil)))))))), ?_⟩
    refine ret_e (lc_in ?_)
    refine ⟨_, rfl, _, rfl, _, _, rfl, rfl, a, c, (m : Int) + 1, n, rfl, hH, by omega, by omega, small (by omega), fun H1 q q0 q1 hH1 hK1 => ?_⟩
    obtain ⟨j, rfl⟩ : ∃ j : Nat, q = (j : Int) := ⟨q.toNat, by omega⟩
    refine ⟨(j : Int), rfl, by omega, by omega, ?_⟩
    rw [Int.toNat_natCast]
    have d0 : Drew a c (n + 1) H H1 := ⟨hH1, hK1⟩
    intro D hD
    have hD0 : H D = none := d0.back hD
    have hDa := hH.ne hD0
    have hDc := hH.neC hD0
    refine lc_range (lo := 0) (n := j) (fun i H' => ∃ ls : List Int, ls.length = i ∧ Lts ls ∧ H' D = some (.lst (iv ls)) ∧ Drew a c (n + 1 + 2 * i) H H') ⟨[], rfl, (fun _ h => nomatch h), upd_same, d0.new hD⟩ ?_ ?_
    · rintro i H2 hi ⟨ls, hl, hk, hD2, d2⟩
      refine ⟨rfl, yes_te ?_⟩
      refine ⟨_, rfl, _, rfl, a, c, (k : Int), _, rfl, d2.1, by omega, by omega, small (by omega), fun H3 z z0 z1 hH3 hK3 => ⟨_, _, rfl, rfl, ?_⟩⟩
      refine ⟨_, rfl, a, c, 2, _, rfl, hH3, by omega, by decide, by decide, fun H4 y y0 y1 hH4 hK4 => ⟨_, _, rfl, rfl, .inl ⟨by omega, by omega⟩, _, _, rfl, rfl, _, _, rfl, rfl, .inl ⟨by omega, by omega⟩, ?_⟩⟩
      have d4 : Drew a c (n + 1 + 2 * i + 1 + 1) H H4 := ⟨hH4, d2.2.trans (hK3.trans hK4)⟩
      have hD4 := hK4 _ _ hDa (hK3 _ _ hDa hD2)
      refine ⟨_, hD4, Evl.sz_lt (by simp; omega), ls ++ [(1 + z) * (1 - 2 * y)], by simp [hl], fun x hx => ?_, by rw [upd_same]; simp [iv], d4.put hD0 hDa hDc⟩
      rcases List.mem_append.mp hx with h | h
      · exact hk x h
      · rw [List.mem_singleton.mp h]
        rcases (by omega : y = 0 ∨ y = 1) with rfl | rfl <;> omega
    · rintro H2 ⟨ls, hl, hk, hD2, d2⟩
      exact kq D H2 ls hD0 (d2.mono (by omega)) hD2 (by omega) hk
abbrev nPairsL : List Str := ["_law_pen_here", "_law_many", "_law_most", "_law_kinds", "_law_turn"]
theorem scPairsL : FnScope nPairsL ["_law_pen_here", "_law_many", "_law_most", "_law_kinds"] (defScope sPairsL) := ⟨rfl, rfl, rfl, by decide +kernel, rfl, by decide +kernel, by decide +kernel⟩
theorem ok_pairsL {f : Addr} {fd : FuncData} (F : Fun K "_law_pairs" "_law_pairs" sPairsL f fd) (GW : Cal P w K mg base "_law_word" 2 ["_law_pen_here", "_law_most", "_law_kinds"] spWordL) (TN : TxN mg) : FnOk P w K mg base CX0 3 f fd ["_law_pen_here", "_law_many", "_law_most", "_law_kinds"] spPairsL := by
  refine F.ok scPairsL (fun vs H Q E h => ?_) (fun cdv A outer s H vs Q E hr h => ?_)
  · obtain ⟨a, c, j, m, k, n, rfl, _⟩ := h
    rfl
  · obtain ⟨a, c, j, m, k, n, rfl, hH, hj, hm, hn, k1, k26, kq⟩ := h
    refine ⟨_, pss_one (ps_ret (pe_lc (own := [("_law_turn", 4)]) (g := gName 4) (tt := tYes) rfl scPairsL.nd (pi_range1 (by rfl) TN.range (pa_cons (pv 1) pa_nil))
      (blkOk_by (N := nPairsL) (sc := defScope sPairsL) (by decide +kernel)) (fun _ _ _ _ _ => pg_name (i := 4) scPairsL.nd rfl (Or.inl rfl)) (fun _ _ _ _ _ => pts_nil)
      (fun _ _ _ _ _ => pe_tup (pa_cons (pe_cal GW hr (by decide) (by rfl) (pa_cons (pv 0) (pa_cons (pv 2) (pa_cons (pv 3) pa_nil)))) (pa_cons (pe_cal GW hr (by decide) (by rfl) (pa_cons (pv 0) (pa_cons (pv 2) (pa_cons (pv 3) pa_nil)))) pa_nil))))), ?_⟩
    refine ret_e (lc_in ?_)
    refine ⟨_, rfl, (j : Int), rfl, by omega, by omega, ?_⟩
    rw [Int.toNat_natCast]
    intro D hD
    have hDa := hH.ne hD
    have hDc := hH.neC hD
    refine lc_range (lo := 0) (n := j) (fun i H' => ∃ (ws : List V) (prs : List Pr), prs.length = i ∧ (∀ q ∈ prs, okPr q) ∧ H' D = some (.lst ws) ∧ All2 (PPrN D H') ws prs ∧ Drew a c (n + 38 * i) H H') ⟨[], [], rfl, (fun _ h => nomatch h), upd_same, .nil, (Drew.refl hH).new hD⟩ ?_ ?_
    · rintro i H2 hi ⟨ws, prs, hl, hk, hD2, h2, d2⟩
      refine ⟨rfl, yes_te ?_⟩
      refine ⟨_, rfl, _, rfl, _, rfl, a, c, m, k, _, rfl, d2.1, hm, by omega, k1, k26, fun x H3 us hx d3 hx3 ul uk => ?_⟩
      have hD3 := d3.2 _ _ hDa hD2
      have nx : x ≠ D := fun z => by rw [z, hD2] at hx; cases hx
      refine ⟨_, rfl, _, rfl, _, rfl, a, c, m, k, _, rfl, d3.1, hm, by omega, k1, k26, fun y H4 vs hy d4 hy4 vl vk => ?_⟩
      have hD4 := d4.2 _ _ hDa hD3
      have ny : y ≠ D := fun z => by rw [z, hD3] at hy; cases hy
      have hx4 := d4.2 _ _ (d3.1.iv_ne hx3) hx3
      refine ⟨(by show 2 ≤ sizeLine; decide), fun T hT => ?_⟩
      have s5 := same_upd (o := .tup [.ref x, .ref y]) hT
      have nT : T ≠ D := fun z => by rw [z, hD4] at hT; cases hT
      have hlen := h2.length
      refine ⟨ws, s5 _ _ hD4, Evl.sz_lt (by omega), ws ++ [.ref T], prs ++ [(us, vs)], by simp [hl], fun q hq => ?_, upd_same, ?_, ?_⟩
      · rcases List.mem_append.mp hq with h | h
        · exact hk q h
        · rw [List.mem_singleton.mp h]
          exact ⟨ul, vl, uk, vk⟩
      · refine All2.app (h2.imp fun v p r => (((r.drew d2.1 d3).drew d3.1 d4).same s5).put) (.cons (PPrN.put ⟨T, x, y, ⟨nT, nx, ny⟩, rfl, upd_same, s5 _ _ hx4, s5 _ _ hy4⟩) .nil)
      · exact (((d2.trans (d3.trans d4)).mono (by omega)).new hT).put hD hDa hDc
    · rintro H2 ⟨ws, prs, hl, hk, hD2, h2, d2⟩
      exact kq D H2 prs hD (d2.mono (by omega)) ⟨ws, hD2, h2.imp fun _ _ r => r.to⟩ (by omega) hk
abbrev nShift : List Str := ["_law_word_here", "_law_by", "_law_letter"]
theorem scShift : FnScope nShift ["_law_word_here", "_law_by"] (defScope sShift) := ⟨rfl, rfl, rfl, by decide +kernel, rfl, by decide +kernel, by decide +kernel⟩
theorem ok_shift {f : Addr} {fd : FuncData} (F : Fun K "_law_shifted" "_law_shifted" sShift f fd) (T : TxL mg) : FnOk P w K mg base CX0 1 f fd ["_law_word_here", "_law_by"] spShift := by
  refine F.ok scShift (fun vs H Q E h => ?_) (fun cdv A outer s H vs Q E hr h => ?_)
  · obtain ⟨p, b, ns, rfl, _⟩ := h
    rfl
  · obtain ⟨p, b, ns, rfl, hp, hlen, k⟩ := h
    refine ⟨_, pss_one (ps_ret (pe_lc (own := [("_law_letter", 2)]) (g := gName 2) (tt := tYes) rfl scShift.nd (pi_list (pv 0))
      (blkOk_by (N := nShift) (sc := defScope sShift) (by decide +kernel)) (fun _ _ _ _ _ => pg_name (i := 2) scShift.nd rfl (Or.inl rfl)) (fun _ _ _ _ _ => pts_nil)
      (fun _ _ _ _ _ => pe_op op_mul (pe_op op_add (pe_op op_mod (pe_callTy call_int1 (by rfl) T.int (by decide +kernel) (pa_cons (pe_op op_add (pe_op op_sub (pe_callB call_abs (by rfl) T.abs (by decide +kernel) (pa_cons (pv 2) pa_nil)) pe_int) (pv 1)) pa_nil)) pe_int) pe_int)
        (pe_ifExp (pt_cmpR op_gt (pv 2) pe_int (nomark _)) pe_int (pe_un un_neg pe_int))))), ?_⟩
    refine ret_e (lc_in ?_)
    refine ⟨_, rfl, p, rfl, ⟨_, SqL.of hp⟩, ?_⟩
    refine lcp (walk_list (xs := iv ns)) (fun _ => true) (shV b) (by simp; omega) (fun H2 s2 => SqL.of (s2 _ _ hp)) ?_ ?_
    · intro x hx H2 s2 Qy Qn ky kn
      obtain ⟨i, _, rfl⟩ := List.mem_map.mp hx
      refine ⟨rfl, yes_te ?_⟩
      have b1 := Int.emod_nonneg ((if i < 0 then -i else i) - 1 + b) (show (26 : Int) ≠ 0 by decide)
      have b2 := Int.emod_lt_of_pos ((if i < 0 then -i else i) - 1 + b) (show (0 : Int) < 26 by decide)
      refine ⟨_, rfl, i, rfl, _, _, rfl, rfl, _, rfl, _, _, rfl, rfl, .inl ⟨_, rfl, _, _, rfl, rfl, (by decide : (0 : Int) < 26), _, _, rfl, rfl, ?_⟩⟩
      refine ⟨_, rfl, _, _, rfl, rfl, _, rfl, ?_⟩
      have fin : shV b (.int i) = .int (shI b i) := rfl
      refine ite2 (fun h => ?_) (fun h => ?_)
      · refine ⟨_, _, rfl, rfl, .inl ⟨by omega, by omega⟩, ?_⟩
        have := ky rfl H2 (fun _ _ e => e)
        rw [fin] at this
        unfold shI at this
        rw [if_pos (of_decide_eq_true h)] at this
        exact this
      · refine ⟨_, rfl, _, _, rfl, rfl, .inl ⟨by omega, by omega⟩, ?_⟩
        have := ky rfl H2 (fun _ _ e => e)
        rw [fin] at this
        unfold shI at this
        rw [if_neg (of_decide_eq_false (Bool.eq_false_iff.mpr h))] at this
        exact this
    · intro D H2 hD s2 h2
      have e : (((iv ns).filter fun _ => true).map (shV b)) = iv (ns.map (shI b)) := by
        rw [List.filter_eq_self.mpr (fun _ _ => rfl)]
        simp [iv, Function.comp_def, shV]
      rw [e] at h2
      exact k D H2 hD s2 h2
end
end W29
set_option Elab.async false
set_option linter.all false
set_option maxRecDepth 100000
set_option maxHeartbeats 4000000
namespace W29
open PySem L2 PySem.Spec PyProof.Rows WR
theorem make_at {K : PySem.W.Frag} {C : Addr} {H1 : Hp} {q x dx : Addr} {ms : List Int} {G : Hp → Prop} {E : XK} (nx : H1 x = none) (ndx : H1 dx = none) (hq : SqE K H1 q (iv ms)) (hlen : ms.length ≤ 500) (hl : Lts ms) (k : ∀ H', Same H1 H' → WordAt K C H' x ms → G H') :
    spInit K C [.ref x, .ref q] (L2.upd (L2.upd H1 dx (.own x)) x (.ins C dx [])) (fun v H2 => v = .non ∧ G H2) E := by
  have s0 : Same H1 (L2.upd (L2.upd H1 dx (.own x)) x (.ins C dx [])) := fun b o e => by
    rw [upd_ne (ne_of_none e nx), upd_ne (ne_of_none e ndx)]
    exact e
  exact ⟨H1, x, dx, q, ms, rfl, s0, nx, upd_same, hq, hlen, hl, fun H' s' W' => ⟨rfl, k H' s' W'⟩⟩
theorem SqT.keptL {K : PySem.W.Frag} {H H' : Hp} {l q : Addr} {vs xs : List V} (hl : H l = some (.lst vs)) (d : Kept l H H') (h : SqT K H q xs) : SqT K H' q xs := by
  rcases h with h | h
  · left
    rcases h with h | ⟨o, h⟩
    · exact .inl (d _ _ (fun z => by rw [z, hl] at h; cases h) h)
    · exact .inr ⟨o, d _ _ (fun z => by rw [z, hl] at h; cases h) h⟩
  · exact .inr h
theorem WordAt.keptL {K : PySem.W.Frag} {C : Addr} {H H' : Hp} {l p : Addr} {vs : List V} {ns : List Int} (hl : H l = some (.lst vs)) (d : Kept l H H') (h : WordAt K C H p ns) : WordAt K C H' p ns := by
  obtain ⟨dx, tl, tk, ks, h1, h2, h3, h4⟩ := h
  exact ⟨dx, tl, tk, ks, d _ _ (fun z => by rw [z, hl] at h1; cases h1) h1, SqT.keptL hl d h2, SqT.keptL hl d h3, h4⟩
theorem WordAt.ne_lst {K : PySem.W.Frag} {C : Addr} {H : Hp} {l p : Addr} {vs : List V} {ns : List Int} (h : WordAt K C H p ns) (hl : H l = some (.lst vs)) : p ≠ l := by
  obtain ⟨dx, tl, tk, ks, h1, _⟩ := h
  intro z
  rw [z, hl] at h1
  cases h1
section
variable {X : Cx} {C : Addr} {K : PySem.W.Frag} {t : TA} {p pos : Pos} {e : Expr} {es : List Expr} {j : Nat}
theorem pe_wordK (hK : X.K = K) (M : MkW X.prog X.w K X.mg X.base C) (T : TxW K X.mg C) (hr : Room j X.A) (hkj : 5 ≤ j) (hg : Gl X "Word") (ha : PA X (e :: es) t)
    (he : starEach (e :: es) X.env = (false, eval e X.env) :: starEach es X.env := by rfl) (hpl : (backTo pos (starEach es X.env)).any (·.1) = false := by rfl) :
    PE X (.Call (.Name "Word" p) (e :: es) [] pos) (tMake C (spInit K C) [] E0 t) := by
  subst hK
  exact pe_word M T hr hkj hg ha he hpl
end
/-! ### comprehensions that make new things -/
theorem lcM {β : Type} {J : It} {xs : List V} {G : Hp → Prop} (w : Walk J xs.length G (YAt xs)) (ys : List β) (R : Addr → Hp → V → β → Prop) (hst : ∀ D H H' v b, R D H v b → Same H H' → R D H' v b) (hput : ∀ D H ws o v b, H D = some (.lst ws) → R D H v b → R D (L2.upd H D o) v b)
    (hz : xs.length < 40000) (hl : xs.length = ys.length) {g : TG} {te : TE} {vs : List Nat} {σ : L2.St} {H1 : Hp} {Q : VK} (hG : ∀ H, Same H1 H → G H)
    (hs : ∀ (i : Nat) (x : V) (b : β), xs[i]? = some x → ys[i]? = some b → ∀ D H, H1 D = none → (∃ ws, H D = some (.lst ws)) → Same H1 H → ∀ (Qy : V → Hp → Prop), (∀ v H', Same H H' → R D H' v b → Qy v H') →
      g x (wipe σ vs) H fun σ2 H2 => wipe σ2 vs = wipe σ vs ∧ te σ2 H2 Qy)
    (hg : ∀ x σ1 H A B, (∀ σ2 H2, A σ2 H2 → B σ2 H2) → g x σ1 H A → g x σ1 H B)
    (hd : ∀ (D : Addr) H' ws, H1 D = none → Same H1 H' → H' D = some (.lst ws) → All2 (R D H') ws ys → Q (.ref D) H') : tLc (fun _ H R => R J H) g tYes te vs σ H1 Q := by
  intro D hD
  refine lc_it w (fun i H => Same H1 H ∧ ∃ ws, H D = some (.lst ws) ∧ All2 (R D H) ws (ys.take i)) ⟨fun b o e => by rw [upd_ne (ne_of_none e hD)]; exact e, [], upd_same, by simp only [List.take_zero]; exact .nil⟩ (fun i H _ q => hG H q.1) ?_ ?_
  · rintro i x H H' hi ⟨sm, ws, hw, h2⟩ ⟨rfl, hx⟩
    have hi2 : i < ys.length := by omega
    refine hg _ _ _ _ _ (fun σ2 H2 q => ⟨q.1, yes_te q.2⟩) (hs i x ys[i] hx (List.getElem?_eq_getElem hi2) D H' hD ⟨ws, hw⟩ sm _ fun v H2 s2 r => ?_)
    have hw2 := s2 _ _ hw
    have hlen := h2.length
    rw [List.length_take] at hlen
    refine ⟨ws, hw2, Evl.sz_lt (by omega), fun b o e => ?_, ws ++ [v], upd_same, ?_⟩
    · rw [upd_ne (ne_of_none e hD)]
      exact s2 _ _ (sm _ _ e)
    · rw [List.take_succ_eq_append_getElem hi2]
      exact (h2.imp fun v b r => hput D H2 ws _ v b hw2 (hst D _ _ v b r s2)).app (.cons (hput D H2 ws _ v _ hw2 r) .nil)
  · rintro H ⟨sm, ws, hw, h2⟩
    rw [List.take_of_length_le (by omega)] at h2
    exact hd D H ws hD sm hw h2
theorem gName_mono {i : Nat} {x : V} {σ : L2.St} {H : Hp} {A B : L2.St → Hp → Prop} (k : ∀ σ2 H2, A σ2 H2 → B σ2 H2) (h : gName i x σ H A) : gName i x σ H B := k _ _ h
theorem gTup_mono {K : PySem.W.Frag} {i j : Nat} {x : V} {σ : L2.St} {H : Hp} {A B : L2.St → Hp → Prop} (k : ∀ σ2 H2, A σ2 H2 → B σ2 H2) (h : gTup K 2 (gCons (gName i) (gCons (gName j) gNil)) x σ H A) : gTup K 2 (gCons (gName i) (gCons (gName j) gNil)) x σ H B := by
  obtain ⟨a, xs, e1, e2, e3, v, r, e4, v2, r2, e5, e6, h⟩ := h
  exact ⟨a, xs, e1, e2, e3, v, r, e4, v2, r2, e5, e6, k _ _ h⟩
/-- a pair of Words, as a tuple -/
def MPr (K : PySem.W.Frag) (C : Addr) (H : Hp) (v : V) (p : Pr) : Prop := ∃ q x y : Addr, v = .ref q ∧ H q = some (.tup [.ref x, .ref y]) ∧ WordAt K C H x p.1 ∧ WordAt K C H y p.2
theorem MPr.same {K : PySem.W.Frag} {C : Addr} {H H' : Hp} {v : V} {p : Pr} (h : MPr K C H v p) (s : Same H H') : MPr K C H' v p := by
  obtain ⟨q, x, y, e, h1, h2, h3⟩ := h
  exact ⟨q, x, y, e, s _ _ h1, h2.same s, h3.same s⟩
theorem MPr.put {K : PySem.W.Frag} {C D : Addr} {H : Hp} {ws : List V} {o : HO} {v : V} {p : Pr} (hD : H D = some (.lst ws)) (h : MPr K C H v p) : MPr K C (L2.upd H D o) v p := by
  obtain ⟨q, x, y, e, h1, h2, h3⟩ := h
  exact ⟨q, x, y, e, by rw [upd_ne (fun z => by rw [z, hD] at h1; cases h1)]; exact h1, h2.keptL hD Kept.upd, h3.keptL hD Kept.upd⟩
theorem MPr.w {K : PySem.W.Frag} {C : Addr} {H : Hp} {v : V} {p : Pr} (h : MPr K C H v p) : WPr K C H v p := by
  obtain ⟨q, x, y, e, h1, h2, h3⟩ := h
  exact ⟨q, x, y, e, .inr (SqT.of h1), h2, h3⟩
def spMade (K : PySem.W.Frag) (C : Addr) : Sp := fun vs H Q _ => ∃ (a : Addr) (prs : List Pr), vs = [.ref a] ∧ PRows H a prs ∧ prs.length ≤ 12 ∧ (∀ q ∈ prs, okPr q) ∧
  ∀ p H' ws, H p = none → Same H H' → H' p = some (.lst ws) → All2 (MPr K C H') ws prs → Q (.ref p) H'
section
variable {P : Program} {w : World} {K : PySem.W.Frag} {mg : Str → Option Value} {base : Heap}
abbrev nMade : List Str := ["_law_pairs_here", "_law_one", "_law_other"]
theorem scMade : FnScope nMade ["_law_pairs_here"] (defScope sMade) := ⟨rfl, rfl, rfl, by decide +kernel, rfl, by decide +kernel, by decide +kernel⟩
theorem ok_made {C f : Addr} {fd : FuncData} (F : Fun K "_law_made" "_law_made" sMade f fd) (T : TxW K mg C) (M : MkW P w K mg base C) : FnOk P w K mg base CX0 6 f fd ["_law_pairs_here"] (spMade K C) := by
  refine F.ok scMade (fun vs H Q E h => ?_) (fun cdv A outer s H vs Q E hr h => ?_)
  · obtain ⟨a, prs, rfl, _⟩ := h
    rfl
  · obtain ⟨a, prs, rfl, ⟨ws, hS, h2⟩, hlen, hok, k⟩ := h
    refine ⟨_, pss_one (ps_ret (pe_lc (own := [("_law_one", 1), ("_law_other", 2)]) (g := gTup K 2 (gCons (gName 1) (gCons (gName 2) gNil))) (tt := tYes) rfl scMade.nd (pi_list (pv 0))
      (blkOk_by (N := nMade) (sc := defScope sMade) (by decide +kernel)) (fun _ _ _ _ _ => pg_tup (n := 2) rfl (pgs_cons (pg_name (i := 1) scMade.nd rfl (Or.inl rfl)) (pgs_cons (pg_name (i := 2) scMade.nd rfl (Or.inl rfl)) pgs_nil))) (fun _ _ _ _ _ => pts_nil)
      (fun _ _ _ _ _ => pe_tup (pa_cons (pe_wordK (K := K) rfl M T hr (by decide) (by rfl) (pa_cons (pv 1) pa_nil)) (pa_cons (pe_wordK (K := K) rfl M T hr (by decide) (by rfl) (pa_cons (pv 2) pa_nil)) pa_nil))))), ?_⟩
    refine ret_e (lc_in ?_)
    refine ⟨_, rfl, a, rfl, ⟨_, SqL.of hS⟩, ?_⟩
    have hl := h2.length
    refine lcM (walk_list (xs := ws)) prs (fun _ => MPr K C) (fun _ _ _ _ _ h s => h.same s) (fun _ _ _ _ _ _ hD h => h.put hD) (by omega) hl (fun H2 s2 => SqL.of (s2 _ _ hS)) ?_ (fun x σ1 H A B k h => gTup_mono k h) (fun D H' vs hD s h1 h2 => k D H' vs hD s h1 h2)
    intro i x b hx hb D H2 hD _ s2 Qy ky
    obtain ⟨p, hp, q, u, v, rfl, h3, h4, h5⟩ := h2.at hx
    rw [hp] at hb
    obtain rfl := Option.some.inj hb
    obtain ⟨l1, l2, t1, t2⟩ := hok p (List.mem_of_getElem? hp)
    refine ⟨q, _, rfl, SqT.of (s2 _ _ h3), rfl, _, _, rfl, _, _, rfl, rfl, ?_⟩
    refine ⟨rfl, ?_⟩
    refine ⟨_, rfl, fun x1 dx1 nx1 ndx1 _ => make_at nx1 ndx1 (.inl (SqL.of (s2 _ _ h4))) (by omega) t1 fun H3 s3 W3 => ?_⟩
    refine ⟨_, rfl, fun x2 dx2 nx2 ndx2 _ => make_at nx2 ndx2 (.inl (SqL.of (s3 _ _ (s2 _ _ h5)))) (by omega) t2 fun H4 s4 W4 => ?_⟩
    refine ⟨(by show 2 ≤ sizeLine; decide), fun T0 hT0 => ?_⟩
    have s5 := same_upd (o := .tup [.ref x1, .ref x2]) hT0
    exact ky (.ref T0) _ ((s3.trans s4).trans s5) ⟨T0, x1, x2, rfl, upd_same, (W3.same s4).same s5, W4.same s5⟩
end
/-! ### how often a letter stands more than its contrary -/
def cnt (x : Int) (ns : List Int) : Int := (ns.count x : Int) - (ns.count (-x) : Int)
theorem cnt_app (x : Int) (a b : List Int) : cnt x (a ++ b) = cnt x a + cnt x b := by
  unfold cnt
  rw [List.count_append, List.count_append]
  omega
theorem cnt_one (x a : Int) : cnt x [-a] = -cnt x [a] := by
  unfold cnt
  simp only [List.count_cons, List.count_nil, beq_iff_eq]
  have e1 : (-a = -x) ↔ (a = x) := by omega
  have e2 : (-a = x) ↔ (a = -x) := by omega
  simp only [e1, e2]
  omega
theorem cnt_con (x : Int) : ∀ a : List Int, cnt x (Fr.con a) = -cnt x a
  | [] => rfl
  | b :: t => by
    rw [Fr.con_cons, cnt_app, cnt_con x t, cnt_one]
    have := cnt_app x [b] t
    rw [List.singleton_append] at this
    omega
theorem cnt_exch (x : Int) (a b : List Int) : cnt x (exch a b) = 0 := by
  unfold exch
  rw [cnt_app, cnt_app, cnt_app, cnt_con, cnt_con]
  omega
theorem cnt_cons (x b : Int) (t : List Int) : cnt x (b :: t) = cnt x [b] + cnt x t := by
  have := cnt_app x [b] t
  rwa [List.singleton_append] at this
theorem cnt_push (x a : Int) (s : List Int) : cnt x (Fr.push s a) = cnt x s + cnt x [a] := by
  cases s with
  | nil =>
    show cnt x [a] = cnt x [] + cnt x [a]
    have : cnt x [] = 0 := rfl
    omega
  | cons b u =>
    show cnt x (if b = -a then u else a :: b :: u) = _
    split
    · rename_i h
      subst h
      rw [cnt_cons x (-a) u, cnt_one]
      omega
    · rw [cnt_cons x a (b :: u)]
      omega
theorem cnt_act (x : Int) : ∀ (ns s : List Int), cnt x (Fr.act s ns) = cnt x s + cnt x ns
  | [], s => by
    have : cnt x [] = 0 := rfl
    rw [Fr.act_nil]
    omega
  | a :: t, s => by
    rw [Fr.act_cons, cnt_act x t, cnt_push, cnt_cons x a t]
    omega
theorem cnt_shr (x : Int) (ns : List Int) : cnt x (Fr.shr ns) = cnt x ns := by
  have h := cnt_act x ns []
  have h0 : cnt x [] = 0 := rfl
  unfold Fr.shr
  have : cnt x (Fr.act [] ns).reverse = cnt x (Fr.act [] ns) := by
    unfold cnt
    rw [List.count_reverse, List.count_reverse]
  rw [this]
  omega
theorem cnt_prodL (x : Int) : ∀ prs : List Pr, cnt x (prodL prs) = 0
  | [] => rfl
  | p :: t => by
    have e : prodL (p :: t) = exch p.1 p.2 ++ prodL t := by simp [prodL]
    rw [e, cnt_app, cnt_exch, cnt_prodL x t]
    rfl
theorem even_counts (x : Int) (prs : List Pr) : (Fr.shr (prodL prs)).count x = (Fr.shr (prodL prs)).count (-x) := by
  have h := cnt_shr x (prodL prs)
  rw [cnt_prodL] at h
  unfold cnt at h
  omega
/-! ### the pairs turned about, the last one first -/
def swp (p : Pr) : Pr := (p.2, p.1)
theorem exch_swap (a b : List Int) : exch b a = Fr.con (exch a b) := by
  unfold exch
  simp only [Fr.con_append, Fr.con_con]
  simp [List.append_assoc]
theorem prodL_app (xs ys : List Pr) : prodL (xs ++ ys) = prodL xs ++ prodL ys := by simp [prodL]
theorem prodL_back : ∀ prs : List Pr, prodL (prs.reverse.map swp) = Fr.con (prodL prs)
  | [] => rfl
  | p :: t => by
    have e : prodL (p :: t) = exch p.1 p.2 ++ prodL t := by simp [prodL]
    rw [e, Fr.con_append, List.reverse_cons, List.map_append, prodL_app, prodL_back t, ← exch_swap]
    simp [prodL, swp]
theorem back_nil (prs : List Pr) : Fr.shr (prodL (prs ++ prs.reverse.map swp)) = [] := by
  rw [prodL_app, prodL_back]
  exact Fr.shr_eq (Fr.sm_con _) trivial
end W29
set_option Elab.async false
set_option linter.all false
set_option maxRecDepth 100000
set_option maxHeartbeats 4000000
namespace W29
open PySem L2 PySem.Spec PyProof.Rows WR
abbrev sTold : Stmt := top 50
theorem eqvL_ints (ns ms : List Int) : PyData.eqv (.list (ns.map .int)) (.list (ms.map .int)) = decide (ns = ms) := by
  show PyData.eqvAll _ _ = _
  exact eqvAll_ints ns ms
theorem call_listK {X : Cx} {K : PySem.W.Frag} (h : X.K = K) : CallR X (.type "list") (fun xs H Q => ∃ p ys, xs = [.ref p] ∧ (SqL K H p ys ∨ SqT K H p ys) ∧ ∀ l, H l = none → Q (.ref l) (L2.upd H l (.lst ys))) := by
  subst h
  exact call_list_of
theorem mt_lcountK {X : Cx} {K : PySem.W.Frag} (h : X.K = K) : MtR X "list.count" (rCntI K) := by
  subst h
  exact mt_lcount
section
variable {X : Cx} {K : PySem.W.Frag} {T : String} {name : Str} {id : String} {r : V → List V → Hp → VK → Prop} {o e : Expr} {es : List Expr} {to : TE} {t : TA} {apos cpos : Pos}
theorem pe_bmK (hK : X.K = K) (pa : PlainAttrs T) (slot : PySem.Slot T name id) (hty : typeOf (.builtin id) = pure (.type "method_descriptor")) (hm : MtR X id r) (ho : PE X o to) (ha : PA X (e :: es) t)
    (hbase : attributeBase o name X.env (eval o X.env) = eval o X.env := by rfl)
    (hfew : ((backTo cpos (starEach (e :: es) X.env)).all (fun x => !x.1) && (backToKw cpos (keywordEach [] X.env)).all (fun x => x.1.isSome)
      && decide ((e :: es).length + ([] : List Keyword).length + (if ([] : List Keyword).isEmpty then 0 else 1) < 30)) = true := by rfl)
    (hline : (apos.endLine == cpos.line) = true := by rfl) (hs : starEach (e :: es) X.env = (false, eval e X.env) :: starEach es X.env := by rfl) (hplain : (backTo cpos (starEach es X.env)).any (·.1) = false := by rfl) :
    PE X (.Call (.Attribute o name apos) (e :: es) [] cpos) (tBM K T r to t) := by
  subst hK
  exact pe_bm pa slot hty hm ho ha hbase hfew hline hs hplain
end
structure CalKX (P : Program) (w : World) (K : PySem.W.Frag) (mg : Str → Option Value) (base : Heap) (x : Str) (k : Nat) (ps ks : List Str) (gV : List V → List V) (sp : Sp) : Prop where
  ex : ∃ (f : Addr) (fd : FuncData) (g : List Value → List Value), FnOk P w K mg base (L2.CX P w) k f fd ps sp ∧ mg x = some (.ref f) ∧ PySem.W.keepIn K (.ref f) = true ∧ KBn K fd ps 0 ks (fun _ ws => g ws) (fun _ zs => gV zs)
def tCalKX (sp : Sp) (gV : List V → List V) (m : Nat) (tk : TA) : TE := fun σ H Q => tk σ H fun zs H2 => zs.length = m ∧ sp (gV zs) H2 Q (fun _ _ _ => False)
section
variable {X : Cx} {x : Str} {k j : Nat} {ps ks : List Str} {gV : List V → List V} {sp : Sp} {p pos : Pos} {kws : List Keyword} {tk : TA}
theorem pe_calKX (C : CalKX X.prog X.w X.K X.mg X.base x k ps ks gV sp) (hr : Room j X.A) (hkj : k ≤ j) (hg : Gl X x) (hkw : PK X kws tk) (hall : (backToKw pos (keywordEach kws X.env)).all (·.1.isSome) = true := by rfl)
    (hks : (backToKw pos (keywordEach kws X.env)).filterMap (·.1) = ks := by rfl) (hdb : (x == ("__debug__" : Str)) = false := by decide) (hpl : ((backTo pos (starEach [] X.env)).any (·.1) || (backToKw pos (keywordEach kws X.env)).any (·.1.isNone)) = false := by rfl) :
    PE X (.Call (.Name x p) [] kws pos) (tCalKX sp gV ks.length tk) := by
  obtain ⟨f, fd, g, F, hm, hk, hb⟩ := C.ex
  refine ⟨fun pins s σ H Q I h => ?_⟩
  refine wpAny_Call_Name_kw (ld_glob I hg hm ?_ hdb)
  refine PySem.W.callWith_KW0 (h₀ := X.base) I.ok.mod.kin hk hall ?_ hpl
  refine thn (hkw.run pos pins s σ H _ I h) fun ws s2 ⟨zs, H2, I2, rz, lz, q2⟩ => ⟨I2.kIn, ?_⟩
  rw [hks]
  have r2 := hb.rel (vs := []) (us := []) .nil rz
  have hl : ws.length = ks.length := by rw [← rz.length, lz]
  refine wpAny_call (codeAny_mono ((F.mono hkj).run X.A X.stack s2 H2 ⟨[], ks.zip ws⟩ (g ws) (gV zs) Q (fun _ _ _ => False) hr I2.env0 (hb.to s2 [] ws I2.kIn rfl hl) r2 q2) fun r s' hq => ?_)
  cases r with
  | error e => exact passF pins σ H2 s2 e s' I2 hq
  | ok fl =>
    cases fl with
    | ret u => exact I2.after hq
    | next => exact False.elim hq
    | brk => exact False.elim hq
    | cont => exact False.elim hq
end
/-- f(g([.. for ..])) op b -/
theorem q_lc {R2 : R2} {sp : Sp} {E : XK} {r : List V → Hp → VK → Prop} {wi : TI} {g : TG} {tt : TT} {te tb : TE} {vs : List Nat} {σ : L2.St} {H : Hp} {Q : VK}
    (h : wi σ H fun J H1 => tLc (fun _ H R => R J H) g tt te vs σ H1 fun x H2 => r [x] H2 fun y H3 => sp [y] H3 (fun z H4 => tb σ H4 fun u H5 => R2 z u H5 Q) E) :
    tOp R2 (tCall sp [] E (tCons (tCB r (tCons (tLc wi g tt te vs) tNil)) tNil)) tb σ H Q := h
theorem lc_op {R2 : R2} {wi : TI} {g : TG} {tt : TT} {te tb : TE} {vs : List Nat} {σ : L2.St} {H : Hp} {Q : VK}
    (h : wi σ H fun J H1 => tLc (fun _ H R => R J H) g tt te vs σ H1 fun z H4 => tb σ H4 fun u H5 => R2 z u H5 Q) : tOp R2 (tLc wi g tt te vs) tb σ H Q := h
theorem if_lc {R2 : R2} {wi : TI} {g : TG} {tt : TT} {te tb : TE} {vs : List Nat} {σ : L2.St} {H : Hp} {A B C : TS} {D : Ends} {b1 b2 : L2.St → Hp → Prop} {rt : VK}
    (h : wi σ H fun J H1 => tLc (fun _ H R => R J H) g tt te vs σ H1 fun z H4 => tb σ H4 fun u H5 => R2 z u H5 fun x H6 => ∃ c, x = .bl c ∧ if c = true then A { D with nx := C D } σ H6 else B { D with nx := C D } σ H6) :
    tNext { nx := tSeq (tIfS (tTest (tOp R2 (tLc wi g tt te vs) tb)) A B) C D, rt := rt, bk := b1, ct := b2 } σ H := h
theorem as_lc {wi : TI} {g : TG} {tt : TT} {te : TE} {gg : TG} {vs : List Nat} {D : Ends} {σ : L2.St} {H : Hp}
    (h : wi σ H fun J H1 => tLc (fun _ H R => R J H) g tt te vs σ H1 fun z H4 => gg z σ H4 D.nx) : tAsg (tLc wi g tt te vs) gg D σ H := h
theorem nx_lc {wi : TI} {g : TG} {tt : TT} {te : TE} {gg : TG} {vs : List Nat} {D : Ends} {σ : L2.St} {H : Hp} {C : TS} {b1 b2 : L2.St → Hp → Prop} {rt : VK}
    (h : wi σ H fun J H1 => tLc (fun _ H R => R J H) g tt te vs σ H1 fun z H4 => gg z σ H4 (C D)) : tNext { nx := tSeq (tAsg (tLc wi g tt te vs) gg) C D, rt := rt, bk := b1, ct := b2 } σ H := h
/-- a pair of Words, as a list that is not D -/
def LPr (K : PySem.W.Frag) (C D : Addr) (H : Hp) (v : V) (p : Pr) : Prop := ∃ q x y : Addr, q ≠ D ∧ v = .ref q ∧ H q = some (.lst [.ref x, .ref y]) ∧ WordAt K C H x p.1 ∧ WordAt K C H y p.2
theorem LPr.same {K : PySem.W.Frag} {C D : Addr} {H H' : Hp} {v : V} {p : Pr} (h : LPr K C D H v p) (s : Same H H') : LPr K C D H' v p := by
  obtain ⟨q, x, y, n, e, h1, h2, h3⟩ := h
  exact ⟨q, x, y, n, e, s _ _ h1, h2.same s, h3.same s⟩
theorem LPr.put {K : PySem.W.Frag} {C D : Addr} {H : Hp} {ws : List V} {o : HO} {v : V} {p : Pr} (hD : H D = some (.lst ws)) (h : LPr K C D H v p) : LPr K C D (L2.upd H D o) v p := by
  obtain ⟨q, x, y, n, e, h1, h2, h3⟩ := h
  exact ⟨q, x, y, n, e, by rw [upd_ne n]; exact h1, h2.keptL hD Kept.upd, h3.keptL hD Kept.upd⟩
theorem LPr.w {K : PySem.W.Frag} {C D : Addr} {H : Hp} {v : V} {p : Pr} (h : LPr K C D H v p) : WPr K C H v p := by
  obtain ⟨q, x, y, n, e, h1, h2, h3⟩ := h
  exact ⟨q, x, y, e, .inl (SqL.of h1), h2, h3⟩
theorem All2.same {R : Hp → V → Pr → Prop} (hR : ∀ {H H' : Hp} {v : V} {p : Pr}, R H v p → Same H H' → R H' v p) {H H' : Hp} {vs : List V} {ps : List Pr} (h : All2 (R H) vs ps) (s : Same H H') : All2 (R H') vs ps := h.imp fun _ _ r => hR r s
structure AllP (P : Program) (w : World) (K : PySem.W.Frag) (mg : Str → Option Value) (base : Heap) (C CB CT : Addr) : Prop where
  prod : CalX P w K mg base "product_of" 7 ["pairs"] (spProd K C CB CT)
  prodK : CalKX P w K mg base "product_of" 7 ["pairs"] ["pairs"] id (spProd K C CB CT)
  mkw : MkW P w K mg base C
  eq : EqW P w K mg base C
  ne : PySem.W.findIn K (.ref C) "__ne__" = some (some (.builtin "object.__ne__"))
def spTold : Sp := fun vs H Q _ => ∃ (a : Addr) (prs : List Pr), vs = [.ref a] ∧ PRows H a prs ∧ prs.length ≤ 12 ∧ (∀ q ∈ prs, okPr q) ∧ ∀ H', Same H H' → Q (.bl true) H'
abbrev nTold : List Str := ["_law_pairs_here", "_law_due", "_law_made_here", "_law_told", "_law_back", "_law_pair", "_law_letter", "_law_one", "_law_other"]
section
variable {P : Program} {w : World} {K : PySem.W.Frag} {mg : Str → Option Value} {base : Heap}
theorem scTold : FnScope nTold ["_law_pairs_here"] (defScope sTold) := ⟨rfl, rfl, rfl, by decide +kernel, rfl, by decide +kernel, by decide +kernel⟩
theorem ok_told {C CB CT f : Addr} {fd : FuncData} (F : Fun K "_law_told_right" "_law_told_right" sTold f fd) (T : TxW K mg C) (TA : TxA mg) (TN : TxN mg) (A_ : AllP P w K mg base C CB CT) (GP : Cal P w K mg base "_law_product" 3 ["_law_pairs_here"] spPrL) (GM : Cal P w K mg base "_law_made" 6 ["_law_pairs_here"] (spMade K C)) :
    FnOk P w K mg base CX0 8 f fd ["_law_pairs_here"] spTold := by
  refine F.ok scTold (fun vs H Q E h => ?_) (fun cdv A outer s H vs Q E hr h => ?_)
  · obtain ⟨a, prs, rfl, _⟩ := h
    rfl
  · obtain ⟨a, prs, rfl, hP, hlen, hok, k⟩ := h
    refine ⟨_, pss_cons (ps_asg (pe_tup (pa_cons (pe_cal GP hr (by decide) (by rfl) (pa_cons (pv 0) pa_nil)) (pa_cons (pe_cal GM hr (by decide) (by rfl) (pa_cons (pv 0) pa_nil)) pa_nil))) (pg_tup (n := 2) rfl (pgs_cons (pg_name (i := 1) scTold.nd rfl (Or.inr rfl)) (pgs_cons (pg_name (i := 2) scTold.nd rfl (Or.inl rfl)) pgs_nil))))
      (pss_cons (ps_set (i := 3) scTold.nd rfl (Or.inl rfl) (pe_calKX A_.prodK hr (by decide) (by rfl) (pk_cons (pv 2) pk_nil)))
      (pss_cons (ps_if (PW.pt (pw_or (pt_not (pt_val (pe_callB call_isi (by rfl) T.isin (by decide +kernel) (pa_cons (pv 3) (pa_cons (pe_glob (v := .ref C) (by rfl) T.mgW rfl) pa_nil)))))
          (pw_or (pt_cmpR (op_neD hr.units) (pe_callTy call_list_of (by rfl) TN.list (by decide +kernel) (pa_cons (pe_fld (pv 3) rfl) pa_nil)) (pv 1) (nomark _))
          (pw_or1 (pt_cmpR (op_neW A_.eq A_.ne T.cm hr (by decide)) (pe_calX A_.prod hr (by decide) passF (by rfl) (pa_cons (pe_callTy call_tuple_of (by rfl) TA.tuple (by decide +kernel) (pa_cons (pe_lc (own := [("_law_pair", 5)]) (g := gName 5) (tt := tYes) rfl scTold.nd (pi_list (pv 2))
            (blkOk_by (N := nTold) (sc := defScope sTold) (by decide +kernel)) (fun _ _ _ _ _ => pg_name (i := 5) scTold.nd rfl (Or.inl rfl)) (fun _ _ _ _ _ => pts_nil)
            (fun _ _ _ _ _ => pe_callTy (call_listK (K := K) rfl) (by rfl) TN.list (by decide +kernel) (pa_cons (pv 5) pa_nil))) pa_nil)) pa_nil)) (pv 3) (nomark _)))))) (pss_one (ps_ret pe_bl)) pss_nil)
      (pss_cons (ps_if (pt_cmpR (op_neD hr.units) (pe_lc (own := [("_law_letter", 6)]) (g := gName 6) rfl scTold.nd (pi_list (pv 1))
          (blkOk_by (N := nTold) (sc := defScope sTold) (by decide +kernel)) (fun _ _ _ _ _ => pg_name (i := 6) scTold.nd rfl (Or.inl rfl))
          (fun _ _ _ _ _ => pts_one (pt_cmpR op_ne (pe_bmK (K := K) rfl PySem.F.plainAttrs_list PySem.F.slot_list_count PySem.F.type_list_count (mt_lcountK (K := K) rfl) (pv 1) (pa_cons (pv 6) pa_nil)) (pe_bmK (K := K) rfl PySem.F.plainAttrs_list PySem.F.slot_list_count PySem.F.type_list_count (mt_lcountK (K := K) rfl) (pv 1) (pa_cons (pe_un un_neg (pv 6)) pa_nil)) (nomark _)))
          (fun _ _ _ _ _ => pv 6)) (pe_lst pa_nil) (nomark _)) (pss_one (ps_ret pe_bl)) pss_nil)
      (pss_cons (ps_setLc (i := 4) (own := [("_law_one", 7), ("_law_other", 8)]) (g := gTup K 2 (gCons (gName 7) (gCons (gName 8) gNil))) (tt := tYes) rfl scTold.nd rfl rfl (sw_true rfl rfl rfl (by decide +kernel)) (pi_list (pe_revL (pv 0)))
          (blkOk_by (N := nTold) (sc := defScope sTold) (by decide +kernel)) (fun _ _ _ _ _ => pg_tup (n := 2) rfl (pgs_cons (pg_name (i := 7) scTold.nd rfl (Or.inl rfl)) (pgs_cons (pg_name (i := 8) scTold.nd rfl (Or.inl rfl)) pgs_nil))) (fun _ _ _ _ _ => pts_nil)
          (fun _ _ _ _ _ => pe_tup (pa_cons (pv 8) (pa_cons (pv 7) pa_nil))))
      (pss_one (ps_ret (pe_or (pe_cmpR op_gt (pe_callB call_len_seq (by rfl) TA.len PySem.boot_len (pa_cons (pv 0) pa_nil)) pe_int (nomark _)) (pe_one (pe_cmpR (op_eqW A_.eq hr (by decide)) (pe_calX A_.prod hr (by decide) passF (by rfl) (pa_cons (pe_op op_cat (pv 2) (pe_cal GM hr (by decide) (by rfl) (pa_cons (pv 4) pa_nil))) pa_nil)) (pe_word A_.mkw T hr (by decide) (by rfl) (pa_cons (pe_lst pa_nil) pa_nil)) (nomark _)))))))))), ?_⟩
    have hm9 : ∀ p ∈ prs, p.1.length ≤ 9 ∧ p.2.length ≤ 9 := fun p hp => ⟨(hok p hp).1, (hok p hp).2.1⟩
    have hm5 : ∀ p ∈ prs, p.1.length ≤ 500 ∧ p.2.length ≤ 500 := fun p hp => ⟨Nat.le_trans (hm9 p hp).1 (by decide), Nat.le_trans (hm9 p hp).2 (by decide)⟩
    have hlt : ∀ p ∈ prs, Lts p.1 ∧ Lts p.2 := fun p hp => (hok p hp).2.2
    have hpl := prodL_length hm9
    have hsl := shr_len (prodL prs)
    have h500 : (Fr.shr (prodL prs)).length ≤ 500 := by omega
    -- what is due, and the pairs made
    refine ⟨_, rfl, a, prs, rfl, hP, hlen, hm9, fun d H1 hd0 s1 hd => ?_⟩
    refine ⟨_, rfl, a, prs, rfl, hP.same s1, hlen, hok, fun m H2 ws hm0 s2 hm h2 => ?_⟩
    refine ⟨(by show 2 ≤ sizeLine; decide), fun T0 hT0 => ⟨T0, _, rfl, SqT.of upd_same, rfl, _, _, rfl, _, _, rfl, rfl, ?_⟩⟩
    have s3 := same_upd (o := .tup [.ref d, .ref m]) hT0
    have sm3 := (s1.trans s2).trans s3
    have hd3 := (s2.trans s3) _ _ hd
    have hm3 := s3 _ _ hm
    have h23 := h2.imp fun _ _ r => MPr.same r s3
    obtain ⟨H3, e3⟩ : ∃ H3, H3 = L2.upd H2 T0 (.tup [.ref d, .ref m]) := ⟨_, rfl⟩
    rw [← e3] at sm3 hd3 hm3 h23 ⊢
    -- what is told
    refine ⟨_, rfl, rfl, .ref m, rfl, .inr ⟨m, prs, rfl, ⟨ws, .inl (SqL.of hm3), h23.imp fun _ _ r => r.w⟩, hlen, hm5, hlt, fun _ t H4 s4 W4 => ?_, fun h => absurd h (by omega)⟩⟩
    have sm4 := sm3.trans s4
    have hd4 := s4 _ _ hd3
    have hm4 := s4 _ _ hm3
    have h24 := h23.imp fun _ _ r => MPr.same r s4
    dsimp only
    -- it is a Word, its letters are those that are due
    refine ⟨_, rfl, _, _, _, _, _, rfl, .own C, W4.tyx T, kit_self C, _, rfl, iteF ?_⟩
    obtain ⟨dx, tl, tk, ks, w1, w2, w3, w4⟩ := id W4
    refine ⟨_, rfl, t, C, dx, _, _, rfl, w1, T.cl, T.nL, wf_letters, tl, _, rfl, .inr w2, fun l5 hl5 => ?_⟩
    have s5 := same_upd (o := .lst (iv (Fr.shr (prodL prs)))) hl5
    have g5 : L2.upd H4 l5 (.lst (iv (Fr.shr (prodL prs)))) l5 = some (.lst (iv (Fr.shr (prodL prs)))) := upd_same
    obtain ⟨H5, e5⟩ : ∃ H5, H5 = L2.upd H4 l5 (.lst (iv (Fr.shr (prodL prs)))) := ⟨_, rfl⟩
    rw [← e5] at s5 g5 ⊢
    refine ⟨_, rfl, .list ((Fr.shr (prodL prs)).map PyData.int), .list ((Fr.shr (prodL prs)).map PyData.int), .lst (SqL.of g5) (dpInts _), .lst (SqL.of (s5 _ _ hd4)) (dpInts _), PySem.W.ke_shaped_ints _, PySem.W.ke_shaped_ints _, _, rfl, ?_⟩
    rw [eqvL_ints]
    refine iteF' (by simp) ?_
    have sm5 := sm4.trans s5
    have hm5' := s5 _ _ hm4
    have h25 := h24.imp fun _ _ r => MPr.same r s5
    have W5 := W4.same s5
    have hwl := h2.length
    -- again, as a tuple of lists
    refine q_lc ?_
    refine ⟨_, rfl, m, rfl, ⟨_, SqL.of hm5'⟩, ?_⟩
    refine lcM (walk_list (xs := ws)) prs (LPr K C) (fun _ _ _ _ _ h s => h.same s) (fun _ _ _ _ _ _ hD h => h.put hD) (by omega) hwl (fun H6 s6 => SqL.of (s6 _ _ hm5')) ?_ (fun x σ1 H A B k h => gName_mono k h) ?_
    · intro i x b hx hb D H6 hD ⟨us, hus⟩ s6 Qy ky
      obtain ⟨p, hp, q, u, v, rfl, g1, g2, g3⟩ := h25.at hx
      rw [hp] at hb
      obtain rfl := Option.some.inj hb
      refine ⟨rfl, ?_⟩
      refine ⟨_, rfl, q, _, rfl, .inr (SqT.of (s6 _ _ g1)), fun l hl => ?_⟩
      have s7 := same_upd (o := .lst [.ref u, .ref v]) hl
      exact ky (.ref l) _ s7 ⟨l, u, v, (fun z => by rw [z, hus] at hl; cases hl), rfl, upd_same, (g2.same s6).same s7, (g3.same s6).same s7⟩
    intro D H6 vs hD s6 h6 h26
    refine ⟨D, vs, rfl, .inl ⟨SqL.of h6, fun t7 ht7 => ?_⟩⟩
    have s7 := same_upd (o := .tup vs) ht7
    refine ⟨.ref t7, rfl, .inr ⟨t7, prs, rfl, ⟨vs, .inr (SqT.of upd_same), h26.imp fun _ _ r => (r.same s7).w⟩, hlen, hm5, hlt, fun _ u H8 s8 W8 => ?_, fun h => absurd h (by omega)⟩⟩
    have s58 := (s6.trans s7).trans s8
    refine ⟨_, rfl, u, t, _, _, rfl, rfl, W8, W5.same s58, _, rfl, ?_⟩
    refine iteF' (by simp) ?_
    have sm8 := sm5.trans s58
    have hd8 := s58 _ _ (s5 _ _ hd4)
    have hm8 := s58 _ _ hm5'
    have h28 := h25.imp fun _ _ r => MPr.same r s58
    -- as many letters as contraries
    refine if_lc ?_
    refine ⟨_, rfl, d, rfl, ⟨_, SqL.of hd8⟩, ?_⟩
    refine lcp (walk_list (xs := iv (Fr.shr (prodL prs)))) (fun _ => false) id (by rw [List.length_map]; omega) (fun H9 s9 => SqL.of (s9 _ _ hd8)) ?_ ?_
    · intro x hx H9 s9 Qy Qn ky kn
      obtain ⟨i, _, rfl⟩ := List.mem_map.mp hx
      refine ⟨rfl, ?_⟩
      refine ⟨_, rfl, .inl ⟨rfl, _, SqL.of (s9 _ _ hd8)⟩, _, rfl, d, _, i, rfl, rfl, SqL.of (s9 _ _ hd8), ?_⟩
      refine ⟨_, rfl, .inl ⟨rfl, _, SqL.of (s9 _ _ hd8)⟩, _, rfl, i, rfl, d, _, -i, rfl, rfl, SqL.of (s9 _ _ hd8), rfl, _, rfl, ?_⟩
      refine iteF' ?_ (kn rfl H9 (fun _ _ e => e))
      rw [even_counts i prs]
      simp
    intro D9 H9 hD9 s9 h9
    have e9 : (((iv (Fr.shr (prodL prs))).filter fun _ => false).map id) = [] := by
      rw [List.filter_eq_nil_iff.mpr (fun _ _ => by simp)]
      rfl
    rw [e9] at h9
    refine ⟨Nat.zero_le _, fun l10 hl10 => ?_⟩
    have s10 := same_upd (o := HO.lst []) hl10
    refine ⟨.list [], .list [], .lst (SqL.of (s10 _ _ h9)) .nil, .lst (SqL.of upd_same) .nil, rfl, rfl, _, rfl, ?_⟩
    refine iteF' (by rfl) ?_
    have s810 := s9.trans s10
    have sm10 := sm8.trans s810
    have hm10 := s810 _ _ hm8
    have h210 := h28.imp fun _ _ r => MPr.same r s810
    obtain ⟨H10, e10⟩ : ∃ H10, H10 = L2.upd H9 l10 (.lst []) := ⟨_, rfl⟩
    rw [← e10] at sm10 hm10 h210 ⊢
    -- the pairs turned about
    obtain ⟨vs0, hv0, hp0⟩ := hP.same sm10
    have hv0l := hp0.length
    refine nx_lc ?_
    refine ⟨_, rfl, a, vs0, rfl, SqL.of hv0, fun p11 hp11 => ?_⟩
    refine ⟨p11, rfl, ⟨_, SqL.of upd_same⟩, ?_⟩
    have s11 := same_upd (o := .lst vs0.reverse) hp11
    have hp11' := (hp0.imp fun _ _ r => PPr.same r s11).rev
    refine lcM (walk_list (xs := vs0.reverse)) (prs.reverse.map swp) PPrN (fun _ _ _ _ _ h s => h.same s) (fun _ _ _ _ _ _ _ h => h.put) (by rw [List.length_reverse]; omega) (by rw [List.length_reverse, List.length_map, List.length_reverse]; exact hv0l) (fun H6 s6 => SqL.of (s6 _ _ upd_same)) ?_ (fun x σ1 H A B k h => gTup_mono k h) ?_
    · intro i x b hx hb D H12 hD ⟨us, hus⟩ s12 Qy ky
      obtain ⟨p, hp, q, u, v, rfl, g1, g2, g3⟩ := hp11'.at hx
      rw [List.getElem?_map, hp] at hb
      obtain rfl := Option.some.inj hb
      refine ⟨q, _, rfl, SqT.of (s12 _ _ g1), rfl, _, _, rfl, _, _, rfl, rfl, ?_⟩
      refine ⟨rfl, ?_⟩
      refine ⟨_, rfl, _, rfl, (by show 2 ≤ sizeLine; decide), fun l hl => ?_⟩
      have s13 := same_upd (o := .tup [.ref v, .ref u]) hl
      exact ky (.ref l) _ s13 ⟨l, v, u, ⟨(fun z => by rw [z, hus] at hl; cases hl), ne_of_none g3 hD, ne_of_none g2 hD⟩, rfl, upd_same, s13 _ _ (s12 _ _ g3), s13 _ _ (s12 _ _ g2)⟩
    intro B H12 bs hB s12 hB12 hb12
    have s1012 := s11.trans s12
    have sm12 := sm10.trans s1012
    have hm12 := s1012 _ _ hm10
    have h212 := h210.imp fun _ _ r => MPr.same r s1012
    -- more than six, or nothing is left
    refine ⟨_, rfl, a, _, rfl, .inl (SqL.of (s1012 _ _ hv0)), _, _, rfl, rfl, _, rfl, ?_⟩
    refine ite2 (fun _ => k H12 sm12) (fun h6 => ?_)
    have h6' : prs.length ≤ 6 := by
      have := of_decide_eq_false (Bool.eq_false_iff.mpr h6)
      omega
    have hbk : ∀ q ∈ prs.reverse.map swp, okPr q := fun q hq => by
      obtain ⟨p, hp, rfl⟩ := List.mem_map.mp hq
      have := hok p (List.mem_reverse.mp hp)
      exact ⟨this.2.1, this.1, this.2.2.2, this.2.2.1⟩
    refine ⟨_, rfl, _, rfl, B, _, rfl, ⟨bs, hB12, hb12.imp fun _ _ r => r.to⟩, by simp; omega, hbk, fun m13 H13 ws13 hm130 s13 hm13 h213 => ?_⟩
    refine ⟨m, m13, _, _, rfl, rfl, s13 _ _ hm12, hm13, Evl.sz_of (by have := h213.length; simp at this; omega), fun l14 hl14 => ?_⟩
    have s14 := same_upd (o := .lst (ws ++ ws13)) hl14
    have hall : ∀ q ∈ prs ++ prs.reverse.map swp, okPr q := fun q hq => (List.mem_append.mp hq).elim (hok q) (hbk q)
    refine ⟨.ref l14, rfl, .inr ⟨l14, prs ++ prs.reverse.map swp, rfl, ⟨_, .inl (SqL.of upd_same), ((h212.imp fun _ _ r => (MPr.same (MPr.same r s13) s14).w)).app (h213.imp fun _ _ r => (MPr.same r s14).w)⟩, by simp; omega,
      fun q hq => ⟨Nat.le_trans (hall q hq).1 (by decide), Nat.le_trans (hall q hq).2.1 (by decide)⟩, fun q hq => (hall q hq).2.2, fun _ u H15 s15 W15 => ?_, fun h => ?_⟩⟩
    · rw [back_nil] at W15
      refine ⟨Nat.zero_le _, fun l16 hl16 x dx nx ndx _ => make_at (ms := []) nx ndx (.inl (SqL.of upd_same)) (by simp) (fun _ h => nomatch h) fun H17 s17 W17 => ?_⟩
      refine ⟨u, x, [], [], rfl, rfl, (W15.same (same_upd hl16)).same s17, W17, ?_⟩
      exact k H17 (((sm12.trans s13).trans (s14.trans s15)).trans ((same_upd hl16).trans s17))
    · rw [back_nil] at h
      exact absurd h (by decide)
end
end W29
set_option Elab.async false
set_option linter.all false
set_option maxRecDepth 100000
set_option maxHeartbeats 4000000
namespace W29
open PySem L2 PySem.Spec PyProof.Rows WR
abbrev sHeard : Stmt := top 48
/-! ### the def that hears what a call refuses -/
def THeard (CB CT : Addr) : (XK → Hp → VK → Prop) → Hp → VK → Prop := fun tl H Q =>
  tl (fun cls d H' => ∃ dd : Addr, d = some dd ∧
    ((cls = .ref CB ∧ ∃ v : V, H' dd = some (.xd [(("part" : Str), v)]) ∧ ∀ t, H' t = none → Q (.ref t) (L2.upd H' t (.tup [.str "word", v]))) ∨
     (cls = .ref CT ∧ ∃ v u : V, H' dd = some (.xd [(("most" : Str), u), (("what" : Str), v)]) ∧ ∀ t, H' t = none → Q (.ref t) (L2.upd H' t (.tup [v, u]))))) H (fun _ H' => Q .non H')
theorem takes_len {X : Cx} {W : WX} (t : Takes X W) : Takes X (fun cls d σ H => σ.length = X.N.length → W cls d σ H) := fun u s' ⟨a, B, sI, pins, σ, H, cls, d, e, I, nb, up, sky, na, os, ag, w⟩ =>
  t u s' ⟨a, B, sI, pins, σ, H, cls, d, e, I, nb, up, sky, na, os, ag, w I.len⟩
abbrev nHeard : List Str := ["_law_ask", "error"]
theorem scHeard : FnScope nHeard ["_law_ask"] (defScope sHeard) := ⟨rfl, rfl, rfl, by decide +kernel, rfl, by decide +kernel, by decide +kernel⟩
/-- what the clauses ask of the two classes -/
structure Two (K : PySem.W.Frag) (mg : Str → Option Value) (CB CT : Addr) : Prop where
  gH : ∃ D : Addr, mg "HandleError" = some (.ref D)
  no : PySem.W.exmOne K (.ref CT) (.ref CB) = some false
  nB : PySem.W.findIn K (.ref CB) "part" = some none
  n1 : PySem.W.findIn K (.ref CT) "what" = some none
  n2 : PySem.W.findIn K (.ref CT) "most" = some none
theorem what_most : ¬ (("what" : Str) = "most") := by decide +kernel
theorem on1 {a : Addr} {σ : L2.St} (h : σ.length = 2) : (TM.onS (some 1) a σ)[1]? = some (some (.ref a)) := by
  match σ, h with
  | [_, _], _ => rfl
theorem heard_gives {X : Cx} {g CB CT : Addr} {cdg : Value} {q : Str} {ps1 ps2 : List Str} {sp1 sp2 : Sp} {base : Heap} (EB : ErrC X.prog X.w X.K X.mg base CB "BadWord" ps1 sp1) (ET : ErrC X.prog X.w X.K X.mg base CT "TooMany" ps2 sp2) (Z : Two X.K X.mg CB CT) :
    LamX.GivesTo X nHeard "_law_heard" (defScope sHeard) g cdg (defBody sHeard) "_law_ask" q (THeard CB CT) := by
  intro f c' s H Q tl act hc h
  obtain ⟨CH, gH⟩ := Z.gH
  refine ⟨_, pss_cons (TM.ps_try_ms (X := (cxOf C8.CX0 X.prog X.w X.K X.mg X.base nHeard "_law_heard" (defScope sHeard) g cdg X.A X.stack s H C8.E0).nox) (out := fun _ _ _ _ => False)
      (l := [⟨.ref CB, some 1, fun a cls d => tRet (tTup (tCons (tC (.str "word")) (tCons (tXf a cls d CB "part" (tVar 1)) tNil)))⟩,
        ⟨.ref CT, some 1, fun a cls d => tRet (tTup (tCons (tXf a cls d CT "what" (tVar 1)) (tCons (tXf a cls d CT "most" (tVar 1)) tNil)))⟩,
        ⟨.ref CH, none, fun a cls d => tRet (tTup (tCons (tC (.str "refused")) tNil))⟩])
      (tb := fun W D σ H => ∃ Ech : XK, (∀ cls d σ' H', Ech cls d H' → σ'.length = 2 → W cls d σ' H') ∧ σ[0]? = some (some (.ref f)) ∧ H c' = some (LamX.CodeO c' q) ∧ tl Ech H (fun _ H' => D.nx σ H'))
      rfl rfl LamX.takes0 (fun W pn xe tk _ => ?_)
      (.cons (.named scHeard.nd rfl rfl ⟨rfl, by decide, .inl EB.g⟩ (fun a oe cls d pn hz hf => pss_one (ps_ret (pe_tup (pa_cons pe_str (pa_cons (pe_xf EB.xf Z.nB hz hf (pv 1)) pa_nil))))))
      (.cons (.named scHeard.nd rfl rfl ⟨rfl, by decide, .inl ET.g⟩ (fun a oe cls d pn hz hf => pss_one (ps_ret (pe_tup (pa_cons (pe_xf ET.xf Z.n1 hz hf (pv 1)) (pa_cons (pe_xf ET.xf Z.n2 hz hf (pv 1)) pa_nil))))))
      (.cons (.bare ⟨rfl, by decide, .inl gH⟩ (fun a oe cls d pn hz hf => pss_one (ps_ret (pe_tup (pa_cons pe_str pa_nil))))) .nil)))) (pss_one (ps_ret pe_non)), ?_⟩
  · refine ⟨fun pins s' σ H' D I h' => ?_⟩
    obtain ⟨Ech, hW, h1, h2, h3⟩ := h'
    exact (pss_one (ps_expr (act _ pn xe Ech _ _ (takes_len tk) (fun cls d σ' H' h hl => hW cls d σ' H' h hl)))).run pins s' σ H' D I ⟨h1, h2, h3⟩
  · refine ⟨_, fun cls d σ' H' h1 h2 => ?_, rfl, hc, h⟩
    obtain ⟨dd, rfl, h3⟩ := h1
    rcases h3 with ⟨rfl, v, h4, h5⟩ | ⟨rfl, v, u, h4, h5⟩
    · refine ⟨true, EB.te, fun _ a ha => ?_, fun z => Bool.noConfusion z⟩
      exact ⟨_, on1 h2, rfl, rfl, dd, _, v, rfl, h4, lk_eq, by show 2 ≤ sizeLine; decide, fun t ht => h5 t ht⟩
    · refine ⟨false, Z.no, fun z => Bool.noConfusion z, fun _ => ⟨true, ET.te, fun _ a ha => ?_, fun z => Bool.noConfusion z⟩⟩
      exact ⟨_, on1 h2, rfl, rfl, dd, _, v, rfl, h4, (by rw [lk_ne what_most]; exact lk_eq), _, on1 h2, rfl, rfl, dd, _, u, rfl, h4, lk_eq, by show 2 ≤ sizeLine; decide, fun t ht => h5 t ht⟩
/-! ### a def that makes lambdas: its own code object is at c -/
structure FunC (K : PySem.W.Frag) (x : Str) (st : Stmt) (f c : Addr) (fd : FuncData) : Prop where
  ex : ∃ (oc : Value) (od : Option Addr) (kV doc pm : Value) (an : Option Addr) (ct : Value) (osl : Array (Option Value)),
    fd = PySem.W.fnOf x x (defArgs st) (defBody st) (defScope st) .none kV doc pm an (.ref c) ct ∧ K.lookup f = some ⟨oc, od, .func fd, osl⟩ ∧ PySem.W.codeIn K (.ref c) x = true
theorem FunC.ok {P : Program} {w : World} {K : PySem.W.Frag} {mg : Str → Option Value} {base : Heap} {x : Str} {st : Stmt} {f c : Addr} {fd : FuncData} {N ps : List Str} {k : Nat} {sp : Sp} (F : FunC K x st f c fd) (S : FnScope N ps (defScope st))
    (len : ∀ vs H Q E, sp vs H Q E → vs.length = ps.length)
    (body : ∀ (A : Around) (outer : List Env) (s : Shared) (H : Hp) (vs : List V) (Q : VK) (E : XK), Room k (A.deeper (envOfC x (defScope st) s.heap.objs.size f (.ref c))) → sp vs H Q E →
      ∃ t, PSs (cxOf CX0 P w K mg base N x (defScope st) f (.ref c) A outer s H E).nox (defBody st) t ∧ t { nx := fun _ H' => Q .non H', rt := Q } (L2.start N vs) H) : FnOk P w K mg base CX0 (k + 1) f fd ps sp := by
  obtain ⟨oc, od, kV, doc, pm, an, ct, osl, rfl, lk, cd⟩ := F.ex
  refine fn_of lk cd S len fun A outer s H vs Q E room asked => ?_
  obtain ⟨t, ht, hq⟩ := body A outer s H vs Q E room asked
  exact ⟨t, ht.nox, hq⟩
/-- what the module has written of the def that hears -/
structure HearK (K : PySem.W.Frag) (mg : Str → Option Value) (g : Addr) : Prop where
  mg : mg "_law_heard" = some (.ref g)
  kp : PySem.W.keepIn K (.ref g) = true
  ex : ∃ (oc : Value) (od : Option Addr) (kV doc pm cdv ct : Value) (an : Option Addr) (osl : Array (Option Value)),
    K.lookup g = some ⟨oc, od, .func (PySem.W.fnOf "_law_heard" "_law_heard" (defArgs sHeard) (defBody sHeard) (defScope sHeard) .none kV doc pm an cdv ct), osl⟩ ∧ PySem.W.codeIn K cdv "_law_heard" = true
theorem tabs_kept {T : List (Addr × Str)} {a c : Addr} {n : Nat} {H H' : Hp} (h : HandAt H a c n) (k : Kept a H H') (t : LamX.Tabs T H) : LamX.Tabs T H' := by
  intro p hp
  obtain ⟨ps, h1, h2, h3⟩ := t p hp
  obtain ⟨ns, i, r, ha, _⟩ := h
  have na : ∀ {b : Addr} {o : HO}, H b = some o → (∀ xs, o ≠ .lst xs) → b ≠ a := fun e z q => by
    rw [q, ha] at e
    exact z _ (Option.some.inj e).symm
  refine ⟨ps, k _ _ (na h1 fun xs q => by cases q) h1, h2, fun pos cv hc => ?_⟩
  obtain ⟨d, e1, e2⟩ := h3 pos cv hc
  exact ⟨d, e1, k _ _ (na e2 fun xs q => by
    have q2 : HO.ext _ = HO.lst xs := q
    cases q2) e2⟩
theorem HandAt.ext {H H' : Hp} {a c : Addr} {n : Nat} (h : HandAt H a c n) (s : LamX.ExtN H H') : HandAt H' a c n := by
  obtain ⟨ns, i, r, h1, h2, h3⟩ := h
  exact ⟨ns, i, r, s _ _ h1 (fun ps q => by cases q), s _ _ h2 (fun ps q => by cases q), h3⟩
/-! ### words of one letter -/
section
variable {K : PySem.W.Frag} {C : Addr} {σ : L2.St} {H : Hp} {Q : VK}
theorem rep_toNat {k n : Int} : (List.replicate n.toNat [V.int k]).flatten = iv (Fr.rep n.toNat [k]) := rep_flat n.toNat [k]
theorem Lts.one {k : Int} (h : 1 ≤ k.natAbs ∧ k.natAbs ≤ 26) : Lts [k] := fun x hx => by
  rw [List.mem_singleton.mp hx]
  exact h
theorem rep_len {k : Int} (n : Nat) : (Fr.rep n [k]).length = n := by simp [Fr.rep_length]
/-- [k] * n -/
theorem rep_read {tk tn : TE} {k n : Int} (hk : ∀ H1 (Q1 : VK), Q1 (.int k) H1 → tk σ H1 Q1) (hn : ∀ H1 (Q1 : VK), Q1 (.int n) H1 → tn σ H1 Q1) (n0 : 0 ≤ n) (n1 : n ≤ 500)
    (G : ∀ p H', H p = none → Same H H' → H' p = some (.lst (iv (Fr.rep n.toNat [k]))) → Q (.ref p) H') : tOp rRep (tLst (tCons tk tNil)) tn σ H Q := by
  refine hk H _ ⟨by show 1 ≤ sizeLine; decide, fun l hl => hn _ _ ⟨l, n, _, rfl, rfl, upd_same, by omega, by omega, Evl.sz_of (by show 1 * n.toNat ≤ _; omega), fun p hp => ?_⟩⟩
  have s1 := same_upd (o := .lst [.int k]) hl
  exact G p _ (s1.free hp) (s1.trans (same_upd hp)) (by rw [upd_same, rep_toNat])
/-- Word([k] * n) -/
theorem word_read {tk tn : TE} {k n : Int} (hk : ∀ H1 (Q1 : VK), Q1 (.int k) H1 → tk σ H1 Q1) (hn : ∀ H1 (Q1 : VK), Q1 (.int n) H1 → tn σ H1 Q1) (n0 : 0 ≤ n) (n1 : n ≤ 500) (lk : 1 ≤ k.natAbs ∧ k.natAbs ≤ 26)
    (G : ∀ x H', Same H H' → WordAt K C H' x (Fr.rep n.toNat [k]) → Q (.ref x) H') : tMake C (spInit K C) [] E0 (tCons (tOp rRep (tLst (tCons tk tNil)) tn) tNil) σ H Q := by
  refine rep_read hk hn n0 n1 fun p H1 hp s1 h1 => ?_
  intro x dx nx ndx _
  exact make_at nx ndx (.inl (SqL.of h1)) (by rw [rep_len]; omega) ((Lts.one lk).rep _) fun H2 s2 W => G x H2 (s1.trans s2) W
theorem tup2 {ta tb : TE} (h : ta σ H fun x H1 => tb σ H1 fun y H2 => [x, y].length ≤ sizeLine ∧ ∀ p, H2 p = none → Q (.ref p) (L2.upd H2 p (.tup [x, y]))) : tTup (tCons ta (tCons tb tNil)) σ H Q := h
/-- (Word([k] * m), Word([o] * n)) -/
theorem pair_read {tk tm to tn : TE} {k m o n : Int} (hk : ∀ H1 (Q1 : VK), Q1 (.int k) H1 → tk σ H1 Q1) (hm : ∀ H1 (Q1 : VK), Q1 (.int m) H1 → tm σ H1 Q1) (ho : ∀ H1 (Q1 : VK), Q1 (.int o) H1 → to σ H1 Q1) (hn : ∀ H1 (Q1 : VK), Q1 (.int n) H1 → tn σ H1 Q1)
    (m0 : 0 ≤ m) (m1 : m ≤ 500) (n0 : 0 ≤ n) (n1 : n ≤ 500) (lk : 1 ≤ k.natAbs ∧ k.natAbs ≤ 26) (lo : 1 ≤ o.natAbs ∧ o.natAbs ≤ 26)
    (G : ∀ q H', Same H H' → MPr K C H' (.ref q) (Fr.rep m.toNat [k], Fr.rep n.toNat [o]) → Q (.ref q) H') :
    tTup (tCons (tMake C (spInit K C) [] E0 (tCons (tOp rRep (tLst (tCons tk tNil)) tm) tNil)) (tCons (tMake C (spInit K C) [] E0 (tCons (tOp rRep (tLst (tCons to tNil)) tn) tNil)) tNil)) σ H Q := by
  refine tup2 ?_
  refine word_read hk hm m0 m1 lk fun x H1 s1 W1 => ?_
  refine word_read ho hn n0 n1 lo fun y H2 s2 W2 => ?_
  refine ⟨by show 2 ≤ sizeLine; decide, fun q hq => ?_⟩
  have s3 := same_upd (o := .tup [.ref x, .ref y]) hq
  exact G q _ ((s1.trans s2).trans s3) ⟨q, x, y, rfl, upd_same, (W1.same s2).same s3, W2.same s3⟩
end
theorem All2.rep {R : V → Pr → Prop} {v : V} {p : Pr} (h : R v p) : ∀ n : Nat, All2 R (List.replicate n [v]).flatten (List.replicate n p)
  | 0 => .nil
  | n + 1 => by
    rw [List.replicate_succ, List.replicate_succ]
    exact .cons h (All2.rep h n)
theorem con_one (n : Nat) (k : Int) : Fr.con (Fr.rep n [k]) = Fr.rep n [-k] := by
  rw [Fr.con_rep]
  rfl
theorem sm_powers (ns : List Int) : Fr.Sm (exch ns (Fr.con ns)) [] := by
  unfold exch
  rw [Fr.con_con]
  exact ((Fr.sm_con ns).app (Fr.sm_con' ns)).trans (.refl _) |> fun h => by
    have e : ns ++ Fr.con ns ++ Fr.con ns ++ ns = (ns ++ Fr.con ns) ++ (Fr.con ns ++ ns) := by simp [List.append_assoc]
    rw [e]
    exact h
theorem powers_nil (ns : List Int) : ∀ n, Fr.Sm (prodL (List.replicate n (ns, Fr.con ns))) []
  | 0 => .refl _
  | n + 1 => by
    have e : prodL (List.replicate (n + 1) (ns, Fr.con ns)) = exch ns (Fr.con ns) ++ prodL (List.replicate n (ns, Fr.con ns)) := by
      rw [List.replicate_succ]
      simp [prodL]
    rw [e]
    exact (sm_powers ns).app (powers_nil ns n)
theorem rd_pow {k : Int} (h : k ≠ 0) (n : Nat) : Fr.Rd (Fr.rep n [k]) := (Fr.cy_rep (w := [k]) ⟨trivial, fun a b h1 h2 => by
  simp at h1 h2
  subst h1 h2
  omega⟩ n).1
theorem pow_head {k : Int} {n : Nat} (h : 1 ≤ n) : (Fr.rep n [k]).head? = some k := by
  obtain ⟨m, rfl⟩ : ∃ m, n = m + 1 := ⟨n - 1, by omega⟩
  rw [Fr.rep_head]
  rfl
theorem pow_last {k : Int} {n : Nat} (h : 1 ≤ n) : (Fr.rep n [k]).getLast? = some k := by
  obtain ⟨m, rfl⟩ : ∃ m, n = m + 1 := ⟨n - 1, by omega⟩
  rw [Fr.rep_last]
  rfl
theorem rd_join {xs ys : List Int} {a b : Int} (h1 : Fr.Rd xs) (h2 : Fr.Rd ys) (e1 : xs.getLast? = some a) (e2 : ys.head? = some b) (n : a ≠ -b) : Fr.Rd (xs ++ ys) :=
  Fr.rd_append.2 ⟨h1, h2, fun c d g1 g2 => by
    rw [e1] at g1
    rw [e2] at g2
    cases g1
    cases g2
    exact n⟩
theorem last_app {xs ys : List Int} {b : Int} (e : ys.getLast? = some b) : (xs ++ ys).getLast? = some b := by
  rw [List.getLast?_append, e]
  rfl
/-- an exchange of powers of two kinds stands as it is -/
theorem pow_exch {k o : Int} {m n : Nat} (hm : 1 ≤ m) (hn : 1 ≤ n) (hk : k ≠ 0) (ho : o ≠ 0) (hd : k.natAbs ≠ o.natAbs) : Fr.shr (exch (Fr.rep m [k]) (Fr.rep n [o])) = exch (Fr.rep m [k]) (Fr.rep n [o]) := by
  refine Fr.shr_short ?_
  unfold exch
  rw [con_one, con_one]
  have r1 := rd_join (rd_pow hk m) (rd_pow ho n) (pow_last hm) (pow_head hn) (by omega)
  have r2 := rd_join r1 (rd_pow (k := -k) (by omega) m) (last_app (pow_last hn)) (pow_head hm) (by omega)
  exact rd_join r2 (rd_pow (k := -o) (by omega) n) (last_app (pow_last hm)) (pow_head hn) (by omega)
end W29
set_option Elab.async false
set_option linter.all false
set_option maxRecDepth 100000
set_option maxHeartbeats 600000
namespace W29
open PySem L2 PySem.Spec PyProof.Rows WR
abbrev sLong : Stmt := top 51
abbrev nLong : List Str := ["_law_pen_here", "_law_heard_here", "_law_told", "_law_due", "_law_kind", "_law_many", "_law_other"]
abbrev qLong : Str := ("_law_long_right" : Str) ++ ".<locals>." ++ "<lambda>"
def spLong (T : List (Addr × Str)) : Sp := fun vs H Q _ => ∃ (a c : Addr) (n : Nat), vs = [.ref a] ∧ HandAt H a c n ∧ n ≤ 8000 ∧ LamX.Tabs T H ∧ ∀ H', Q (.bl true) H'
abbrev EH (CB CT : Addr) (Q : VK) : XK := fun cls d H' => ∃ dd : Addr, d = some dd ∧
    ((cls = .ref CB ∧ ∃ v : V, H' dd = some (.xd [(("part" : Str), v)]) ∧ ∀ t, H' t = none → Q (.ref t) (L2.upd H' t (.tup [.str "word", v]))) ∨
     (cls = .ref CT ∧ ∃ v u : V, H' dd = some (.xd [(("most" : Str), u), (("what" : Str), v)]) ∧ ∀ t, H' t = none → Q (.ref t) (L2.upd H' t (.tup [v, u]))))
section
variable {K : PySem.W.Frag} {C CB CT : Addr} {σ : L2.St} {H : Hp} {Q : VK} {T : List (Addr × Str)} {tp tb te : TE} {sp : Sp} {E : XK} {R2 : R2} {A B Cc : TS} {D : Ends} {b1 b2 : L2.St → Hp → Prop} {rt : VK} {gg : TG} {n : Int}
theorem lam_prod (tT : LamX.Tabs T H) (h : ∀ H1, LamX.ExtN H H1 → LamX.Tabs T H1 → tp σ H1 fun x H2 => [x].length ≤ sizeLine ∧ ∀ l, H2 l = none → spProd K C CB CT [.ref l] (L2.upd H2 l (.lst [x])) (fun _ H' => Q .non H') (EH CB CT Q)) :
    LamX.tLam T (THeard CB CT) (fun E => tCall (spProd K C CB CT) [] E (tCons (tLst (tCons tp tNil)) tNil)) σ H Q := ⟨tT, fun H1 x1 t1 => h H1 x1 t1⟩
theorem lst_set {tl : TE} (h : tl σ H fun x H1 => [x].length ≤ sizeLine ∧ ∀ l, H1 l = none → gg (.ref l) σ (L2.upd H1 l (.lst [x])) (Cc D)) : tSeq (tAsg (tLst (tCons tl tNil)) gg) Cc D σ H := h
theorem if_rep (h : tp σ H fun x H1 => [x].length ≤ sizeLine ∧ ∀ l, H1 l = none → rRep (.ref l) (.int n) (L2.upd H1 l (.lst [x])) fun y H2 => sp [y] H2 (fun z H3 => tb σ H3 fun u H4 => R2 z u H4 fun v H5 => ∃ c, v = .bl c ∧ if c = true then A { D with nx := Cc D } σ H5 else B { D with nx := Cc D } σ H5) E) :
    tSeq (tIfS (tTest (tOp R2 (tCall sp [] E (tCons (tOp rRep (tLst (tCons tp tNil)) (tC (.int n))) tNil)) tb)) A B) Cc D σ H := h
theorem nx_prod (h : tp σ H fun x H1 => [x].length ≤ sizeLine ∧ ∀ l, H1 l = none → sp [.ref l] (L2.upd H1 l (.lst [x])) (fun z H2 => gg z σ H2 (Cc D)) E) :
    tNext { nx := tSeq (tAsg (tCall sp [] E (tCons (tLst (tCons tp tNil)) tNil)) gg) Cc D, rt := rt, bk := b1, ct := b2 } σ H := h
theorem set_read (h : te σ H fun z H1 => gg z σ H1 (Cc D)) : tSeq (tAsg te gg) Cc D σ H := h
theorem cat4 {t1 t2 t3 t4 : TE} {m1 m2 m3 m4 : List Int} (h1 : ∀ H1 (Q1 : VK), NewL H1 Q1 m1 → t1 σ H1 Q1) (h2 : ∀ H1 (Q1 : VK), NewL H1 Q1 m2 → t2 σ H1 Q1) (h3 : ∀ H1 (Q1 : VK), NewL H1 Q1 m3 → t3 σ H1 Q1) (h4 : ∀ H1 (Q1 : VK), NewL H1 Q1 m4 → t4 σ H1 Q1)
    (l1 : m1.length ≤ 500) (l2 : m2.length ≤ 500) (l3 : m3.length ≤ 500) (l4 : m4.length ≤ 500) (k : NewL H Q (m1 ++ m2 ++ m3 ++ m4)) : tOp rCat (tOp rCat (tOp rCat t1 t2) t3) t4 σ H Q := by
  refine h1 H _ fun p1 H1 n1 s1 g1 => h2 H1 _ fun p2 H2 n2 s2 g2 => ?_
  refine ⟨p1, p2, _, _, rfl, rfl, s2 _ _ g1, g2, Evl.sz_of (by simp only [List.length_map]; omega), fun p3 n3 => ?_⟩
  have s3 := same_upd (o := .lst (iv m1 ++ iv m2)) n3
  have g3 : L2.upd H2 p3 (.lst (iv m1 ++ iv m2)) p3 = some (.lst (iv m1 ++ iv m2)) := upd_same
  obtain ⟨H3, e3⟩ : ∃ H3, H3 = L2.upd H2 p3 (.lst (iv m1 ++ iv m2)) := ⟨_, rfl⟩
  rw [← e3] at s3 g3 ⊢
  refine h3 H3 _ fun p4 H4 n4 s4 g4 => ?_
  refine ⟨p3, p4, _, _, rfl, rfl, s4 _ _ g3, g4, Evl.sz_of (by simp only [List.length_append, List.length_map]; omega), fun p5 n5 => ?_⟩
  have s5 := same_upd (o := .lst (iv m1 ++ iv m2 ++ iv m3)) n5
  have g5 : L2.upd H4 p5 (.lst (iv m1 ++ iv m2 ++ iv m3)) p5 = some (.lst (iv m1 ++ iv m2 ++ iv m3)) := upd_same
  obtain ⟨H5, e5⟩ : ∃ H5, H5 = L2.upd H4 p5 (.lst (iv m1 ++ iv m2 ++ iv m3)) := ⟨_, rfl⟩
  rw [← e5] at s5 g5 ⊢
  refine h4 H5 _ fun p6 H6 n6 s6 g6 => ?_
  refine ⟨p5, p6, _, _, rfl, rfl, s6 _ _ g5, g6, Evl.sz_of (by simp only [List.length_append, List.length_map]; omega), fun p7 n7 => ?_⟩
  have s06 := (((s1.trans s2).trans s3).trans (s4.trans s5)).trans s6
  refine k p7 _ (s06.free n7) (s06.trans (same_upd n7)) ?_
  rw [upd_same]
  simp [iv]
end
theorem exch_powers {k o : Int} {m n : Nat} : exch (Fr.rep m [k]) (Fr.rep n [o]) = Fr.rep m [k] ++ Fr.rep n [o] ++ Fr.rep m [-k] ++ Fr.rep n [-o] := by
  unfold exch
  rw [con_one, con_one]
theorem prodL_one (p : Pr) : prodL [p] = exch p.1 p.2 := by simp [prodL]
section
variable {P : Program} {w : World} {K : PySem.W.Frag} {mg : Str → Option Value} {base : Heap}
theorem scLong : FnScope nLong ["_law_pen_here"] (defScope sLong) := ⟨rfl, rfl, rfl, by decide +kernel, rfl, by decide +kernel, by decide +kernel⟩
theorem ok_long {f cd P1 g C CB CT : Addr} {fd : FuncData} {TT : List (Addr × Str)} (F : FunC K "_law_long_right" sLong f cd fd) (T : TxW K mg C) (TL : TxL mg) (TN : TxN mg) (A_ : AllP P w K mg base C CB CT) (GD : Cal P w K mg base "_law_draw" 1 ["_law_pen_here", "_law_many"] spTake)
    (EB : ErrC P w K mg base CB "BadWord" ["self", "part"] (spI1 CB)) (ET : ErrC P w K mg base CT "TooMany" ["self", "what", "most"] (spI2 CT)) (Z : Two K mg CB CT) (G : HearK K mg g) (TB : LamX.TabB base mg cd P1) (hT : (P1, qLong) ∈ TT) (hu : ∀ p ∈ TT, p.1 = P1 → p.2 = qLong) :
    FnOk P w K mg base CX0 10 f fd ["_law_pen_here"] (spLong TT) := by
  refine F.ok scLong (fun vs H Q E h => ?_) (fun A outer s H vs Q E hr h => ?_)
  · obtain ⟨a, c, n, rfl, _⟩ := h
    rfl
  · obtain ⟨a, c, n, rfl, hH, hn, tT, k⟩ := h
    obtain ⟨oc, od, kV, doc, pm, cdv, ct, an, osl, lk, hcd⟩ := G.ex
    have bG : L2.Binds K (PySem.W.fnOf "_law_heard" "_law_heard" (defArgs sHeard) (defBody sHeard) (defScope sHeard) .none kV doc pm an cdv ct) ["_law_ask"] [] := (fun_mk (st := sHeard) lk hcd G.kp).binds (ps := ["_law_ask"]) fun _ _ _ _ _ _ us hl => match us, hl with | [_], _ => rfl
    refine ⟨_, pss_cons (ps_asg (pe_tup (pa_cons (pe_op op_add pe_int (pe_cal GD hr (by decide) (by rfl) (pa_cons (pv 0) (pa_cons pe_int pa_nil)))) (pa_cons (pe_op op_add pe_int (pe_cal GD hr (by decide) (by rfl) (pa_cons (pv 0) (pa_cons pe_int pa_nil)))) pa_nil)))
        (pg_tup (n := 2) rfl (pgs_cons (pg_name (i := 5) scLong.nd rfl (Or.inr rfl)) (pgs_cons (pg_name (i := 4) scLong.nd rfl (Or.inr rfl)) pgs_nil))))
      (pss_cons (ps_set (i := 6) scLong.nd rfl (Or.inr rfl) (pe_un un_neg (pe_op op_add (pe_op op_mod (pe_callTy call_int1 (by rfl) TL.int (by decide +kernel) (pa_cons (pv 4) pa_nil)) pe_int) pe_int)))
      (pss_cons (ps_set (i := 1) scLong.nd rfl (Or.inl rfl) (pe_lst (pa_cons (LamX.pe_lamcall (T := TT) (k := 7)
          (t := fun E => tCall (spProd K C CB CT) [] E (tCons (tLst (tCons (tTup (tCons (tMake C (spInit K C) [] E0 (tCons (tOp rRep (tLst (tCons (tVar 4) tNil)) (tVar 5)) tNil)) (tCons (tMake C (spInit K C) [] E0 (tCons (tOp rRep (tLst (tCons (tVar 6) tNil)) (tOp (rI0 fun i j => .int (i - j)) (tC (.int 251)) (tVar 5))) tNil)) tNil))) tNil)) tNil))
          (by rfl) G.mg G.kp lk hcd bG scHeard (by rfl) (Or.inl rfl) (heard_gives EB ET Z) TB rfl hT hu hr (LamX.lamS_by (sc := defScope sLong) (by decide +kernel)) (by rfl) (fun q cl pm cv ctv => by rfl)
          (fun A outer s H E f c' hr2 => pe_calX A_.prod hr2 (by decide) (passes_call (takes_of rfl rfl rfl rfl) (fun _ _ _ _ h => h)) (by rfl) (pa_cons (pe_lst (pa_cons (pe_tup (pa_cons (pe_wordK (K := K) rfl A_.mkw T hr2 (by decide) (by rfl) (pa_cons (pe_op op_rep (pe_lst (pa_cons (pv 4) pa_nil)) (pv 5)) pa_nil)) (pa_cons (pe_wordK (K := K) rfl A_.mkw T hr2 (by decide) (by rfl) (pa_cons (pe_op op_rep (pe_lst (pa_cons (pv 6) pa_nil)) (pe_op op_sub pe_int (pv 5))) pa_nil)) pa_nil))) pa_nil)) pa_nil))) pa_nil)))
      (pss_cons (ps_if (pt_cmpR (op_neW A_.eq A_.ne T.cm hr (by decide)) (pe_calX A_.prod hr (by decide) passF (by rfl) (pa_cons (pe_op op_rep (pe_lst (pa_cons (pe_tup (pa_cons (pe_wordK (K := K) rfl A_.mkw T hr (by decide) (by rfl) (pa_cons (pe_op op_rep (pe_lst (pa_cons (pv 4) pa_nil)) pe_int) pa_nil)) (pa_cons (pe_wordK (K := K) rfl A_.mkw T hr (by decide) (by rfl) (pa_cons (pe_op op_rep (pe_lst (pa_cons (pe_un un_neg (pv 4)) pa_nil)) pe_int) pa_nil)) pa_nil))) pa_nil)) pe_int) pa_nil)) (pe_word A_.mkw T hr (by decide) (by rfl) (pa_cons (pe_lst pa_nil) pa_nil)) (nomark _)) (pss_one (ps_ret pe_bl)) pss_nil)
      (pss_cons (ps_set (i := 2) scLong.nd rfl (Or.inl rfl) (pe_calX A_.prod hr (by decide) passF (by rfl) (pa_cons (pe_lst (pa_cons (pe_tup (pa_cons (pe_wordK (K := K) rfl A_.mkw T hr (by decide) (by rfl) (pa_cons (pe_op op_rep (pe_lst (pa_cons (pv 4) pa_nil)) (pv 5)) pa_nil)) (pa_cons (pe_wordK (K := K) rfl A_.mkw T hr (by decide) (by rfl) (pa_cons (pe_op op_rep (pe_lst (pa_cons (pv 6) pa_nil)) (pe_op op_sub pe_int (pv 5))) pa_nil)) pa_nil))) pa_nil)) pa_nil)))
      (pss_cons (ps_set (i := 3) scLong.nd rfl (Or.inl rfl) (pe_op op_cat (pe_op op_cat (pe_op op_cat (pe_op op_rep (pe_lst (pa_cons (pv 4) pa_nil)) (pv 5)) (pe_op op_rep (pe_lst (pa_cons (pv 6) pa_nil)) (pe_op op_sub pe_int (pv 5)))) (pe_op op_rep (pe_lst (pa_cons (pe_un un_neg (pv 4)) pa_nil)) (pv 5))) (pe_op op_rep (pe_lst (pa_cons (pe_un un_neg (pv 6)) pa_nil)) (pe_op op_sub pe_int (pv 5)))))
      (pss_one (ps_ret (pe_and (pe_cmpR (op_eqD hr.units) (pv 1) (pe_lst (pa_cons (pe_tup (pa_cons pe_str (pa_cons pe_int pa_nil))) pa_nil)) (nomark _)) (pe_one (pe_cmpR (op_eqD hr.units) (pe_callTy call_list_of (by rfl) TN.list (by decide +kernel) (pa_cons (pe_fld (pv 2) rfl) pa_nil)) (pv 3) (nomark _))))))))))), ?_⟩
    -- how many, the kind, the other kind
    refine ⟨_, rfl, a, c, 249, n, rfl, hH, by omega, by decide, by decide, fun H1 q1 a1 b1 hH1 hK1 => ?_⟩
    refine ⟨_, _, rfl, rfl, _, rfl, a, c, 26, n + 1, rfl, hH1, by omega, by decide, by decide, fun H2 q2 a2 b2 hH2 hK2 => ?_⟩
    refine ⟨_, _, rfl, rfl, by show 2 ≤ sizeLine; decide, fun tp htp => ⟨tp, _, rfl, SqT.of upd_same, rfl, _, _, rfl, _, _, rfl, rfl, ?_⟩⟩
    have t3 := (tabs_kept hH (hK1.trans hK2) tT).ext fun b o e => (same_upd (o := .tup [.int (1 + q1), .int (1 + q2)]) htp) b o e
    obtain ⟨H3, e3⟩ : ∃ H3, H3 = L2.upd H2 tp (.tup [.int (1 + q1), .int (1 + q2)]) := ⟨_, rfl⟩
    rw [← e3] at t3 ⊢
    have c1 := Int.emod_nonneg (1 + q2) (show (26 : Int) ≠ 0 by decide)
    have c2 := Int.emod_lt_of_pos (1 + q2) (show (0 : Int) < 26 by decide)
    refine ⟨_, rfl, .inl ⟨_, rfl, _, _, rfl, rfl, (by decide : (0 : Int) < 26), _, _, rfl, rfl, _, rfl, ?_⟩⟩
    have ne : (1 + q2).natAbs ≠ (-((1 + q2) % 26 + 1)).natAbs := by
      by_cases h : 1 + q2 = 26
      · rw [h]
        decide
      · have : (1 + q2) % 26 = 1 + q2 := Int.emod_eq_of_lt (by omega) (by omega)
        omega
    have lo : 1 ≤ (-((1 + q2) % 26 + 1)).natAbs ∧ (-((1 + q2) % 26 + 1)).natAbs ≤ 26 := by omega
    have lk_ : 1 ≤ (1 + q2).natAbs ∧ (1 + q2).natAbs ≤ 26 := by omega
    have m0 : 1 ≤ 1 + q1 := by omega
    have m1 : 1 + q1 ≤ 249 := by omega
    have kd0 : (1 + q2) ≠ 0 := by omega
    have o0 : -((1 + q2) % 26 + 1) ≠ 0 := by omega
    have lkn : 1 ≤ (-(1 + q2)).natAbs ∧ (-(1 + q2)).natAbs ≤ 26 := by omega
    -- too many letters
    dsimp only
    refine lst_set ?_
    refine lam_prod t3 fun H4 x4 t4 => ?_
    refine pair_read (k := (1 + q2)) (m := 1 + q1) (o := -((1 + q2) % 26 + 1)) (n := 251 - (1 + q1)) (fun _ _ q => ⟨_, rfl, q⟩) (fun _ _ q => ⟨_, rfl, q⟩) (fun _ _ q => ⟨_, rfl, q⟩) (fun _ _ q => ⟨_, rfl, _, _, rfl, rfl, q⟩) (by omega) (by omega) (by omega) (by omega) lk_ lo fun q5 H5 s5 h5 => ?_
    refine ⟨by show 1 ≤ sizeLine; decide, fun l6 hl6 => ?_⟩
    have s6 := same_upd (o := .lst [.ref q5]) hl6
    have p1 := pow_exch (k := (1 + q2)) (o := -((1 + q2) % 26 + 1)) (m := (1 + q1).toNat) (n := (251 - (1 + q1)).toNat) (by omega) (by omega) kd0 o0 ne
    have p2 : (Fr.shr (prodL [(Fr.rep (1 + q1).toNat [(1 + q2)], Fr.rep (251 - (1 + q1)).toNat [-((1 + q2) % 26 + 1)])])).length = 502 := by
      rw [prodL_one, p1, exch_length, rep_len, rep_len]
      omega
    refine ⟨.ref l6, rfl, .inr ⟨l6, [(Fr.rep (1 + q1).toNat [(1 + q2)], Fr.rep (251 - (1 + q1)).toNat [-((1 + q2) % 26 + 1)])], rfl, ⟨_, .inl (SqL.of upd_same), .cons (h5.same s6).w .nil⟩, by show 1 ≤ 12; decide, fun p hp => ?_, fun p hp => ?_, fun h => absurd h (by rw [p2]; decide), fun _ => fun H7 s7 d7 hd7 => ?_⟩⟩
    · rw [List.mem_singleton.mp hp]
      exact ⟨by rw [rep_len]; omega, by rw [rep_len]; omega⟩
    · rw [List.mem_singleton.mp hp]
      exact ⟨(Lts.one lk_).rep _, (Lts.one lo).rep _⟩
    refine ⟨d7, rfl, .inr ⟨rfl, .str "letters", .int 500, upd_same, fun t8 ht8 => ?_⟩⟩
    have g8 : L2.upd (L2.upd H7 d7 (.xd [(("most" : Str), .int 500), (("what" : Str), .str "letters")])) t8 (.tup [.str "letters", .int 500]) t8 = some (.tup [.str "letters", .int 500]) := upd_same
    obtain ⟨H8, e8⟩ : ∃ H8, H8 = L2.upd (L2.upd H7 d7 (.xd [(("most" : Str), .int 500), (("what" : Str), .str "letters")])) t8 (.tup [.str "letters", .int 500]) := ⟨_, rfl⟩
    rw [← e8] at g8 ⊢
    refine ⟨by show 1 ≤ sizeLine; decide, fun l9 hl9 => ?_⟩
    have g9 : L2.upd H8 l9 (.lst [.ref t8]) l9 = some (.lst [.ref t8]) := upd_same
    have g89 := (same_upd (o := .lst [.ref t8]) hl9) _ _ g8
    obtain ⟨H9, e9⟩ : ∃ H9, H9 = L2.upd H8 l9 (.lst [.ref t8]) := ⟨_, rfl⟩
    rw [← e9] at g9 g89 ⊢
    show tSeq _ _ _ _ H9
    -- powers of one letter
    refine if_rep ?_
    refine pair_read (k := (1 + q2)) (m := 500) (o := -(1 + q2)) (n := 500) (fun _ _ q => ⟨_, rfl, q⟩) (fun _ _ q => q) (fun _ _ q => ⟨_, rfl, (1 + q2), rfl, q⟩) (fun _ _ q => q) (by decide) (by decide) (by decide) (by decide) lk_ lkn fun qa Ha sa ha => ?_
    refine ⟨by show 1 ≤ sizeLine; decide, fun lb hlb => ?_⟩
    refine ⟨lb, 12, _, rfl, rfl, upd_same, by decide, by decide, Evl.sz_of (by show 1 * 12 ≤ _; decide), fun pc hpc => ?_⟩
    have sb := same_upd (o := .lst [.ref qa]) hlb
    have sc := same_upd (o := .lst (List.replicate (12 : Int).toNat [V.ref qa]).flatten) hpc
    have pn := powers_nil (Fr.rep 500 [(1 + q2)]) 12
    rw [con_one] at pn
    have hsh : Fr.shr (prodL (List.replicate 12 (Fr.rep 500 [(1 + q2)], Fr.rep 500 [-(1 + q2)]))) = [] := Fr.shr_eq pn trivial
    refine ⟨.ref pc, rfl, .inr ⟨pc, List.replicate 12 (Fr.rep 500 [(1 + q2)], Fr.rep 500 [-(1 + q2)]), rfl, ⟨_, .inl (SqL.of upd_same), All2.rep (((ha.same sb).same sc).w) 12⟩, by simp, fun p hp => ?_, fun p hp => ?_, fun _ ud Hd sd Wd => ?_, fun h => absurd h (by rw [hsh]; decide)⟩⟩
    · rw [(List.mem_replicate.mp hp).2]
      exact ⟨by rw [rep_len]; decide, by rw [rep_len]; decide⟩
    · rw [(List.mem_replicate.mp hp).2]
      exact ⟨(Lts.one lk_).rep _, (Lts.one lkn).rep _⟩
    rw [hsh] at Wd
    refine ⟨Nat.zero_le _, fun le hle x dx nx ndx _ => make_at (ms := []) nx ndx (.inl (SqL.of upd_same)) (by simp) (fun _ h => nomatch h) fun Hf sf Wf => ?_⟩
    have s9f := (((sa.trans sb).trans sc).trans sd).trans ((same_upd hle).trans sf)
    refine ⟨ud, x, [], [], rfl, rfl, (Wd.same (same_upd hle)).same sf, Wf, _, rfl, ?_⟩
    refine iteF' (by simp) ?_
    -- as many as there can be
    refine nx_prod ?_
    refine pair_read (k := (1 + q2)) (m := 1 + q1) (o := -((1 + q2) % 26 + 1)) (n := 250 - (1 + q1)) (fun _ _ q => ⟨_, rfl, q⟩) (fun _ _ q => ⟨_, rfl, q⟩) (fun _ _ q => ⟨_, rfl, q⟩) (fun _ _ q => ⟨_, rfl, _, _, rfl, rfl, q⟩) (by omega) (by omega) (by omega) (by omega) lk_ lo fun qg Hg sg hg => ?_
    refine ⟨by show 1 ≤ sizeLine; decide, fun lh hlh => ?_⟩
    have sh := same_upd (o := .lst [.ref qg]) hlh
    have p3 := pow_exch (k := (1 + q2)) (o := -((1 + q2) % 26 + 1)) (m := (1 + q1).toNat) (n := (250 - (1 + q1)).toNat) (by omega) (by omega) kd0 o0 ne
    have p4 : Fr.shr (prodL [(Fr.rep (1 + q1).toNat [(1 + q2)], Fr.rep (250 - (1 + q1)).toNat [-((1 + q2) % 26 + 1)])]) = exch (Fr.rep (1 + q1).toNat [(1 + q2)]) (Fr.rep (250 - (1 + q1)).toNat [-((1 + q2) % 26 + 1)]) := by rw [prodL_one, p3]
    have p5 : (exch (Fr.rep (1 + q1).toNat [(1 + q2)]) (Fr.rep (250 - (1 + q1)).toNat [-((1 + q2) % 26 + 1)])).length = 500 := by
      rw [exch_length, rep_len, rep_len]
      omega
    refine ⟨.ref lh, rfl, .inr ⟨lh, [(Fr.rep (1 + q1).toNat [(1 + q2)], Fr.rep (250 - (1 + q1)).toNat [-((1 + q2) % 26 + 1)])], rfl, ⟨_, .inl (SqL.of upd_same), .cons (hg.same sh).w .nil⟩, by show 1 ≤ 12; decide, fun p hp => ?_, fun p hp => ?_, fun _ ui Hi si Wi => ?_, fun h => absurd h (by rw [p4, p5]; decide)⟩⟩
    · rw [List.mem_singleton.mp hp]
      exact ⟨by rw [rep_len]; omega, by rw [rep_len]; omega⟩
    · rw [List.mem_singleton.mp hp]
      exact ⟨(Lts.one lk_).rep _, (Lts.one lo).rep _⟩
    rw [p4] at Wi
    have s9i := ((s9f.trans sg).trans sh).trans si
    show tSeq _ _ _ _ Hi
    -- what is due
    refine set_read ?_
    refine cat4 (m1 := Fr.rep (1 + q1).toNat [(1 + q2)]) (m2 := Fr.rep (250 - (1 + q1)).toNat [-((1 + q2) % 26 + 1)]) (m3 := Fr.rep (1 + q1).toNat [-(1 + q2)]) (m4 := Fr.rep (250 - (1 + q1)).toNat [-(-((1 + q2) % 26 + 1))])
      (fun _ _ q => rep_read (fun _ _ q => ⟨_, rfl, q⟩) (fun _ _ q => ⟨_, rfl, q⟩) (by omega) (by omega) q)
      (fun _ _ q => rep_read (fun _ _ q => ⟨_, rfl, q⟩) (fun _ _ q => ⟨_, rfl, _, _, rfl, rfl, q⟩) (by omega) (by omega) q)
      (fun _ _ q => rep_read (fun _ _ q => ⟨_, rfl, (1 + q2), rfl, q⟩) (fun _ _ q => ⟨_, rfl, q⟩) (by omega) (by omega) q)
      (fun _ _ q => rep_read (fun _ _ q => ⟨_, rfl, _, rfl, q⟩) (fun _ _ q => ⟨_, rfl, _, _, rfl, rfl, q⟩) (by omega) (by omega) q)
      (by rw [rep_len]; omega) (by rw [rep_len]; omega) (by rw [rep_len]; omega) (by rw [rep_len]; omega) fun pj Hj hpj sj gj => ?_
    rw [← exch_powers] at gj
    have s9j := s9i.trans sj
    show tRet _ _ _ Hj
    refine ⟨_, rfl, by show 2 ≤ sizeLine; decide, fun tk htk => ⟨by show 1 ≤ sizeLine; decide, fun ll hll => ?_⟩⟩
    have sk := same_upd (o := .tup [.str "letters", .int 500]) htk
    have sl := same_upd (o := .lst [.ref tk]) hll
    have s9l := (s9j.trans sk).trans sl
    refine ⟨.list [.tuple [.str "letters", .int 500]], .list [.tuple [.str "letters", .int 500]], .lst (SqL.of (s9l _ _ g9)) (.cons (.tup (SqT.of (s9l _ _ g89)) (.cons (.str _) (.cons (.int _) .nil))) .nil),
      .lst (SqL.of upd_same) (.cons (.tup (SqT.of (sl _ _ upd_same)) (.cons (.str _) (.cons (.int _) .nil))) .nil), by decide +kernel, by decide +kernel, _, rfl, ?_⟩
    refine iteT' (by decide +kernel) ?_
    obtain ⟨dx, tl, tk2, ks, w1, w2, w3, w4⟩ := ((Wi.same sj).same sk).same sl
    refine ⟨_, rfl, ui, C, dx, _, _, rfl, w1, T.cl, T.nL, wf_letters, tl, _, rfl, .inr w2, fun lm hlm => ?_⟩
    refine ⟨_, rfl, .list ((exch (Fr.rep (1 + q1).toNat [(1 + q2)]) (Fr.rep (250 - (1 + q1)).toNat [-((1 + q2) % 26 + 1)])).map PyData.int), .list ((exch (Fr.rep (1 + q1).toNat [(1 + q2)]) (Fr.rep (250 - (1 + q1)).toNat [-((1 + q2) % 26 + 1)])).map PyData.int), .lst (SqL.of upd_same) (dpInts _), .lst (SqL.of ((same_upd hlm) _ _ (sl _ _ (sk _ _ gj)))) (dpInts _), PySem.W.ke_shaped_ints _, PySem.W.ke_shaped_ints _, ?_⟩
    rw [eqvL_ints, decide_eq_true rfl]
    exact k _
end
end W29
set_option Elab.async false
set_option linter.all false
set_option maxRecDepth 100000
set_option maxHeartbeats 1000000
namespace W29
open PySem L2 PySem.Spec PyProof.Rows WR
/-! ### the heap without the pen and without the tables -/
def isTbl : HO → Bool
  | .tbl _ => true
  | _ => false
def cut (a : Addr) (H : Hp) : Hp := fun b => if b = a then none else match H b with
  | some o => if isTbl o = true then none else some o
  | none => none
theorem cut_of {a b : Addr} {H : Hp} {o : HO} (h : H b = some o) (n : b ≠ a) (t : isTbl o = false) : cut a H b = some o := by
  unfold cut
  rw [if_neg n, h]
  show (if isTbl o = true then none else some o) = some o
  rw [if_neg (by rw [t]; decide)]
theorem of_cut {a b : Addr} {H : Hp} {o : HO} (h : cut a H b = some o) : H b = some o ∧ b ≠ a ∧ isTbl o = false := by
  unfold cut at h
  by_cases n : b = a
  · rw [if_pos n] at h
    cases h
  · rw [if_neg n] at h
    cases e : H b with
    | none => rw [e] at h; cases h
    | some u =>
      rw [e] at h
      have h : (if isTbl u = true then none else some u) = some o := h
      by_cases t : isTbl u = true
      · rw [if_pos t] at h
        cases h
      · rw [if_neg t] at h
        cases h
        exact ⟨rfl, n, Bool.eq_false_iff.mpr t⟩
theorem cut_in {a : Addr} {H : Hp} : Same (cut a H) H := fun b o e => (of_cut e).1
theorem cut_kept {a : Addr} {H H' : Hp} (k : Kept a H H') : Same (cut a H) (cut a H') := fun b o e => by
  obtain ⟨h, n, t⟩ := of_cut e
  exact cut_of (k b o n h) n t
theorem cut_same {a : Addr} {H H' : Hp} (s : Same H H') : Same (cut a H) (cut a H') := fun b o e => by
  obtain ⟨h, n, t⟩ := of_cut e
  exact cut_of (s b o h) n t
theorem cut_ext {a : Addr} {H H' : Hp} (s : LamX.ExtN H H') : Same (cut a H) (cut a H') := fun b o e => by
  obtain ⟨h, n, t⟩ := of_cut e
  exact cut_of (s b o h (fun ps z => by rw [z] at t; cases t)) n t
theorem cut_new {a c x : Addr} {n : Nat} {H : Hp} {o : HO} (hH : HandAt H a c n) (hx : H x = none) (t : isTbl o = false) : cut a (L2.upd H x o) x = some o := cut_of upd_same (hH.ne hx) t
theorem SqT.cut {K : PySem.W.Frag} {a q : Addr} {H : Hp} {us xs : List V} (hA : H a = some (.lst us)) (h : SqT K H q xs) : SqT K (W29.cut a H) q xs := by
  rcases h with h | h
  · left
    rcases h with h | ⟨o, h⟩
    · exact .inl (cut_of h (fun z => by rw [z, hA] at h; cases h) rfl)
    · exact .inr ⟨o, cut_of h (fun z => by rw [z, hA] at h; cases h) rfl⟩
  · exact .inr h
theorem WordAt.cut {K : PySem.W.Frag} {C a c p : Addr} {n : Nat} {H : Hp} {ns : List Int} (hH : HandAt H a c n) (h : WordAt K C H p ns) : WordAt K C (W29.cut a H) p ns := by
  obtain ⟨cs, i, r, hA, _⟩ := hH
  obtain ⟨dx, tl, tk, ks, h1, h2, h3, h4⟩ := h
  exact ⟨dx, tl, tk, ks, cut_of h1 (fun z => by rw [z, hA] at h1; cases h1) rfl, SqT.cut hA h2, SqT.cut hA h3, h4⟩
/-! ### lists that are no pairs of Words -/
structure TxP (K : PySem.W.Frag) (C : Addr) : Prop where
  nN : PySem.W.kitOne K (.type "NoneType") (.ref C) = some false
  nI : PySem.W.kitOne K (.type "int") (.ref C) = some false
  nB : PySem.W.kitOne K (.type "bool") (.ref C) = some false
  nL : PySem.W.kitOne K (.type "list") (.ref C) = some false
  wL : PySem.W.kitAny K (.ref C) [.type "list", .type "tuple"] = some false
section
variable {K : PySem.W.Frag} {C : Addr} {H : Hp} {x bad : V} {q : Addr} {ys : List V}
theorem notSq_typ {t : String} (h : Typ H x t) (e : (t == "list" || t == "tuple") = false) : NotSq K C H x := ⟨_, .typ h, by rw [h.kSeq, e]⟩
theorem notSq_word {p : Addr} {ns : List Int} (X : TxP K C) (h : WordAt K C H p ns) : NotSq K C H (.ref p) := ⟨_, .word h, X.wL⟩
theorem isW_word {p : Addr} {ns : List Int} (h : WordAt K C H p ns) : IsW K C H (.ref p) true := ⟨_, .word h, kit_self C⟩
theorem isW_typ {t : String} (h : Typ H x t) (e : PySem.W.kitOne K (.type t) (.ref C) = some false) : IsW K C H x false := ⟨_, .typ h, e⟩
theorem isP_not (h : NotSq K C H x) : IsP K C H x false := .inl ⟨h, rfl⟩
theorem isR_not (h : NotSq K C H x) : IsR K C H x false := .inl ⟨h, rfl⟩
theorem all_bad (hb : bad ∈ ys) : (ys.all fun y => !decide (y = bad)) = false := by
  rw [List.all_eq_false]
  exact ⟨bad, hb, by simp⟩
theorem isP_bad (hS : SqE K H q ys) (hl : ys.length ≤ 1000) (hb : bad ∈ ys) (hB : IsW K C H bad false) (ha : ∀ y ∈ ys, y = bad ∨ IsW K C H y true) : IsP K C H (.ref q) false := by
  refine .inr ⟨q, ys, fun y => !decide (y = bad), rfl, hS, hl, fun y hy => ?_, by rw [all_bad hb, Bool.and_false]⟩
  by_cases e : y = bad
  · show IsW K C H y (!decide (y = bad))
    rw [e, decide_eq_true rfl]
    exact hB
  · show IsW K C H y (!decide (y = bad))
    rw [decide_eq_false e]
    exact (ha y hy).resolve_left e
theorem isP_len (hS : SqE K H q ys) (hl : ys.length ≤ 1000) (h2 : ys.length ≠ 2) (ha : ∀ y ∈ ys, IsW K C H y true) : IsP K C H (.ref q) false :=
  .inr ⟨q, ys, fun _ => true, rfl, hS, hl, ha, by rw [decide_eq_false h2, Bool.false_and]⟩
theorem isP_ok {x y : V} (hS : SqE K H q [x, y]) (h1 : IsW K C H x true) (h2 : IsW K C H y true) : IsP K C H (.ref q) true :=
  .inr ⟨q, _, fun _ => true, rfl, hS, by show 2 ≤ 1000; decide, fun z hz => by
    simp only [List.mem_cons, List.mem_nil_iff, or_false] at hz
    rcases hz with rfl | rfl
    · exact h1
    · exact h2, by simp⟩
theorem isR_bad (hS : SqE K H q ys) (hl : ys.length ≤ 1000) (hb : bad ∈ ys) (hB : IsP K C H bad false) (ha : ∀ y ∈ ys, y = bad ∨ IsP K C H y true) : IsR K C H (.ref q) false := by
  refine .inr ⟨q, ys, fun y => !decide (y = bad), rfl, hS, hl, fun y hy => ?_, by rw [all_bad hb, Bool.and_false]⟩
  by_cases e : y = bad
  · show IsP K C H y (!decide (y = bad))
    rw [e, decide_eq_true rfl]
    exact hB
  · show IsP K C H y (!decide (y = bad))
    rw [decide_eq_false e]
    exact (ha y hy).resolve_left e
theorem isR_one (hS : SqE K H q [bad]) (hB : IsP K C H bad false) : IsR K C H (.ref q) false :=
  isR_bad hS (by show 1 ≤ 1000; decide) (by simp) hB fun y hy => .inl (by simpa using hy)
theorem isR_len (hS : SqE K H q ys) (hl : ys.length ≤ 1000) (h2 : 12 < ys.length) (ha : ∀ y ∈ ys, IsP K C H y true) : IsR K C H (.ref q) false :=
  .inr ⟨q, ys, fun _ => true, rfl, hS, hl, ha, by rw [decide_eq_false (by omega), Bool.false_and]⟩
theorem rep_mem {n : Nat} {v y : V} (h : y ∈ (List.replicate n [v]).flatten) : y = v := by
  obtain ⟨l, hl, hy⟩ := List.mem_flatten.mp h
  rw [(List.mem_replicate.mp hl).2] at hy
  simpa using hy
theorem rep_flen {n : Nat} {v : V} : (List.replicate n [v]).flatten.length = n := by
  induction n with
  | zero => rfl
  | succ n ih => rw [List.replicate_succ, List.flatten_cons, List.length_append, ih]; show 1 + n = n + 1; omega
end
/-! ### readings -/
section
variable {K : PySem.W.Frag} {C CB CT : Addr} {σ : L2.St} {H : Hp} {Q : VK} {T : List (Addr × Str)} {ta te : TE} {sp : Sp} {E : XK} {A B Cc : TS} {D : Ends} {b1 b2 : L2.St → Hp → Prop} {rt : VK} {gg : TG}
theorem lam_one (tT : LamX.Tabs T H) (h : ∀ H1, LamX.ExtN H H1 → LamX.Tabs T H1 → ta σ H1 fun x H2 => spProd K C CB CT [x] H2 (fun _ H' => Q .non H') (EH CB CT Q)) :
    LamX.tLam T (THeard CB CT) (fun E => tCall (spProd K C CB CT) [] E (tCons ta tNil)) σ H Q := ⟨tT, fun H1 x1 t1 => h H1 x1 t1⟩
theorem ifn_lc {wi : TI} {g : TG} {tt : TT} {vs : List Nat} (h : wi σ H fun J H1 => tLc (fun _ H R => R J H) g tt te vs σ H1 fun x H2 => sp [x] H2 (fun v H3 => ∃ c, v = .bl c ∧ if (!c) = true then A D σ H3 else B D σ H3) E) :
    tIfS (tNot (tB (tCall sp [] E (tCons (tLc wi g tt te vs) tNil)))) A B D σ H := h
theorem at_set {v : V} {i : Nat} {f : L2.St → Hp → Prop} (h : f (σ.set i (some v)) H) : gName i v σ H f := h
/-- an error "pairs" is heard -/
theorem hear_bad {x : V} {H2 : Hp} (hR : IsR K C H2 x false) (k : ∀ H3 t, Same H2 H3 → H3 t = some (.tup [.str "word", .str "pairs"]) → Q (.ref t) H3) : spProd K C CB CT [x] H2 (fun _ H' => Q .non H') (EH CB CT Q) := by
  refine ⟨x, rfl, .inl ⟨hR, fun H1 s1 d hd => ⟨d, rfl, .inl ⟨rfl, .str "pairs", upd_same, fun t ht => ?_⟩⟩⟩⟩
  exact k _ t (s1.trans ((same_upd hd).trans (same_upd ht))) upd_same
end
end W29
set_option Elab.async false
set_option linter.all false
set_option maxRecDepth 100000
set_option maxHeartbeats 1000000
namespace W29
open PySem L2 PySem.Spec PyProof.Rows WR
abbrev sLaw : Stmt := top 52
abbrev nLaw : List Str := ["_law_script", "_law_turn", "_law_pairs_here", "_law_by", "_law_one", "_law_spot", "_law_heard_here", "_law_mixed", "_law_odd", "_law_pen_here", "_law_other"]
abbrev qLaw : Str := ("law" : Str) ++ ".<locals>." ++ "<lambda>"
def spLaw (K : PySem.W.Frag) (T : List (Addr × Str)) : Sp := fun vs H Q _ => ∃ (a : Addr) (ns : List Int), vs = [.ref a] ∧ SqL K H a (ns.map V.int) ∧ ns.length ≤ 63 ∧ LamX.Tabs T H ∧ ∀ H', Q (.bl true) H'
structure CalsW (P : Program) (w : World) (K : PySem.W.Frag) (mg : Str → Option Value) (base : Heap) (T : List (Addr × Str)) : Prop where
  pen : Cal P w K mg base "_law_pen" 1 ["_law_script"] (spHand K)
  draw : Cal P w K mg base "_law_draw" 1 ["_law_pen_here", "_law_many"] spTake
  pick : Cal P w K mg base "_law_pick" 2 ["_law_pen_here", "_law_some"] spPick
  pairs : Cal P w K mg base "_law_pairs" 3 ["_law_pen_here", "_law_many", "_law_most", "_law_kinds"] spPairsL
  shift : Cal P w K mg base "_law_shifted" 1 ["_law_word_here", "_law_by"] spShift
  told : Cal P w K mg base "_law_told_right" 8 ["_law_pairs_here"] spTold
  long : Cal P w K mg base "_law_long_right" 10 ["_law_pen_here"] (spLong T)
theorem lts_shift {b : Int} {ns : List Int} : Lts (ns.map (shI b)) := fun x hx => by
  obtain ⟨y, _, rfl⟩ := List.mem_map.mp hx
  exact shI_ok
theorem ok_shp {b : Int} {p : Pr} (h : okPr p) : okPr (p.1.map (shI b), p.2.map (shI b)) := ⟨by rw [List.length_map]; exact h.1, by rw [List.length_map]; exact h.2.1, lts_shift, lts_shift⟩
section
variable {P : Program} {w : World} {K : PySem.W.Frag} {mg : Str → Option Value} {base : Heap}
theorem scLaw : FnScope nLaw ["_law_script"] (defScope sLaw) := ⟨rfl, rfl, rfl, by decide +kernel, rfl, by decide +kernel, by decide +kernel⟩
theorem ok_law {f cd P2 g C CB CT : Addr} {fd : FuncData} {TT : List (Addr × Str)} (F : FunC K "law" sLaw f cd fd) (T : TxW K mg C) (TN : TxN mg) (XP : TxP K C) (A_ : AllP P w K mg base C CB CT) (N : CalsW P w K mg base TT)
    (EB : ErrC P w K mg base CB "BadWord" ["self", "part"] (spI1 CB)) (ET : ErrC P w K mg base CT "TooMany" ["self", "what", "most"] (spI2 CT)) (Z : Two K mg CB CT) (G : HearK K mg g) (TB : LamX.TabB base mg cd P2) (hT : (P2, qLaw) ∈ TT) (hu : ∀ p ∈ TT, p.1 = P2 → p.2 = qLaw) :
    FnOk P w K mg base CX0 11 f fd ["_law_script"] (spLaw K TT) := by
  refine F.ok scLaw (fun vs H Q E h => ?_) (fun A outer s H vs Q E hr h => ?_)
  · obtain ⟨a, ns, rfl, _⟩ := h
    rfl
  · obtain ⟨a, ns, rfl, hS, hlen, tT, k⟩ := h
    obtain ⟨oc, od, kV, doc, pm, cdv, ct, an, osl, lk, hcd⟩ := G.ex
    have bG : L2.Binds K (PySem.W.fnOf "_law_heard" "_law_heard" (defArgs sHeard) (defBody sHeard) (defScope sHeard) .none kV doc pm an cdv ct) ["_law_ask"] [] := (fun_mk (st := sHeard) lk hcd G.kp).binds (ps := ["_law_ask"]) fun _ _ _ _ _ _ us hl => match us, hl with | [_], _ => rfl
    have hr9 : Room 9 _ := hr.mono (by decide)
    refine ⟨_, pss_cons (ps_set (i := 9) scLaw.nd rfl (Or.inr rfl) (pe_cal N.pen hr (by decide) (by rfl) (pa_cons (pv 0) pa_nil)))
      (pss_cons (ps_for PassesOwn.never rfl (pi_range1 (by rfl) TN.range (pa_cons pe_int pa_nil)) (pg_name (i := 1) scLaw.nd rfl (Or.inl rfl))
        (pss_cons (ps_set (i := 2) scLaw.nd rfl (Or.inl rfl) (pe_cal N.pairs hr (by decide) (by rfl) (pa_cons (pv 9) (pa_cons (pe_cal N.pick hr (by decide) (by rfl) (pa_cons (pv 9) (pa_cons (pe_lst (pa_cons pe_int (pa_cons pe_int (pa_cons pe_int (pa_cons pe_int (pa_cons pe_int (pa_cons pe_int (pa_cons pe_int pa_nil)))))))) pa_nil))) (pa_cons (pe_cal N.pick hr (by decide) (by rfl) (pa_cons (pv 9) (pa_cons (pe_lst (pa_cons pe_int (pa_cons pe_int (pa_cons pe_int (pa_cons pe_int pa_nil))))) pa_nil))) (pa_cons (pe_op op_add pe_int (pe_cal N.draw hr (by decide) (by rfl) (pa_cons (pv 9) (pa_cons pe_int pa_nil)))) pa_nil))))))
        (pss_cons (ps_set (i := 3) scLaw.nd rfl (Or.inr rfl) (pe_cal N.draw hr (by decide) (by rfl) (pa_cons (pv 9) (pa_cons pe_int pa_nil))))
        (pss_one (ps_if (pt_not (pt_val (pe_cal N.told hr (by decide) (by rfl) (pa_cons (pe_lc (own := [("_law_one", 4), ("_law_other", 10)]) (g := gTup K 2 (gCons (gName 4) (gCons (gName 10) gNil))) (tt := tYes) rfl scLaw.nd (pi_list (pv 2))
            (blkOk_by (N := nLaw) (sc := defScope sLaw) (by decide +kernel)) (fun _ _ _ _ _ => pg_tup (n := 2) rfl (pgs_cons (pg_name (i := 4) scLaw.nd rfl (Or.inl rfl)) (pgs_cons (pg_name (i := 10) scLaw.nd rfl (Or.inl rfl)) pgs_nil))) (fun _ _ _ _ _ => pts_nil)
            (fun _ _ _ _ _ => pe_tup (pa_cons (pe_cal N.shift hr (by decide) (by rfl) (pa_cons (pv 4) (pa_cons (pv 3) pa_nil))) (pa_cons (pe_cal N.shift hr (by decide) (by rfl) (pa_cons (pv 10) (pa_cons (pv 3) pa_nil))) pa_nil)))) pa_nil)))) (pss_one (ps_ret pe_bl)) pss_nil)))))
      (pss_cons (ps_set (i := 4) scLaw.nd rfl (Or.inl rfl) (pe_word A_.mkw T hr (by decide) (by rfl) (pa_cons (pe_lst (pa_cons pe_int pa_nil)) pa_nil)))
      (pss_cons (ps_set (i := 8) scLaw.nd rfl (Or.inr rfl) (pe_lst (pa_cons pe_non (pa_cons pe_int (pa_cons (pv 4) (pa_cons pe_str (pa_cons pe_dnewK (pa_cons (pe_lst (pa_cons (pv 4) pa_nil)) (pa_cons (pe_lst (pa_cons (pe_tup (pa_cons (pv 4) pa_nil)) pa_nil)) (pa_cons (pe_lst (pa_cons (pe_tup (pa_cons (pv 4) (pa_cons (pv 4) (pa_cons (pv 4) pa_nil)))) pa_nil)) (pa_cons (pe_lst (pa_cons (pe_tup (pa_cons (pv 4) (pa_cons (pe_lst (pa_cons pe_int pa_nil)) pa_nil))) pa_nil)) (pa_cons (pe_lst (pa_cons (pe_tup (pa_cons (pv 4) (pa_cons pe_non pa_nil))) pa_nil)) (pa_cons (pe_lst (pa_cons pe_non pa_nil)) (pa_cons (pe_op op_rep (pe_lst (pa_cons (pe_tup (pa_cons (pv 4) (pa_cons (pv 4) pa_nil))) pa_nil)) pe_int) (pa_cons (pe_lst (pa_cons (pe_tup (pa_cons (pv 4) (pa_cons pe_bl pa_nil))) pa_nil)) pa_nil)))))))))))))))
      (pss_cons (ps_set (i := 5) scLaw.nd rfl (Or.inl rfl) (pe_cal N.draw hr (by decide) (by rfl) (pa_cons (pv 9) (pa_cons pe_int pa_nil))))
      (pss_cons (ps_set (i := 7) scLaw.nd rfl (Or.inr rfl) (pe_op op_cat (pe_op op_cat (pe_op op_rep (pe_lst (pa_cons (pe_tup (pa_cons (pv 4) (pa_cons (pv 4) pa_nil))) pa_nil)) (pv 5)) (pe_lst (pa_cons (pe_cal N.pick hr (by decide) (by rfl) (pa_cons (pv 9) (pa_cons (pe_lst (pa_cons pe_non (pa_cons (pv 4) (pa_cons (pe_tup (pa_cons (pv 4) pa_nil)) (pa_cons (pe_tup (pa_cons (pv 4) (pa_cons pe_int pa_nil))) (pa_cons (pe_lst (pa_cons (pv 4) (pa_cons (pv 4) (pa_cons (pv 4) pa_nil)))) (pa_cons (pe_tup pa_nil) pa_nil))))))) pa_nil))) pa_nil))) (pe_op op_rep (pe_lst (pa_cons (pe_tup (pa_cons (pv 4) (pa_cons (pv 4) pa_nil))) pa_nil)) (pe_op op_sub pe_int (pv 5)))))
      (pss_cons (ps_set (i := 6) scLaw.nd rfl (Or.inl rfl) (pe_lst (pa_cons (LamX.pe_lamcall (T := TT) (k := 7) (t := fun E => tCall (spProd K C CB CT) [] E (tCons (tCall spPick [] E0 (tCons (tVar 9) (tCons (tVar 8) tNil))) tNil)) (by rfl) G.mg G.kp lk hcd bG scHeard (by rfl) (Or.inl rfl) (heard_gives EB ET Z) TB rfl hT hu hr9 (LamX.lamS_by (sc := defScope sLaw) (by decide +kernel)) (by rfl) (fun q cl pm cv ctv => by rfl)
          (fun A outer s H E f c' hr2 => pe_calX A_.prod hr2 (by decide) (passes_call (takes_of rfl rfl rfl rfl) (fun _ _ _ _ h => h)) (by rfl) (pa_cons (pe_cal N.pick hr2 (by decide) (by rfl) (pa_cons (pv 9) (pa_cons (pv 8) pa_nil))) pa_nil))) pa_nil)))
      (pss_cons (ps_expr (pe_bm PySem.F.plainAttrs_list PySem.F.slot_list_append PySem.F.type_list_append mt_append (pv 6) (pa_cons (LamX.pe_lamcall (T := TT) (k := 7) (t := fun E => tCall (spProd K C CB CT) [] E (tCons (tVar 7) tNil)) (by rfl) G.mg G.kp lk hcd bG scHeard (by rfl) (Or.inl rfl) (heard_gives EB ET Z) TB rfl hT hu hr9 (LamX.lamS_by (sc := defScope sLaw) (by decide +kernel)) (by rfl) (fun q cl pm cv ctv => by rfl)
          (fun A outer s H E f c' hr2 => pe_calX A_.prod hr2 (by decide) (passes_call (takes_of rfl rfl rfl rfl) (fun _ _ _ _ h => h)) (by rfl) (pa_cons (pv 7) pa_nil))) pa_nil)))
      (pss_one (ps_ret (pe_and (pe_cmpR (op_eqD hr.units) (pv 6) (pe_op op_rep (pe_lst (pa_cons (pe_tup (pa_cons pe_str (pa_cons pe_str pa_nil))) pa_nil)) pe_int) (nomark _)) (pe_one (pe_cal N.long hr (by decide) (by rfl) (pa_cons (pv 9) pa_nil))))))))))))), ?_⟩
    refine ⟨_, rfl, a, ns, rfl, hS, by omega, fun H1 h c s1 hn cn hH1 => ?_⟩
    have t1 := tT.ext s1
    refine ⟨3, rfl, by decide, by decide, for_range (lo := 0) (n := 3) (fun i σ H' => (∃ v1 v2 v3 : Option V, σ = [some (.ref a), v1, v2, v3, none, none, none, none, none, some (.ref h), none]) ∧ HandAt H' h c (504 * i) ∧ LamX.Tabs TT H') ⟨⟨none, none, none, rfl⟩, hH1, t1⟩ ?_ ?_⟩
    · rintro i σ H2 hi ⟨⟨v1, v2, v3, rfl⟩, hH2, t2⟩
      have small7 : ∀ v ∈ [V.int 1, .int 2, .int 3, .int 0, .int 2, .int 12, .int 5], ∃ j : Nat, v = .int (j : Int) ∧ j ≤ 12 := fun v hv => by
        simp only [List.mem_cons, List.mem_nil_iff, or_false] at hv
        rcases hv with rfl | rfl | rfl | rfl | rfl | rfl | rfl
        · exact ⟨1, rfl, by decide⟩
        · exact ⟨2, rfl, by decide⟩
        · exact ⟨3, rfl, by decide⟩
        · exact ⟨0, rfl, by decide⟩
        · exact ⟨2, rfl, by decide⟩
        · exact ⟨12, rfl, by decide⟩
        · exact ⟨5, rfl, by decide⟩
      have small4 : ∀ v ∈ [V.int 2, .int 4, .int 1, .int 9], ∃ j : Nat, v = .int (j : Int) ∧ j ≤ 9 := fun v hv => by
        simp only [List.mem_cons, List.mem_nil_iff, or_false] at hv
        rcases hv with rfl | rfl | rfl | rfl
        · exact ⟨2, rfl, by decide⟩
        · exact ⟨4, rfl, by decide⟩
        · exact ⟨1, rfl, by decide⟩
        · exact ⟨9, rfl, by decide⟩
      refine ⟨_, rfl, _, rfl, by show 7 ≤ sizeLine; decide, fun l3 hl3 => ?_⟩
      have k3 := hH2.same (same_upd (o := .lst [.int 1, .int 2, .int 3, .int 0, .int 2, .int 12, .int 5]) hl3)
      have u3 := t2.ext (same_upd (o := .lst [.int 1, .int 2, .int 3, .int 0, .int 2, .int 12, .int 5]) hl3)
      refine ⟨h, c, l3, _, _, rfl, k3, by omega, hH2.ne hl3, upd_same, by show 0 < 7; decide, by show 7 ≤ 1000; decide, fun v4 hv4 H4 d4 => ?_⟩
      obtain ⟨j4, rfl, e4⟩ := small7 v4 hv4
      have u4 := tabs_kept k3 d4.2 u3
      refine ⟨_, rfl, by show 4 ≤ sizeLine; decide, fun l5 hl5 => ?_⟩
      have k5 := d4.1.same (same_upd (o := .lst [.int 2, .int 4, .int 1, .int 9]) hl5)
      have u5 := u4.ext (same_upd (o := .lst [.int 2, .int 4, .int 1, .int 9]) hl5)
      refine ⟨h, c, l5, _, _, rfl, k5, by omega, d4.1.ne hl5, upd_same, by show 0 < 4; decide, by show 4 ≤ 1000; decide, fun v6 hv6 H6 d6 => ?_⟩
      obtain ⟨j6, rfl, e6⟩ := small4 v6 hv6
      have u6 := tabs_kept k5 d6.2 u5
      refine ⟨_, rfl, h, c, 3, _, rfl, d6.1, by omega, by decide, by decide, fun H7 q7 q70 q71 hH7 hK7 => ⟨_, _, rfl, rfl, ?_⟩⟩
      have u7 := tabs_kept d6.1 hK7 u6
      obtain ⟨j7, e7⟩ : ∃ j7 : Nat, 1 + q7 = (j7 : Int) := ⟨(1 + q7).toNat, by omega⟩
      refine ⟨h, c, j4, j6, j7, _, congrArg (fun z => [V.ref h, V.int (j4 : Int), V.int (j6 : Int), V.int z]) e7, hH7, e4, e6, by omega, by omega, by omega, fun p8 H8 prs hp8 d8 hP8 hl8 hok8 => ?_⟩
      have u8 := tabs_kept hH7 d8.2 u7
      have p8h := hH7.ne hp8
      refine ⟨_, rfl, h, c, 26, _, rfl, d8.1, by omega, by decide, by decide, fun H9 by_ _ _ hH9 hK9 => ?_⟩
      have u9 := tabs_kept d8.1 hK9 u8
      have hP9 : PRows H9 p8 prs := by
        obtain ⟨ws, g1, g2⟩ := hP8
        exact ⟨ws, hK9 _ _ p8h g1, g2.imp fun v p r => by
          obtain ⟨q, x, y, e, r1, r2, r3⟩ := r
          exact ⟨q, x, y, e, hK9 _ _ (d8.1.tup_ne r1) r1, hK9 _ _ (d8.1.iv_ne r2) r2, hK9 _ _ (d8.1.iv_ne r3) r3⟩⟩
      obtain ⟨ws9, g9, r9⟩ := hP9
      have l9 := r9.length
      refine at_set ?_
      dsimp only
      refine ifn_lc ?_
      refine ⟨_, rfl, p8, rfl, ⟨_, SqL.of g9⟩, ?_⟩
      refine lcM (walk_list (xs := ws9)) (prs.map fun p => (p.1.map (shI by_), p.2.map (shI by_))) PPrN (fun _ _ _ _ _ h s => h.same s) (fun _ _ _ _ _ _ _ h => h.put) (by omega) (by rw [List.length_map]; exact l9) (fun H6 s6 => SqL.of (s6 _ _ g9)) ?_ (fun x σ1 H A B k h => gTup_mono k h) ?_
      · intro i x b hx hb D H10 hD ⟨us, hus⟩ s10 Qy ky
        obtain ⟨p, hp, q, x1, y1, rfl, r1, r2, r3⟩ := r9.at hx
        rw [List.getElem?_map, hp] at hb
        obtain rfl := Option.some.inj hb
        obtain ⟨o1, o2, _⟩ := hok8 p (List.mem_of_getElem? hp)
        refine ⟨q, _, rfl, SqT.of (s10 _ _ r1), rfl, _, _, rfl, _, _, rfl, rfl, ?_⟩
        refine ⟨rfl, ?_⟩
        refine ⟨_, rfl, _, rfl, x1, by_, p.1, rfl, s10 _ _ r2, by omega, fun z1 H11 hz1 s11 g11 => ?_⟩
        refine ⟨_, rfl, _, rfl, y1, by_, p.2, rfl, s11 _ _ (s10 _ _ r3), by omega, fun z2 H12 hz2 s12 g12 => ?_⟩
        refine ⟨by show 2 ≤ sizeLine; decide, fun tq htq => ?_⟩
        have s13 := same_upd (o := .tup [.ref z1, .ref z2]) htq
        have hus11 := s11 _ _ hus
        have hus12 := s12 _ _ hus11
        exact ky (.ref tq) _ ((s11.trans s12).trans s13) ⟨tq, z1, z2, ⟨(fun z => by rw [z, hus12] at htq; cases htq), (fun z => by rw [z, hus] at hz1; cases hz1), (fun z => by rw [z, hus11] at hz2; cases hz2)⟩, rfl, upd_same, s13 _ _ (s12 _ _ g11), s13 _ _ g12⟩
      intro D H14 ws14 hD s14 h14 r14
      refine ⟨D, _, rfl, ⟨ws14, h14, r14.imp fun _ _ r => r.to⟩, by rw [List.length_map]; exact hl8, fun q hq => ?_, fun H15 s15 => ⟨_, rfl, iteF ?_⟩⟩
      · obtain ⟨p, hp, rfl⟩ := List.mem_map.mp hq
        exact ok_shp (hok8 p hp)
      · have s1415 := s14.trans s15
        exact ⟨⟨_, _, _, rfl⟩, (hH9.same s1415).mono (by omega), u9.ext s1415⟩
    rintro σ H2 ⟨⟨v1, v2, v3, rfl⟩, hH2, t2⟩
    -- a word of one letter
    refine ⟨by show 1 ≤ sizeLine; decide, fun l3 hl3 x dx nx ndx _ => make_at (ms := [1]) nx ndx (.inl (SqL.of upd_same)) (by decide) (fun z hz => by simp at hz; subst hz; decide) fun H4 s4 W4 => ?_⟩
    have s24 := (same_upd (o := .lst [.int 1]) hl3).trans s4
    have hG0 := hH2.same s24
    have u0 := t2.ext s24
    have W0 := W4.cut hG0
    try dsimp only
    refine at_set ?_
    try dsimp only
    refine set_read ?_
    refine ⟨_, rfl, fun d1 hd1 => ?_⟩
    have sG1 := same_upd (o := .dK []) hd1
    have gd1 := cut_new (o := .dK []) hG0 hd1 rfl
    have hG1 := hG0.same sG1
    obtain ⟨G1, eG1⟩ : ∃ G1, G1 = L2.upd H4 d1 (.dK []) := ⟨_, rfl⟩
    rw [← eG1] at sG1 gd1 hG1 ⊢
    refine ⟨_, rfl, by show 1 ≤ sizeLine; decide, fun l1 hl1 => ?_⟩
    have sG2 := same_upd (o := .lst [.ref x]) hl1
    have gl1 := cut_new (o := .lst [.ref x]) hG1 hl1 rfl
    have hG2 := hG1.same sG2
    obtain ⟨G2, eG2⟩ : ∃ G2, G2 = L2.upd G1 l1 (.lst [.ref x]) := ⟨_, rfl⟩
    rw [← eG2] at sG2 gl1 hG2 ⊢
    refine ⟨_, rfl, by show 1 ≤ sizeLine; decide, fun t1 ht1 => ?_⟩
    have sG3 := same_upd (o := .tup [.ref x]) ht1
    have gt1 := cut_new (o := .tup [.ref x]) hG2 ht1 rfl
    have hG3 := hG2.same sG3
    obtain ⟨G3, eG3⟩ : ∃ G3, G3 = L2.upd G2 t1 (.tup [.ref x]) := ⟨_, rfl⟩
    rw [← eG3] at sG3 gt1 hG3 ⊢
    refine ⟨by show 1 ≤ sizeLine; decide, fun l2 hl2 => ?_⟩
    have sG4 := same_upd (o := .lst [.ref t1]) hl2
    have gl2 := cut_new (o := .lst [.ref t1]) hG3 hl2 rfl
    have hG4 := hG3.same sG4
    obtain ⟨G4, eG4⟩ : ∃ G4, G4 = L2.upd G3 l2 (.lst [.ref t1]) := ⟨_, rfl⟩
    rw [← eG4] at sG4 gl2 hG4 ⊢
    refine ⟨_, rfl, _, rfl, _, rfl, by show 3 ≤ sizeLine; decide, fun t2 ht2 => ?_⟩
    have sG5 := same_upd (o := .tup [.ref x, .ref x, .ref x]) ht2
    have gt2 := cut_new (o := .tup [.ref x, .ref x, .ref x]) hG4 ht2 rfl
    have hG5 := hG4.same sG5
    obtain ⟨G5, eG5⟩ : ∃ G5, G5 = L2.upd G4 t2 (.tup [.ref x, .ref x, .ref x]) := ⟨_, rfl⟩
    rw [← eG5] at sG5 gt2 hG5 ⊢
    refine ⟨by show 1 ≤ sizeLine; decide, fun l3 hl3 => ?_⟩
    have sG6 := same_upd (o := .lst [.ref t2]) hl3
    have gl3 := cut_new (o := .lst [.ref t2]) hG5 hl3 rfl
    have hG6 := hG5.same sG6
    obtain ⟨G6, eG6⟩ : ∃ G6, G6 = L2.upd G5 l3 (.lst [.ref t2]) := ⟨_, rfl⟩
    rw [← eG6] at sG6 gl3 hG6 ⊢
    refine ⟨_, rfl, by show 1 ≤ sizeLine; decide, fun i4 hi4 => ?_⟩
    have sG7 := same_upd (o := .lst [.int 1]) hi4
    have gi4 := cut_new (o := .lst [.int 1]) hG6 hi4 rfl
    have hG7 := hG6.same sG7
    obtain ⟨G7, eG7⟩ : ∃ G7, G7 = L2.upd G6 i4 (.lst [.int 1]) := ⟨_, rfl⟩
    rw [← eG7] at sG7 gi4 hG7 ⊢
    refine ⟨by show 2 ≤ sizeLine; decide, fun t3 ht3 => ?_⟩
    have sG8 := same_upd (o := .tup [.ref x, .ref i4]) ht3
    have gt3 := cut_new (o := .tup [.ref x, .ref i4]) hG7 ht3 rfl
    have hG8 := hG7.same sG8
    obtain ⟨G8, eG8⟩ : ∃ G8, G8 = L2.upd G7 t3 (.tup [.ref x, .ref i4]) := ⟨_, rfl⟩
    rw [← eG8] at sG8 gt3 hG8 ⊢
    refine ⟨by show 1 ≤ sizeLine; decide, fun l5 hl5 => ?_⟩
    have sG9 := same_upd (o := .lst [.ref t3]) hl5
    have gl5 := cut_new (o := .lst [.ref t3]) hG8 hl5 rfl
    have hG9 := hG8.same sG9
    obtain ⟨G9, eG9⟩ : ∃ G9, G9 = L2.upd G8 l5 (.lst [.ref t3]) := ⟨_, rfl⟩
    rw [← eG9] at sG9 gl5 hG9 ⊢
    refine ⟨_, rfl, by show 2 ≤ sizeLine; decide, fun t4 ht4 => ?_⟩
    have sG10 := same_upd (o := .tup [.ref x, .non]) ht4
    have gt4 := cut_new (o := .tup [.ref x, .non]) hG9 ht4 rfl
    have hG10 := hG9.same sG10
    obtain ⟨G10, eG10⟩ : ∃ G10, G10 = L2.upd G9 t4 (.tup [.ref x, .non]) := ⟨_, rfl⟩
    rw [← eG10] at sG10 gt4 hG10 ⊢
    refine ⟨by show 1 ≤ sizeLine; decide, fun l6 hl6 => ?_⟩
    have sG11 := same_upd (o := .lst [.ref t4]) hl6
    have gl6 := cut_new (o := .lst [.ref t4]) hG10 hl6 rfl
    have hG11 := hG10.same sG11
    obtain ⟨G11, eG11⟩ : ∃ G11, G11 = L2.upd G10 l6 (.lst [.ref t4]) := ⟨_, rfl⟩
    rw [← eG11] at sG11 gl6 hG11 ⊢
    refine ⟨by show 1 ≤ sizeLine; decide, fun l7 hl7 => ?_⟩
    have sG12 := same_upd (o := .lst [.non]) hl7
    have gl7 := cut_new (o := .lst [.non]) hG11 hl7 rfl
    have hG12 := hG11.same sG12
    obtain ⟨G12, eG12⟩ : ∃ G12, G12 = L2.upd G11 l7 (.lst [.non]) := ⟨_, rfl⟩
    rw [← eG12] at sG12 gl7 hG12 ⊢
    refine ⟨_, rfl, _, rfl, by show 2 ≤ sizeLine; decide, fun t5 ht5 => ?_⟩
    have sG13 := same_upd (o := .tup [.ref x, .ref x]) ht5
    have gt5 := cut_new (o := .tup [.ref x, .ref x]) hG12 ht5 rfl
    have hG13 := hG12.same sG13
    obtain ⟨G13, eG13⟩ : ∃ G13, G13 = L2.upd G12 t5 (.tup [.ref x, .ref x]) := ⟨_, rfl⟩
    rw [← eG13] at sG13 gt5 hG13 ⊢
    refine ⟨by show 1 ≤ sizeLine; decide, fun l8 hl8 => ?_⟩
    have sG14 := same_upd (o := .lst [.ref t5]) hl8
    have gl8 := cut_new (o := .lst [.ref t5]) hG13 hl8 rfl
    have hG14 := hG13.same sG14
    obtain ⟨G14, eG14⟩ : ∃ G14, G14 = L2.upd G13 l8 (.lst [.ref t5]) := ⟨_, rfl⟩
    rw [← eG14] at sG14 gl8 hG14 ⊢
    refine ⟨l8, 13, _, rfl, rfl, (of_cut gl8).1, by decide, by decide, Evl.sz_of (by show 1 * 13 ≤ _; decide), fun l9 hl9 => ?_⟩
    have sG15 := same_upd (o := .lst (List.replicate (13 : Int).toNat [V.ref t5]).flatten) hl9
    have gl9 := cut_new (o := .lst (List.replicate (13 : Int).toNat [V.ref t5]).flatten) hG14 hl9 rfl
    have hG15 := hG14.same sG15
    obtain ⟨G15, eG15⟩ : ∃ G15, G15 = L2.upd G14 l9 (.lst (List.replicate (13 : Int).toNat [V.ref t5]).flatten) := ⟨_, rfl⟩
    rw [← eG15] at sG15 gl9 hG15 ⊢
    refine ⟨_, rfl, by show 2 ≤ sizeLine; decide, fun t6 ht6 => ?_⟩
    have sG16 := same_upd (o := .tup [.ref x, .bl true]) ht6
    have gt6 := cut_new (o := .tup [.ref x, .bl true]) hG15 ht6 rfl
    have hG16 := hG15.same sG16
    obtain ⟨G16, eG16⟩ : ∃ G16, G16 = L2.upd G15 t6 (.tup [.ref x, .bl true]) := ⟨_, rfl⟩
    rw [← eG16] at sG16 gt6 hG16 ⊢
    refine ⟨by show 1 ≤ sizeLine; decide, fun l10 hl10 => ?_⟩
    have sG17 := same_upd (o := .lst [.ref t6]) hl10
    have gl10 := cut_new (o := .lst [.ref t6]) hG16 hl10 rfl
    have hG17 := hG16.same sG17
    obtain ⟨G17, eG17⟩ : ∃ G17, G17 = L2.upd G16 l10 (.lst [.ref t6]) := ⟨_, rfl⟩
    rw [← eG17] at sG17 gl10 hG17 ⊢
    refine ⟨by show 13 ≤ sizeLine; decide, fun O hO => ?_⟩
    have sG18 := same_upd (o := .lst [.non, .int 5, .ref x, .str "a b", .ref d1, .ref l1, .ref l2, .ref l3, .ref l5, .ref l6, .ref l7, .ref l9, .ref l10]) hO
    have gO := cut_new (o := .lst [.non, .int 5, .ref x, .str "a b", .ref d1, .ref l1, .ref l2, .ref l3, .ref l5, .ref l6, .ref l7, .ref l9, .ref l10]) hG17 hO rfl
    have hG18 := hG17.same sG18
    obtain ⟨G18, eG18⟩ : ∃ G18, G18 = L2.upd G17 O (.lst [.non, .int 5, .ref x, .str "a b", .ref d1, .ref l1, .ref l2, .ref l3, .ref l5, .ref l6, .ref l7, .ref l9, .ref l10]) := ⟨_, rfl⟩
    rw [← eG18] at sG18 gO hG18 ⊢
    have SG18 : Same G18 G18 := Same.refl _
    have SG17 : Same G17 G18 := sG18.trans SG18
    have SG16 : Same G16 G18 := sG17.trans SG17
    have SG15 : Same G15 G18 := sG16.trans SG16
    have SG14 : Same G14 G18 := sG15.trans SG15
    have SG13 : Same G13 G18 := sG14.trans SG14
    have SG12 : Same G12 G18 := sG13.trans SG13
    have SG11 : Same G11 G18 := sG12.trans SG12
    have SG10 : Same G10 G18 := sG11.trans SG11
    have SG9 : Same G9 G18 := sG10.trans SG10
    have SG8 : Same G8 G18 := sG9.trans SG9
    have SG7 : Same G7 G18 := sG8.trans SG8
    have SG6 : Same G6 G18 := sG7.trans SG7
    have SG5 : Same G5 G18 := sG6.trans SG6
    have SG4 : Same G4 G18 := sG5.trans SG5
    have SG3 : Same G3 G18 := sG4.trans SG4
    have SG2 : Same G2 G18 := sG3.trans SG3
    have SG1 : Same G1 G18 := sG2.trans SG2
    have SG0 : Same H4 G18 := sG1.trans SG1
    have fd1 := cut_same (a := h) SG1 _ _ gd1
    have fl1 := cut_same (a := h) SG2 _ _ gl1
    have ft1 := cut_same (a := h) SG3 _ _ gt1
    have fl2 := cut_same (a := h) SG4 _ _ gl2
    have ft2 := cut_same (a := h) SG5 _ _ gt2
    have fl3 := cut_same (a := h) SG6 _ _ gl3
    have fi4 := cut_same (a := h) SG7 _ _ gi4
    have ft3 := cut_same (a := h) SG8 _ _ gt3
    have fl5 := cut_same (a := h) SG9 _ _ gl5
    have ft4 := cut_same (a := h) SG10 _ _ gt4
    have fl6 := cut_same (a := h) SG11 _ _ gl6
    have fl7 := cut_same (a := h) SG12 _ _ gl7
    have ft5 := cut_same (a := h) SG13 _ _ gt5
    have fl8 := cut_same (a := h) SG14 _ _ gl8
    have fl9 := cut_same (a := h) SG15 _ _ gl9
    have ft6 := cut_same (a := h) SG16 _ _ gt6
    have fl10 := cut_same (a := h) SG17 _ _ gl10
    have fO := cut_same (a := h) SG18 _ _ gO
    have fW := W0.same (cut_same (a := h) SG0)
    have uz := u0.ext SG0
    have hodd : ∀ v ∈ ([.non, .int 5, .ref x, .str "a b", .ref d1, .ref l1, .ref l2, .ref l3, .ref l5, .ref l6, .ref l7, .ref l9, .ref l10] : List V), IsR K C (W29.cut h G18) v false := fun v hv => by
      have wx : IsW K C (W29.cut h G18) (.ref x) true := isW_word fW
      simp only [List.mem_cons, List.mem_nil_iff, or_false] at hv
      rcases hv with rfl | rfl | rfl | rfl | rfl | rfl | rfl | rfl | rfl | rfl | rfl | rfl | rfl
      · exact isR_not (notSq_typ .non rfl)
      · exact isR_not (notSq_typ (.int _) rfl)
      · exact isR_not (notSq_word XP fW)
      · exact isR_not (notSq_typ (.str _) rfl)
      · exact isR_not (notSq_typ (.dct fd1) rfl)
      · exact isR_one (.inl (SqL.of fl1)) (isP_not (notSq_word XP fW))
      · exact isR_one (.inl (SqL.of fl2)) (isP_len (.inr (SqT.of ft1)) (by show 1 ≤ 1000; decide) (by show ¬ (1 = 2); decide) fun y hy => by simp at hy; rw [hy]; exact wx)
      · exact isR_one (.inl (SqL.of fl3)) (isP_len (.inr (SqT.of ft2)) (by show 3 ≤ 1000; decide) (by show ¬ (3 = 2); decide) fun y hy => by simp at hy; rw [hy]; exact wx)
      · exact isR_one (.inl (SqL.of fl5)) (isP_bad (bad := .ref i4) (.inr (SqT.of ft3)) (by show 2 ≤ 1000; decide) (by simp) (isW_typ (.lst fi4) XP.nL) fun y hy => by
          simp only [List.mem_cons, List.mem_nil_iff, or_false] at hy
          rcases hy with rfl | rfl
          · exact .inr wx
          · exact .inl rfl)
      · exact isR_one (.inl (SqL.of fl6)) (isP_bad (bad := .non) (.inr (SqT.of ft4)) (by show 2 ≤ 1000; decide) (by simp) (isW_typ .non XP.nN) fun y hy => by
          simp only [List.mem_cons, List.mem_nil_iff, or_false] at hy
          rcases hy with rfl | rfl
          · exact .inr wx
          · exact .inl rfl)
      · exact isR_one (.inl (SqL.of fl7)) (isP_not (notSq_typ .non rfl))
      · exact isR_len (.inl (SqL.of fl9)) (by rw [rep_flen]; decide) (by rw [rep_flen]; decide) fun y hy => by
          rw [rep_mem hy]
          exact isP_ok (.inr (SqT.of ft5)) wx wx
      · exact isR_one (.inl (SqL.of fl10)) (isP_bad (bad := .bl true) (.inr (SqT.of ft6)) (by show 2 ≤ 1000; decide) (by simp) (isW_typ (.bl _) XP.nB) fun y hy => by
          simp only [List.mem_cons, List.mem_nil_iff, or_false] at hy
          rcases hy with rfl | rfl
          · exact .inr wx
          · exact .inl rfl)
    obtain ⟨Hz, ez⟩ : ∃ Hz, Hz = G18 := ⟨_, rfl⟩
    rw [← ez] at hG18 fO fW uz hodd ⊢
    refine at_set ?_
    try dsimp only
    refine ⟨_, rfl, h, c, 4, _, rfl, hG18, by omega, by decide, by decide, fun Hs spot sp0 sp1 hHs hKs => ?_⟩
    have cs := cut_kept hKs
    have fO2 := cs _ _ fO
    have fW2 := fW.same cs
    have us := tabs_kept hG18 hKs uz
    have hodd2 := fun v hv => (hodd v hv).same cs
    refine at_set ?_
    try dsimp only
    refine set_read ?_
    refine ⟨_, rfl, _, rfl, by show 2 ≤ sizeLine; decide, fun p1 hp1 => ?_⟩
    have sG101 := same_upd (o := .tup [.ref x, .ref x]) hp1
    have gp1 := cut_new (o := .tup [.ref x, .ref x]) hHs hp1 rfl
    have hG101 := hHs.same sG101
    obtain ⟨G101, eG101⟩ : ∃ G101, G101 = L2.upd Hs p1 (.tup [.ref x, .ref x]) := ⟨_, rfl⟩
    rw [← eG101] at sG101 gp1 hG101 ⊢
    refine ⟨by show 1 ≤ sizeLine; decide, fun m1 hm1 => ?_⟩
    have sG102 := same_upd (o := .lst [.ref p1]) hm1
    have gm1 := cut_new (o := .lst [.ref p1]) hG101 hm1 rfl
    have hG102 := hG101.same sG102
    obtain ⟨G102, eG102⟩ : ∃ G102, G102 = L2.upd G101 m1 (.lst [.ref p1]) := ⟨_, rfl⟩
    rw [← eG102] at sG102 gm1 hG102 ⊢
    refine ⟨_, rfl, m1, spot, _, rfl, rfl, (of_cut gm1).1, by omega, by omega, Evl.sz_of (by show 1 * spot.toNat ≤ _; omega), fun r1 hr1 => ?_⟩
    have sG103 := same_upd (o := .lst (List.replicate spot.toNat [V.ref p1]).flatten) hr1
    have gr1 := cut_new (o := .lst (List.replicate spot.toNat [V.ref p1]).flatten) hG102 hr1 rfl
    have hG103 := hG102.same sG103
    obtain ⟨G103, eG103⟩ : ∃ G103, G103 = L2.upd G102 r1 (.lst (List.replicate spot.toNat [V.ref p1]).flatten) := ⟨_, rfl⟩
    rw [← eG103] at sG103 gr1 hG103 ⊢
    refine ⟨_, rfl, _, rfl, _, rfl, by show 1 ≤ sizeLine; decide, fun u1 hu1 => ?_⟩
    have sG104 := same_upd (o := .tup [.ref x]) hu1
    have gu1 := cut_new (o := .tup [.ref x]) hG103 hu1 rfl
    have hG104 := hG103.same sG104
    obtain ⟨G104, eG104⟩ : ∃ G104, G104 = L2.upd G103 u1 (.tup [.ref x]) := ⟨_, rfl⟩
    rw [← eG104] at sG104 gu1 hG104 ⊢
    refine ⟨_, rfl, by show 2 ≤ sizeLine; decide, fun u2 hu2 => ?_⟩
    have sG105 := same_upd (o := .tup [.ref x, .int 5]) hu2
    have gu2 := cut_new (o := .tup [.ref x, .int 5]) hG104 hu2 rfl
    have hG105 := hG104.same sG105
    obtain ⟨G105, eG105⟩ : ∃ G105, G105 = L2.upd G104 u2 (.tup [.ref x, .int 5]) := ⟨_, rfl⟩
    rw [← eG105] at sG105 gu2 hG105 ⊢
    refine ⟨_, rfl, _, rfl, _, rfl, by show 3 ≤ sizeLine; decide, fun u3 hu3 => ?_⟩
    have sG106 := same_upd (o := .lst [.ref x, .ref x, .ref x]) hu3
    have gu3 := cut_new (o := .lst [.ref x, .ref x, .ref x]) hG105 hu3 rfl
    have hG106 := hG105.same sG106
    obtain ⟨G106, eG106⟩ : ∃ G106, G106 = L2.upd G105 u3 (.lst [.ref x, .ref x, .ref x]) := ⟨_, rfl⟩
    rw [← eG106] at sG106 gu3 hG106 ⊢
    refine ⟨by show 0 ≤ sizeLine; decide, fun u4 hu4 => ?_⟩
    have sG107 := same_upd (o := .tup []) hu4
    have gu4 := cut_new (o := .tup []) hG106 hu4 rfl
    have hG107 := hG106.same sG107
    obtain ⟨G107, eG107⟩ : ∃ G107, G107 = L2.upd G106 u4 (.tup []) := ⟨_, rfl⟩
    rw [← eG107] at sG107 gu4 hG107 ⊢
    refine ⟨by show 6 ≤ sizeLine; decide, fun B hB => ?_⟩
    have sG108 := same_upd (o := .lst [.non, .ref x, .ref u1, .ref u2, .ref u3, .ref u4]) hB
    have gB := cut_new (o := .lst [.non, .ref x, .ref u1, .ref u2, .ref u3, .ref u4]) hG107 hB rfl
    have hG108 := hG107.same sG108
    obtain ⟨G108, eG108⟩ : ∃ G108, G108 = L2.upd G107 B (.lst [.non, .ref x, .ref u1, .ref u2, .ref u3, .ref u4]) := ⟨_, rfl⟩
    rw [← eG108] at sG108 gB hG108 ⊢
    have SG108 : Same G108 G108 := Same.refl _
    have SG107 : Same G107 G108 := sG108.trans SG108
    have SG106 : Same G106 G108 := sG107.trans SG107
    have SG105 : Same G105 G108 := sG106.trans SG106
    have SG104 : Same G104 G108 := sG105.trans SG105
    have SG103 : Same G103 G108 := sG104.trans SG104
    have SG102 : Same G102 G108 := sG103.trans SG103
    have SG101 : Same G101 G108 := sG102.trans SG102
    have SG100 : Same Hs G108 := sG101.trans SG101
    have fp1 := cut_same (a := h) SG101 _ _ gp1
    have fm1 := cut_same (a := h) SG102 _ _ gm1
    have fr1 := cut_same (a := h) SG103 _ _ gr1
    have fu1 := cut_same (a := h) SG104 _ _ gu1
    have fu2 := cut_same (a := h) SG105 _ _ gu2
    have fu3 := cut_same (a := h) SG106 _ _ gu3
    have fu4 := cut_same (a := h) SG107 _ _ gu4
    have fB := cut_same (a := h) SG108 _ _ gB
    have fO3 := cut_same (a := h) SG100 _ _ fO2
    have fW3 := fW2.same (cut_same (a := h) SG100)
    have us3 := us.ext SG100
    have hodd3 := fun v hv => (hodd2 v hv).same (cut_same (a := h) SG100)
    have hmix : ∀ v ∈ ([.non, .ref x, .ref u1, .ref u2, .ref u3, .ref u4] : List V), IsP K C (W29.cut h G108) v false := fun v hv => by
      have wx : IsW K C (W29.cut h G108) (.ref x) true := isW_word fW3
      simp only [List.mem_cons, List.mem_nil_iff, or_false] at hv
      rcases hv with rfl | rfl | rfl | rfl | rfl | rfl
      · exact isP_not (notSq_typ .non rfl)
      · exact isP_not (notSq_word XP fW3)
      · exact isP_len (.inr (SqT.of fu1)) (by show 1 ≤ 1000; decide) (by show ¬ (1 = 2); decide) fun y hy => by simp at hy; rw [hy]; exact wx
      · exact isP_bad (bad := .int 5) (.inr (SqT.of fu2)) (by show 2 ≤ 1000; decide) (by simp) (isW_typ (.int _) XP.nI) fun y hy => by
          simp only [List.mem_cons, List.mem_nil_iff, or_false] at hy
          rcases hy with rfl | rfl
          · exact .inr wx
          · exact .inl rfl
      · exact isP_len (.inl (SqL.of fu3)) (by show 3 ≤ 1000; decide) (by show ¬ (3 = 2); decide) fun y hy => by simp at hy; rw [hy]; exact wx
      · exact isP_len (.inr (SqT.of fu4)) (by show 0 ≤ 1000; decide) (by show ¬ (0 = 2); decide) fun y hy => by simp at hy
    obtain ⟨gB1, gB2, _⟩ := of_cut fB
    refine ⟨h, c, B, _, _, rfl, hG108, by omega, gB2, gB1, by show 0 < 6; decide, by show 6 ≤ 1000; decide, fun bad hbad Hq dq => ?_⟩
    have cq := cut_kept dq.2
    have hP := (hmix bad hbad).same cq
    have fr1q := cq _ _ fr1
    have fp1q := cq _ _ fp1
    have fOq := cq _ _ fO3
    have fWq := fW3.same cq
    have uq := tabs_kept hG108 dq.2 us3
    have hoddq := fun v hv => (hodd3 v hv).same cq
    have hHq := dq.1
    refine ⟨by show 1 ≤ sizeLine; decide, fun m2 hm2 => ?_⟩
    have sG201 := same_upd (o := .lst [bad]) hm2
    have gm2 := cut_new (o := .lst [bad]) hHq hm2 rfl
    have hG201 := hHq.same sG201
    obtain ⟨G201, eG201⟩ : ∃ G201, G201 = L2.upd Hq m2 (.lst [bad]) := ⟨_, rfl⟩
    rw [← eG201] at sG201 gm2 hG201 ⊢
    refine ⟨r1, m2, _, _, rfl, rfl, sG201 _ _ (of_cut fr1q).1, (of_cut gm2).1, Evl.sz_of (by rw [rep_flen]; show spot.toNat + 1 ≤ _; omega), fun m3 hm3 => ?_⟩
    have sG202 := same_upd (o := .lst ((List.replicate spot.toNat [V.ref p1]).flatten ++ [bad])) hm3
    have gm3 := cut_new (o := .lst ((List.replicate spot.toNat [V.ref p1]).flatten ++ [bad])) hG201 hm3 rfl
    have hG202 := hG201.same sG202
    obtain ⟨G202, eG202⟩ : ∃ G202, G202 = L2.upd G201 m3 (.lst ((List.replicate spot.toNat [V.ref p1]).flatten ++ [bad])) := ⟨_, rfl⟩
    rw [← eG202] at sG202 gm3 hG202 ⊢
    refine ⟨_, rfl, _, rfl, by show 2 ≤ sizeLine; decide, fun p2 hp2 => ?_⟩
    have sG203 := same_upd (o := .tup [.ref x, .ref x]) hp2
    have gp2 := cut_new (o := .tup [.ref x, .ref x]) hG202 hp2 rfl
    have hG203 := hG202.same sG203
    obtain ⟨G203, eG203⟩ : ∃ G203, G203 = L2.upd G202 p2 (.tup [.ref x, .ref x]) := ⟨_, rfl⟩
    rw [← eG203] at sG203 gp2 hG203 ⊢
    refine ⟨by show 1 ≤ sizeLine; decide, fun m4 hm4 => ?_⟩
    have sG204 := same_upd (o := .lst [.ref p2]) hm4
    have gm4 := cut_new (o := .lst [.ref p2]) hG203 hm4 rfl
    have hG204 := hG203.same sG204
    obtain ⟨G204, eG204⟩ : ∃ G204, G204 = L2.upd G203 m4 (.lst [.ref p2]) := ⟨_, rfl⟩
    rw [← eG204] at sG204 gm4 hG204 ⊢
    refine ⟨_, rfl, _, _, rfl, rfl, m4, 3 - spot, _, rfl, rfl, (of_cut gm4).1, by omega, by omega, Evl.sz_of (by show 1 * (3 - spot).toNat ≤ _; omega), fun r3 hr3 => ?_⟩
    have sG205 := same_upd (o := .lst (List.replicate (3 - spot).toNat [V.ref p2]).flatten) hr3
    have gr3 := cut_new (o := .lst (List.replicate (3 - spot).toNat [V.ref p2]).flatten) hG204 hr3 rfl
    have hG205 := hG204.same sG205
    obtain ⟨G205, eG205⟩ : ∃ G205, G205 = L2.upd G204 r3 (.lst (List.replicate (3 - spot).toNat [V.ref p2]).flatten) := ⟨_, rfl⟩
    rw [← eG205] at sG205 gr3 hG205 ⊢
    refine ⟨m3, r3, _, _, rfl, rfl, ((sG203.trans sG204).trans sG205) _ _ (of_cut gm3).1, (of_cut gr3).1, Evl.sz_of (by rw [List.length_append, rep_flen, rep_flen]; show spot.toNat + 1 + (3 - spot).toNat ≤ _; omega), fun M hM => ?_⟩
    have sG206 := same_upd (o := .lst ((List.replicate spot.toNat [V.ref p1]).flatten ++ [bad] ++ (List.replicate (3 - spot).toNat [V.ref p2]).flatten)) hM
    have gM := cut_new (o := .lst ((List.replicate spot.toNat [V.ref p1]).flatten ++ [bad] ++ (List.replicate (3 - spot).toNat [V.ref p2]).flatten)) hG205 hM rfl
    have hG206 := hG205.same sG206
    obtain ⟨G206, eG206⟩ : ∃ G206, G206 = L2.upd G205 M (.lst ((List.replicate spot.toNat [V.ref p1]).flatten ++ [bad] ++ (List.replicate (3 - spot).toNat [V.ref p2]).flatten)) := ⟨_, rfl⟩
    rw [← eG206] at sG206 gM hG206 ⊢
    have SG206 : Same G206 G206 := Same.refl _
    have SG205 : Same G205 G206 := sG206.trans SG206
    have SG204 : Same G204 G206 := sG205.trans SG205
    have SG203 : Same G203 G206 := sG204.trans SG204
    have SG202 : Same G202 G206 := sG203.trans SG203
    have SG201 : Same G201 G206 := sG202.trans SG202
    have SG200 : Same Hq G206 := sG201.trans SG201
    have fm2 := cut_same (a := h) SG201 _ _ gm2
    have fm3 := cut_same (a := h) SG202 _ _ gm3
    have fp2 := cut_same (a := h) SG203 _ _ gp2
    have fm4 := cut_same (a := h) SG204 _ _ gm4
    have fr3 := cut_same (a := h) SG205 _ _ gr3
    have fM := cut_same (a := h) SG206 _ _ gM
    have C2 := cut_same (a := h) SG200
    have fO4 := C2 _ _ fOq
    have fW4 := fWq.same C2
    have fp14 := C2 _ _ fp1q
    have us4 := uq.ext SG200
    have hodd4 := fun v hv => (hoddq v hv).same C2
    have hP4 := hP.same C2
    have hMix : IsR K C (W29.cut h G206) (.ref M) false := by
      have wx : IsW K C (W29.cut h G206) (.ref x) true := isW_word fW4
      refine isR_bad (bad := bad) (.inl (SqL.of fM)) (by rw [List.length_append, List.length_append, rep_flen, rep_flen]; show spot.toNat + 1 + (3 - spot).toNat ≤ 1000; omega) (by simp) hP4 fun y hy => ?_
      rcases List.mem_append.mp hy with hy | hy
      · rcases List.mem_append.mp hy with hy | hy
        · rw [rep_mem hy]
          exact .inr (isP_ok (.inr (SqT.of fp14)) wx wx)
        · exact .inl (by simpa using hy)
      · rw [rep_mem hy]
        exact .inr (isP_ok (.inr (SqT.of fp2)) wx wx)
    refine at_set ?_
    try dsimp only
    refine lst_set ?_
    refine lam_one us4 fun Ha xa ua => ?_
    have hHa := hG206.ext xa
    have ca := cut_ext (a := h) xa
    have fOa := ca _ _ fO4
    obtain ⟨gO1, gO2, _⟩ := of_cut fOa
    refine ⟨_, rfl, _, rfl, h, c, O, _, _, rfl, hHa, by omega, gO2, gO1, by show 0 < 13; decide, by show 13 ≤ 1000; decide, fun v hv Hb db => ?_⟩
    have cb := ca.trans (cut_kept db.2)
    have ub := tabs_kept hHa db.2 ua
    refine hear_bad (((hodd4 v hv).same cb).same cut_in) fun Hc t sc gt => ?_
    have cc := cb.trans (cut_same (a := h) sc)
    have uc := ub.ext sc
    have hHc := db.1.same sc
    refine ⟨by show 1 ≤ sizeLine; decide, fun l hl => ?_⟩
    have sd := same_upd (o := .lst [.ref t]) hl
    have gd : L2.upd Hc l (.lst [.ref t]) l = some (.lst [.ref t]) := upd_same
    obtain ⟨Hd, ed⟩ : ∃ Hd, Hd = L2.upd Hc l (.lst [.ref t]) := ⟨_, rfl⟩
    rw [← ed] at sd gd ⊢
    have cd_ := cc.trans (cut_same (a := h) sd)
    have ud := uc.ext sd
    have hHd := hHc.same sd
    have gtd := sd _ _ gt
    have lh := hHc.ne hl
    have lc_ := hHc.neC hl
    refine at_set ?_
    try dsimp only
    refine ⟨_, rfl, .inl ⟨rfl, _, SqL.of gd⟩, ?_⟩
    refine lam_one ud fun He xe ue => ⟨_, rfl, ?_⟩
    have ce := cd_.trans (cut_ext (a := h) xe)
    have hHe := hHd.ext xe
    have gde : He l = some (.lst [.ref t]) := xe _ _ gd fun ps z => by cases z
    have gte : He t = some (.tup [.str "word", .str "pairs"]) := xe _ _ gtd fun ps z => by cases z
    refine hear_bad ((hMix.same ce).same cut_in) fun Hf t2 sf gt2 => ?_
    have uf := ue.ext sf
    have hHf := hHe.same sf
    have gdf := sf _ _ gde
    have gtf := sf _ _ gte
    refine ⟨l, _, _, rfl, rfl, gdf, Evl.sz_lt (by show 1 < 100000; decide), ?_⟩
    have tl : t ≠ l := fun z => by rw [z, gdf] at gtf; cases gtf
    have t2l : t2 ≠ l := fun z => by rw [z, gdf] at gt2; cases gt2
    have gl : L2.upd Hf l (.lst ([.ref t] ++ [.ref t2])) l = some (.lst [.ref t, .ref t2]) := upd_same
    have gT1 : L2.upd Hf l (.lst ([.ref t] ++ [.ref t2])) t = some (.tup [.str "word", .str "pairs"]) := by rw [upd_ne tl]; exact gtf
    have gT2 : L2.upd Hf l (.lst ([.ref t] ++ [.ref t2])) t2 = some (.tup [.str "word", .str "pairs"]) := by rw [upd_ne t2l]; exact gt2
    have hHg := hHf.off (o := .lst ([.ref t] ++ [.ref t2])) lh lc_
    have kl : Kept l Hf (L2.upd Hf l (.lst ([.ref t] ++ [.ref t2]))) := Kept.upd
    have ug : LamX.Tabs TT (L2.upd Hf l (.lst ([.ref t] ++ [.ref t2]))) := by
      intro p hp
      obtain ⟨ps, h1, h2, h3⟩ := uf p hp
      have na : ∀ {b : Addr} {o : HO}, Hf b = some o → (∀ xs, o ≠ .lst xs) → b ≠ l := fun e z q => by
        rw [q, gdf] at e
        exact z _ (Option.some.inj e).symm
      refine ⟨ps, kl _ _ (na h1 fun xs q => by cases q) h1, h2, fun pos cv hc => ?_⟩
      obtain ⟨d, e1, e2⟩ := h3 pos cv hc
      exact ⟨d, e1, kl _ _ (na e2 fun xs q => by
        have q2 : HO.ext _ = HO.lst xs := q
        cases q2) e2⟩
    obtain ⟨Hg, eg⟩ : ∃ Hg, Hg = L2.upd Hf l (.lst ([.ref t] ++ [.ref t2])) := ⟨_, rfl⟩
    rw [← eg] at gl gT1 gT2 hHg ug ⊢
    refine ⟨_, rfl, by show 2 ≤ sizeLine; decide, fun t3_ ht3_ => ⟨by show 1 ≤ sizeLine; decide, fun l11 hl11 => ?_⟩⟩
    refine ⟨l11, 2, _, rfl, rfl, upd_same, by decide, by decide, Evl.sz_of (by show 1 * 2 ≤ _; decide), fun l12 hl12 => ?_⟩
    have se1 := same_upd (o := .tup [.str "word", .str "pairs"]) ht3_
    have se2 := same_upd (o := .lst [.ref t3_]) hl11
    have se3 := same_upd (o := .lst (List.replicate (2 : Int).toNat [V.ref t3_]).flatten) hl12
    have se := (se1.trans se2).trans se3
    have g3 := (se2.trans se3) _ _ (upd_same (H := Hg) (a := t3_) (o := .tup [.str "word", .str "pairs"]))
    refine ⟨.list [.tuple [.str "word", .str "pairs"], .tuple [.str "word", .str "pairs"]], .list [.tuple [.str "word", .str "pairs"], .tuple [.str "word", .str "pairs"]],
      .lst (SqL.of (se _ _ gl)) (.cons (.tup (SqT.of (se _ _ gT1)) (.cons (.str _) (.cons (.str _) .nil))) (.cons (.tup (SqT.of (se _ _ gT2)) (.cons (.str _) (.cons (.str _) .nil))) .nil)),
      .lst (xs := [.ref t3_, .ref t3_]) (SqL.of upd_same) (.cons (.tup (SqT.of g3) (.cons (.str _) (.cons (.str _) .nil))) (.cons (.tup (SqT.of g3) (.cons (.str _) (.cons (.str _) .nil))) .nil)), by decide +kernel, by decide +kernel, _, rfl, ?_⟩
    refine iteT' (by decide +kernel) ?_
    refine ⟨_, rfl, h, c, _, rfl, hHg.same se, by omega, ug.ext se, fun H' => k H'⟩
end
end W29
set_option Elab.async false
set_option linter.all false
set_option maxRecDepth 100000
set_option maxHeartbeats 1000000
namespace W29
open PySem L2 PySem.Spec PyProof.Rows WR
/-! ### what the top has written -/
structure FF (K : PySem.W.Frag) (mg : Str → Option Value) (x : Str) (st : Stmt) : Prop where
  ex : ∃ (f : Addr) (oc : Value) (od : Option Addr) (kV doc pm cdv ct : Value) (an : Option Addr) (osl : Array (Option Value)),
    K.lookup f = some ⟨oc, od, .func (PySem.W.fnOf x x (defArgs st) (defBody st) (defScope st) .none kV doc pm an cdv ct), osl⟩ ∧ PySem.W.codeIn K cdv x = true ∧ PySem.W.keepIn K (.ref f) = true ∧ mg x = some (.ref f)
theorem ff_mk {K : PySem.W.Frag} {mg : Str → Option Value} {h : Heap} {x : Str} {st : Stmt} {f : Addr} {oc : Value} {od an : Option Addr} {kV doc pm cdv ct : Value} {osl : Array (Option Value)} (X : K.In h) (G : h.Ns mainGlobals mg)
    (a : PySem.W.nsIn K mainGlobals x = some (some (.ref f))) (l : K.lookup f = some ⟨oc, od, .func (PySem.W.fnOf x x (defArgs st) (defBody st) (defScope st) .none kV doc pm an cdv ct), osl⟩) (c : PySem.W.codeIn K cdv x = true) (k : PySem.W.keepIn K (.ref f) = true) : FF K mg x st :=
  ⟨f, oc, od, kV, doc, pm, cdv, ct, an, osl, l, c, k, PySem.W.mg_of X G a⟩
/-- a def in the class's body, held by the class -/
structure FM (K : PySem.W.Frag) (C : Addr) (m q : Str) (st : Stmt) : Prop where
  ex : ∃ (f : Addr) (oc : Value) (od : Option Addr) (kV doc pm cdv ct : Value) (an : Option Addr) (osl : Array (Option Value)),
    PySem.W.findIn K (.ref C) m = some (some (.ref f)) ∧ PySem.W.isFn K (.ref f) = true ∧
    K.lookup f = some ⟨oc, od, .func (PySem.W.fnOf m q (defArgs st) (defBody st) (defScope st) .none kV doc pm an cdv ct), osl⟩ ∧ PySem.W.codeIn K cdv q = true ∧ PySem.W.keepIn K (.ref f) = true
theorem fm_mk {K : PySem.W.Frag} {C : Addr} {m q : Str} {st : Stmt} {f : Addr} {oc : Value} {od an : Option Addr} {kV doc pm cdv ct : Value} {osl : Array (Option Value)}
    (a : PySem.W.findIn K (.ref C) m = some (some (.ref f))) (i : PySem.W.isFn K (.ref f) = true) (l : K.lookup f = some ⟨oc, od, .func (PySem.W.fnOf m q (defArgs st) (defBody st) (defScope st) .none kV doc pm an cdv ct), osl⟩) (c : PySem.W.codeIn K cdv q = true) (k : PySem.W.keepIn K (.ref f) = true) : FM K C m q st :=
  ⟨f, oc, od, kV, doc, pm, cdv, ct, an, osl, a, i, l, c, k⟩
section
variable {P : Program} {w : World} {K : PySem.W.Frag} {mg : Str → Option Value} {base : Heap} {x m q : Str} {C : Addr} {st : Stmt} {k : Nat} {ps ks : List Str} {sp : Sp}
theorem FF.cal (F : FF K mg x st) (ok : ∀ f fd, Fun K x x st f fd → FnOk P w K mg base CX0 k f fd ps sp)
    (hb : ∀ (kV doc pm : Value) (an : Option Addr) (cdv ct : Value) (us : List Value), us.length = ps.length → bindArgs (PySem.W.fnOf x x (defArgs st) (defBody st) (defScope st) .none kV doc pm an cdv ct) ⟨us, []⟩ = pure (ps.zip us)) : Cal P w K mg base x k ps sp := by
  obtain ⟨f, oc, od, kV, doc, pm, cdv, ct, an, osl, l, c, kp, m⟩ := F.ex
  exact ⟨f, _, ok f _ (fun_mk l c kp), m, kp, (fun_mk l c kp).binds hb⟩
theorem FF.calX (F : FF K mg x st) (ok : ∀ f fd, Fun K x x st f fd → FnOk P w K mg base (L2.CX P w) k f fd ps sp)
    (hb : ∀ (kV doc pm : Value) (an : Option Addr) (cdv ct : Value) (us : List Value), us.length = ps.length → bindArgs (PySem.W.fnOf x x (defArgs st) (defBody st) (defScope st) .none kV doc pm an cdv ct) ⟨us, []⟩ = pure (ps.zip us)) : CalX P w K mg base x k ps sp := by
  obtain ⟨f, oc, od, kV, doc, pm, cdv, ct, an, osl, l, c, kp, m⟩ := F.ex
  exact ⟨f, _, ok f _ (fun_mk l c kp), m, kp, (fun_mk l c kp).binds hb⟩
theorem FF.calKX (F : FF K mg x st) (g : List Value → List Value) (gV : List V → List V) (ok : ∀ f fd, Fun K x x st f fd → FnOk P w K mg base (L2.CX P w) k f fd ps sp)
    (hb : ∀ (kV doc pm : Value) (an : Option Addr) (cdv ct : Value) (ws : List Value), ws.length = ks.length → bindArgs (PySem.W.fnOf x x (defArgs st) (defBody st) (defScope st) .none kV doc pm an cdv ct) ⟨[], ks.zip ws⟩ = pure (ps.zip (g ws)))
    (hr : ∀ {zs : List V} {ws : List Value}, Vals zs ws → Vals (gV zs) (g ws)) : CalKX P w K mg base x k ps ks gV sp := by
  obtain ⟨f, oc, od, kV, doc, pm, cdv, ct, an, osl, l, c, kp, m⟩ := F.ex
  refine ⟨f, _, g, ok f _ (fun_mk l c kp), m, kp, ⟨fun s us ws _ h0 h1 => ?_, fun _ r => hr r⟩⟩
  obtain rfl : us = [] := List.length_eq_zero_iff.mp h0
  exact .of_eq (hb kV doc pm an cdv ct ws h1)
end
structure Names (mg : Str → Option Value) : Prop where
  isinstance : mg "isinstance" = none
  int : mg "int" = none
  bool : mg "bool" = none
  str : mg "str" = none
  list : mg "list" = none
  tuple : mg "tuple" = none
  all : mg "all" = none
  len : mg "len" = none
  abs : mg "abs" = none
  range : mg "range" = none
  sorted : mg "sorted" = none
  kind : ∃ t, mg "MOST_KIND" = some (.int 26 t)
  most : ∃ t, mg "MOST_LETTERS" = some (.int 500 t)
  pairs : ∃ t, mg "MOST_PAIRS" = some (.int 12 t)
structure Defs (K : PySem.W.Frag) (mg : Str → Option Value) (C : Addr) : Prop where
  d_sIsInt : FF K mg "is_integer" sIsInt
  d_sWithin : FF K mg "is_within" sWithin
  d_sLetter : FF K mg "is_letter" sLetter
  d_sListed : FF K mg "is_listed" sListed
  d_sCon : FF K mg "contrary_letters" sCon
  d_sShr : FF K mg "shortened_letters" sShr
  d_sRnd : FF K mg "rounded_letters" sRnd
  d_sExch : FF K mg "exchange_letters" sExch
  d_sKinds : FF K mg "kinds_of" sKinds
  d_sFew : FF K mg "need_few_letters" sFew
  d_sWordOf : FF K mg "word_of" sWordOf
  d_sIsPair : FF K mg "is_word_pair" sIsPair
  d_sArePairs : FF K mg "are_word_pairs" sArePairs
  d_sNeedPairs : FF K mg "need_word_pairs" sNeedPairs
  d_sProdL : FF K mg "product_letters" sProdL
  d_sProd : FF K mg "product_of" sProd
  d_sJar : FF K mg "_law_pen" sJar
  d_sDraw : FF K mg "_law_draw" sDraw
  d_sPick : FF K mg "_law_pick" sPick
  d_sConL : FF K mg "_law_contrary" sConL
  d_sShL : FF K mg "_law_short" sShL
  d_sExL : FF K mg "_law_exchange" sExL
  d_sPrL : FF K mg "_law_product" sPrL
  d_sWordL : FF K mg "_law_word" sWordL
  d_sPairsL : FF K mg "_law_pairs" sPairsL
  d_sMade : FF K mg "_law_made" sMade
  d_sHeard : FF K mg "_law_heard" sHeard
  d_sShift : FF K mg "_law_shifted" sShift
  d_sTold : FF K mg "_law_told_right" sTold
  m_sInit : FM K C "__init__" "Word.__init__" sInit
  m_sEq : FM K C "__eq__" "Word.__eq__" sEq
/-- what is to be known of the class -/
structure ClsW (K : PySem.W.Frag) (mg : Str → Option Value) (C : Addr) : Prop where
  cl : Cls K C
  nL : NoAttr K C "letters"
  nN : NoAttr K C "length"
  nK : NoAttr K C "kinds"
  nS : NoAttr K C "is_short"
  nR : NoAttr K C "is_short_round"
  ca : PySem.W.findIn K (.ref C) "__class__" = some (some (.builtin "object.__class__"))
  cn : PySem.W.specialIn K (.builtin "object.__class__") "__get__" = some (some (.builtin "getset_descriptor.__get__"))
  ct : PySem.W.takesIn K (.builtin "object.__class__") = some true
  cm : PySem.W.mroIn K C (.type "object") = some true
  ne : PySem.W.findIn K (.ref C) "__ne__" = some (some (.builtin "object.__ne__"))
  mks : PySem.W.makesIn K C = true
  kc : PySem.W.keepIn K (.ref C) = true
  mgW : mg "Word" = some (.ref C)
/-- what is to be known of an error's class -/
structure ErrW (K : PySem.W.Frag) (mg : Str → Option Value) (C : Addr) (x q : Str) (st : Stmt) : Prop where
  oex : OexC K C
  xf : XfC K C
  ini : FM K C "__init__" q st
  ty : ∀ f : Addr, PySem.W.findIn K (.ref C) "__init__" = some (some (.ref f)) → PySem.W.typeIn K (.ref f) = some (.type "function")
  g : mg x = some (.ref C)
  te : PySem.W.exmOne K (.ref C) (.ref C) = some true
theorem law_mk {P : Program} {w : World} {K : PySem.W.Frag} {mg : Str → Option Value} {base : Heap} {C CB CT fD cD fL cL P1 P2 : Addr} {fdD fdL : FuncData} (N : Names mg) (D : Defs K mg C) (W : ClsW K mg C) (X : TxP K C) (ZB : ErrW K mg CB "BadWord" "BadWord.__init__" sInitB) (ZT : ErrW K mg CT "TooMany" "TooMany.__init__" sInitT) (Z : Two K mg CB CT) (hP : P1 ≠ P2)
    (FD : FunC K "_law_long_right" sLong fD cD fdD) (mD : mg "_law_long_right" = some (.ref fD)) (kD : PySem.W.keepIn K (.ref fD) = true) (bD : Binds K fdD ["_law_pen_here"] []) (FL : FunC K "law" sLaw fL cL fdL)
    (TD : LamX.TabB base mg cD P1) (TL : LamX.TabB base mg cL P2) : FnOk P w K mg base CX0 11 fL fdL ["_law_script"] (spLaw K [(P1, qLong), (P2, qLaw)]) := by
  have tA : TxA mg := ⟨N.tuple, N.len⟩
  have tB : TxB mg := ⟨N.sorted, N.abs⟩
  have tC : TxC mg := ⟨N.kind, N.all⟩
  have tI : TxI mg := ⟨N.isinstance, N.int, N.bool, N.str, N.list, N.tuple⟩
  have tL : TxL mg := ⟨N.int, N.len, N.abs⟩
  have tN : TxN mg := ⟨N.range, N.list⟩
  have tQ : TxQ mg := ⟨N.pairs⟩
  have tW : TxW K mg C := ⟨W.cl, W.nL, W.nN, W.nK, W.nS, W.nR, W.ca, W.cn, W.ct, W.cm, W.mgW, N.most, N.isinstance, N.all⟩
  have EB : ErrC P w K mg base CB "BadWord" ["self", "part"] (spI1 CB) := by
    obtain ⟨f, oc, od, kV, doc, pm, cdv, ct, an, osl, a, i, l, c, kp⟩ := ZB.ini.ex
    exact ⟨ZB.oex, ⟨f, _, a, ZB.ty f a, ok_initB (fun_mk l c kp) ZB.oex Z.nB, (fun_mk l c kp).binds (fun _ _ _ _ _ _ us hl => match us, hl with | [_, _], _ => rfl)⟩, ZB.g, ZB.xf, ZB.te⟩
  have ET : ErrC P w K mg base CT "TooMany" ["self", "what", "most"] (spI2 CT) := by
    obtain ⟨f, oc, od, kV, doc, pm, cdv, ct, an, osl, a, i, l, c, kp⟩ := ZT.ini.ex
    exact ⟨ZT.oex, ⟨f, _, a, ZT.ty f a, ok_initT (fun_mk l c kp) ZT.oex Z.n1 Z.n2, (fun_mk l c kp).binds (fun _ _ _ _ _ _ us hl => match us, hl with | [_, _, _], _ => rfl)⟩, ZT.g, ZT.xf, ZT.te⟩
  have cInt : Cal P w K mg base "is_integer" 1 ["value"] spIsInt := D.d_sIsInt.cal (fun f fd F => ok_isInt F tI) (fun _ _ _ _ _ _ us hl => match us, hl with | [_], _ => rfl)
  have cWithin : Cal P w K mg base "is_within" 2 ["value", "least", "most"] spWithin := D.d_sWithin.cal (fun f fd F => ok_within F cInt) (fun _ _ _ _ _ _ us hl => match us, hl with | [_, _, _], _ => rfl)
  have cLetter : Cal P w K mg base "is_letter" 3 ["value"] spLetter := D.d_sLetter.cal (fun f fd F => ok_letter F cWithin tC) (fun _ _ _ _ _ _ us hl => match us, hl with | [_], _ => rfl)
  have cListE : Cal P w K mg base "is_listed" 1 ["value"] (spListE K) := D.d_sListed.cal (fun f fd F => ok_listE F tI) (fun _ _ _ _ _ _ us hl => match us, hl with | [_], _ => rfl)
  have cListed2 : Cal P w K mg base "is_listed" 1 ["value"] (spListed2 K C) := D.d_sListed.cal (fun f fd F => ok_listed2 F tI tW) (fun _ _ _ _ _ _ us hl => match us, hl with | [_], _ => rfl)
  have cFew : Cal P w K mg base "need_few_letters" 1 ["many"] spFew := D.d_sFew.cal (fun f fd F => ok_few F tW) (fun _ _ _ _ _ _ us hl => match us, hl with | [_], _ => rfl)
  have cFewX : CalX P w K mg base "need_few_letters" 3 ["many"] (spFewX CT) := D.d_sFew.calX (fun f fd F => ok_fewX F tW ET) (fun _ _ _ _ _ _ us hl => match us, hl with | [_], _ => rfl)
  have cKinds : Cal P w K mg base "kinds_of" 1 ["letters"] (spKinds K) := D.d_sKinds.cal (fun f fd F => ok_kinds F tA tB) (fun _ _ _ _ _ _ us hl => match us, hl with | [_], _ => rfl)
  have cShr : Cal P w K mg base "shortened_letters" 1 ["letters"] (spShr K) := D.d_sShr.cal (fun f fd F => ok_shr F tA) (fun _ _ _ _ _ _ us hl => match us, hl with | [_], _ => rfl)
  have cRnd : Cal P w K mg base "rounded_letters" 2 ["letters"] (spRnd K) := D.d_sRnd.cal (fun f fd F => ok_rnd F cShr tA) (fun _ _ _ _ _ _ us hl => match us, hl with | [_], _ => rfl)
  have cCon : Cal P w K mg base "contrary_letters" 1 ["letters"] (spCon K) := D.d_sCon.cal (fun f fd F => ok_con F tA) (fun _ _ _ _ _ _ us hl => match us, hl with | [_], _ => rfl)
  have cExch : Cal P w K mg base "exchange_letters" 2 ["one", "other"] (spExch K) := D.d_sExch.cal (fun f fd F => ok_exch F cCon) (fun _ _ _ _ _ _ us hl => match us, hl with | [_, _], _ => rfl)
  have mW : MkW P w K mg base C := by
    obtain ⟨f, oc, od, kV, doc, pm, cdv, ct, an, osl, a, i, l, c, kp⟩ := D.m_sInit.ex
    exact ⟨f, _, ⟨W.mks, a, i, W.kc⟩, ok_init (fun_mk l c kp) tW tA cListE cLetter cFew cKinds cShr cRnd, (fun_mk l c kp).binds (fun _ _ _ _ _ _ us hl => match us, hl with | [_, _], _ => rfl)⟩
  have eW : EqW P w K mg base C := by
    obtain ⟨f, oc, od, kV, doc, pm, cdv, ct, an, osl, a, i, l, c, kp⟩ := D.m_sEq.ex
    exact ⟨f, _, ok_eq (fun_mk l c kp) tW, a, i, (fun_mk l c kp).binds (fun _ _ _ _ _ _ us hl => match us, hl with | [_, _], _ => rfl)⟩
  have cWordOf : CalX P w K mg base "word_of" 6 ["letters"] (spWordOf K C CT) := D.d_sWordOf.calX (fun f fd F => ok_wordOf F tW tA mW cShr cFewX) (fun _ _ _ _ _ _ us hl => match us, hl with | [_], _ => rfl)
  have cIsPair : Cal P w K mg base "is_word_pair" 2 ["value"] (spIsPair K C) := D.d_sIsPair.cal (fun f fd F => ok_isPair F tW tA cListed2) (fun _ _ _ _ _ _ us hl => match us, hl with | [_], _ => rfl)
  have cArePairs : Cal P w K mg base "are_word_pairs" 3 ["value"] (spArePairs K C) := D.d_sArePairs.cal (fun f fd F => ok_arePairs F tW tA cListed2 tQ cIsPair) (fun _ _ _ _ _ _ us hl => match us, hl with | [_], _ => rfl)
  have cNeedP : CalX P w K mg base "need_word_pairs" 4 ["value", "part"] (spNeedP K C CB) := D.d_sNeedPairs.calX (fun f fd F => ok_needP F EB cArePairs) (fun _ _ _ _ _ _ us hl => match us, hl with | [_, _], _ => rfl)
  have cProdL : Cal P w K mg base "product_letters" 3 ["pairs"] (spProdL K C) := D.d_sProdL.cal (fun f fd F => ok_prodL F tW cExch) (fun _ _ _ _ _ _ us hl => match us, hl with | [_], _ => rfl)
  have aP : AllP P w K mg base C CB CT := {
    prod := D.d_sProd.calX (fun f fd F => ok_prod F cNeedP cProdL cWordOf) (fun _ _ _ _ _ _ us hl => match us, hl with | [_], _ => rfl)
    prodK := D.d_sProd.calKX id id (fun f fd F => ok_prod F cNeedP cProdL cWordOf) (fun _ _ _ _ _ _ us hl => match us, hl with | [_], _ => rfl) fun r => r
    mkw := mW
    eq := eW
    ne := W.ne }
  have cPen : Cal P w K mg base "_law_pen" 1 ["_law_script"] (spHand K) := D.d_sJar.cal (fun f fd F => ok_hand F tL) (fun _ _ _ _ _ _ us hl => match us, hl with | [_], _ => rfl)
  have cDraw : Cal P w K mg base "_law_draw" 1 ["_law_pen_here", "_law_many"] spTake := D.d_sDraw.cal (fun f fd F => ok_take F tL) (fun _ _ _ _ _ _ us hl => match us, hl with | [_, _], _ => rfl)
  have cPick : Cal P w K mg base "_law_pick" 2 ["_law_pen_here", "_law_some"] spPick := D.d_sPick.cal (fun f fd F => ok_pick F cDraw tL) (fun _ _ _ _ _ _ us hl => match us, hl with | [_, _], _ => rfl)
  have cConL : Cal P w K mg base "_law_contrary" 1 ["_law_word_here"] spConL := D.d_sConL.cal (fun f fd F => ok_conL F) (fun _ _ _ _ _ _ us hl => match us, hl with | [_], _ => rfl)
  have cShL : Cal P w K mg base "_law_short" 1 ["_law_word_here"] spShL := D.d_sShL.cal (fun f fd F => ok_shL F) (fun _ _ _ _ _ _ us hl => match us, hl with | [_], _ => rfl)
  have cExL : Cal P w K mg base "_law_exchange" 2 ["_law_one", "_law_other"] spExL := D.d_sExL.cal (fun f fd F => ok_exL F cConL) (fun _ _ _ _ _ _ us hl => match us, hl with | [_, _], _ => rfl)
  have cPrL : Cal P w K mg base "_law_product" 3 ["_law_pairs_here"] spPrL := D.d_sPrL.cal (fun f fd F => ok_prL F cShL cExL) (fun _ _ _ _ _ _ us hl => match us, hl with | [_], _ => rfl)
  have cWordL : Cal P w K mg base "_law_word" 2 ["_law_pen_here", "_law_most", "_law_kinds"] spWordL := D.d_sWordL.cal (fun f fd F => ok_wordL F cDraw tN) (fun _ _ _ _ _ _ us hl => match us, hl with | [_, _, _], _ => rfl)
  have cPairsL : Cal P w K mg base "_law_pairs" 3 ["_law_pen_here", "_law_many", "_law_most", "_law_kinds"] spPairsL := D.d_sPairsL.cal (fun f fd F => ok_pairsL F cWordL tN) (fun _ _ _ _ _ _ us hl => match us, hl with | [_, _, _, _], _ => rfl)
  have cMade : Cal P w K mg base "_law_made" 6 ["_law_pairs_here"] (spMade K C) := D.d_sMade.cal (fun f fd F => ok_made F tW mW) (fun _ _ _ _ _ _ us hl => match us, hl with | [_], _ => rfl)
  have cShift : Cal P w K mg base "_law_shifted" 1 ["_law_word_here", "_law_by"] spShift := D.d_sShift.cal (fun f fd F => ok_shift F tL) (fun _ _ _ _ _ _ us hl => match us, hl with | [_, _], _ => rfl)
  have cTold : Cal P w K mg base "_law_told_right" 8 ["_law_pairs_here"] spTold := D.d_sTold.cal (fun f fd F => ok_told F tW tA tN aP cPrL cMade) (fun _ _ _ _ _ _ us hl => match us, hl with | [_], _ => rfl)
  obtain ⟨g, oc, od, kV, doc, pm, cdv, ct, an, osl, lg, cg, kg, mg1⟩ := D.d_sHeard.ex
  have hG : HearK K mg g := ⟨mg1, kg, ⟨oc, od, kV, doc, pm, cdv, ct, an, osl, lg, cg⟩⟩
  have u1 : ∀ p ∈ [(P1, qLong), (P2, qLaw)], p.1 = P1 → p.2 = qLong := by
    intro p hp e
    simp only [List.mem_cons, List.mem_nil_iff, or_false] at hp
    rcases hp with rfl | rfl
    · rfl
    · exact absurd e.symm hP
  have u2 : ∀ p ∈ [(P1, qLong), (P2, qLaw)], p.1 = P2 → p.2 = qLaw := by
    intro p hp e
    simp only [List.mem_cons, List.mem_nil_iff, or_false] at hp
    rcases hp with rfl | rfl
    · exact absurd e hP
    · rfl
  have cLong : Cal P w K mg base "_law_long_right" 10 ["_law_pen_here"] (spLong [(P1, qLong), (P2, qLaw)]) := ⟨fD, fdD, ok_long FD tW tL tN aP cDraw EB ET Z hG TD (List.mem_cons_self) u1, mD, kD, bD⟩
  exact ok_law FL tW tN X aP { pen := cPen, draw := cDraw, pick := cPick, pairs := cPairsL, shift := cShift, told := cTold, long := cLong } EB ET Z hG TL (List.mem_cons_of_mem _ List.mem_cons_self) u2
end W29
set_option Elab.async false
set_option linter.all false
set_option maxRecDepth 100000
set_option maxHeartbeats 1000000
namespace W29
open PySem L2 PySem.Spec PyProof.Rows WR
theorem exm_two {K : PySem.W.Frag} {S U : Addr} {b : Bool} (g1 : PySem.W.subIn K (.ref U) (.type "BaseException") = some true) (g2 : PySem.W.isClsIn K U = true) (g3 : PySem.W.typeIn K (.ref U) = some (.type "type")) (h4 : PySem.W.subIn K (.ref S) (.ref U) = some b) :
    PySem.W.exmOne K (.ref S) (.ref U) = some b := by
  have e1 : (PySem.W.subIn K (.ref U) (.type "BaseException") == some true) = true := by rw [g1] <;> rfl
  have e2 : ((PySem.W.clsIn K U).isSome && PySem.W.typeIn K (.ref U) == some (.type "type")) = true := by
    have h2' : (PySem.W.clsIn K U).isSome = true := g2
    rw [h2', g3] <;> rfl
  show (if (PySem.W.subIn K (.ref U) (.type "BaseException") == some true) = true then (if ((PySem.W.clsIn K U).isSome && PySem.W.typeIn K (.ref U) == some (.type "type")) = true then PySem.W.subIn K (.ref S) (.ref U) else none) else none) = some b
  rw [if_pos e1, if_pos e2]
  exact h4
/-- the facts of an error's class -/
structure ErrF (K : PySem.W.Frag) (C : Addr) : Prop where
  oex : OexC K C
  xf : XfC K C
  sub : PySem.W.subIn K (.ref C) (.type "BaseException") = some true
  icl : PySem.W.isClsIn K C = true
  tyC : PySem.W.typeIn K (.ref C) = some (.type "type")
theorem err_mk {K : PySem.W.Frag} {h : Heap} {mg : Str → Option Value} {C f : Addr} {x q : Str} {st : Stmt} (X : K.In h) (G : h.Ns mainGlobals mg)
    {nm q2 : Str} {N : Addr} {bs bm : List Value} {sn : List Str} {sub : List Value} {ab : Bool} {col : Option Bool} {dd : Option Addr} {m0 m1 m2 m3 m5 : Option Value} {oc : Value} {od an : Option Addr} {kV doc pm cdv ct : Value} {osl : Array (Option Value)}
    (aC : PySem.W.nsIn K mainGlobals x = some (some (.ref C)))
    (xL : K.lookup C = some (excClassObj nm q2 C N bs bm true sn sub ab col dd m0 m1 m2 m3 m5 "ValueError.__new__")) (rv : PySem.HandSPX.refsVE bm = true)
    (sa : PySem.W.findIn K (.ref C) "__setattr__" = some (some (.builtin "object.__setattr__"))) (ga : PySem.W.findIn K (.ref C) "__getattribute__" = some (some (.builtin "BaseException.__getattribute__"))) (gg : PySem.W.findIn K (.ref C) "__getattr__" = some none)
    (i1 : PySem.W.findIn K (.ref C) "__init__" = some (some (.ref f))) (t1 : PySem.W.typeIn K (.ref f) = some (.type "function")) (fn : PySem.W.isFn K (.ref f) = true)
    (l1 : K.lookup f = some ⟨oc, od, .func (PySem.W.fnOf "__init__" q (defArgs st) (defBody st) (defScope st) .none kV doc pm an cdv ct), osl⟩) (c1 : PySem.W.codeIn K cdv q = true) (k1 : PySem.W.keepIn K (.ref f) = true)
    (kC : PySem.W.keepIn K (.ref C) = true) (eC : PySem.W.subIn K (.ref C) (.type "BaseException") = some true) (tC : PySem.W.typeIn K (.ref C) = some (.type "type")) (hC : PySem.W.hasDictIn K C = true) (iC : PySem.W.isClsIn K C = true) (sC : PySem.W.subIn K (.ref C) (.ref C) = some true) : ErrW K mg C x q st ∧ ErrF K C :=
  have O : OexC K C := ⟨⟨nm, q2, N, bs, bm, sn, sub, ab, col, dd, m0, m1, m2, m3, m5, xL, rv⟩, sa, eC, tC, kC⟩
  have F : XfC K C := ⟨ga, gg, eC, hC⟩
  ⟨⟨O, F, ⟨f, oc, od, kV, doc, pm, cdv, ct, an, osl, i1, fn, l1, c1, k1⟩, fun f' e => by
    rw [i1] at e
    cases e
    exact t1, PySem.W.mg_of X G aC, exm_two eC iC tC sC⟩, ⟨O, F, eC, iC, tC⟩⟩
theorem names_mk {K : PySem.W.Frag} {h : Heap} {mg : Str → Option Value} {u0 u1 u2 : Tok} (X : K.In h) (G : h.Ns mainGlobals mg)
    (n0 : PySem.W.nsIn K mainGlobals "isinstance" = some none) (n1 : PySem.W.nsIn K mainGlobals "int" = some none) (n2 : PySem.W.nsIn K mainGlobals "bool" = some none) (n3 : PySem.W.nsIn K mainGlobals "str" = some none) (n4 : PySem.W.nsIn K mainGlobals "list" = some none) (n5 : PySem.W.nsIn K mainGlobals "tuple" = some none) (n6 : PySem.W.nsIn K mainGlobals "all" = some none) (n7 : PySem.W.nsIn K mainGlobals "len" = some none) (n8 : PySem.W.nsIn K mainGlobals "abs" = some none) (n9 : PySem.W.nsIn K mainGlobals "range" = some none) (n10 : PySem.W.nsIn K mainGlobals "sorted" = some none) (g0 : PySem.W.nsIn K mainGlobals "MOST_KIND" = some (some (.int 26 u0))) (g1 : PySem.W.nsIn K mainGlobals "MOST_LETTERS" = some (some (.int 500 u1))) (g2 : PySem.W.nsIn K mainGlobals "MOST_PAIRS" = some (some (.int 12 u2))) : Names mg :=
  ⟨PySem.W.mg_none_of X G n0, PySem.W.mg_none_of X G n1, PySem.W.mg_none_of X G n2, PySem.W.mg_none_of X G n3, PySem.W.mg_none_of X G n4, PySem.W.mg_none_of X G n5, PySem.W.mg_none_of X G n6, PySem.W.mg_none_of X G n7, PySem.W.mg_none_of X G n8, PySem.W.mg_none_of X G n9, PySem.W.mg_none_of X G n10, ⟨_, PySem.W.mg_of X G g0⟩, ⟨_, PySem.W.mg_of X G g1⟩, ⟨_, PySem.W.mg_of X G g2⟩⟩
theorem cls_mk {K : PySem.W.Frag} {h : Heap} {mg : Str → Option Value} {C : Addr} (X : K.In h) (G : h.Ns mainGlobals mg)
    (aC : PySem.W.nsIn K mainGlobals "Word" = some (some (.ref C)))
    (pg : PySem.W.plainGet K C Str.empty = true) (hd : PySem.W.hasDictIn K C = true) (po : PySem.W.plainOver K C = true) (sa : PySem.W.findIn K (.ref C) "__setattr__" = some (some (.builtin "object.__setattr__")))
    (nL : PySem.W.findIn K (.ref C) "letters" = some none) (nN : PySem.W.findIn K (.ref C) "length" = some none) (nK : PySem.W.findIn K (.ref C) "kinds" = some none) (nS : PySem.W.findIn K (.ref C) "is_short" = some none) (nR : PySem.W.findIn K (.ref C) "is_short_round" = some none)
    (ca : PySem.W.findIn K (.ref C) "__class__" = some (some (.builtin "object.__class__")))
    (cn : PySem.W.specialIn K (.builtin "object.__class__") "__get__" = some (some (.builtin "getset_descriptor.__get__")))
    (ct : PySem.W.takesIn K (.builtin "object.__class__") = some true)
    (cm : PySem.W.mroIn K C (.type "object") = some true)
    (ne : PySem.W.findIn K (.ref C) "__ne__" = some (some (.builtin "object.__ne__")))
    (mk : PySem.W.makesIn K C = true) (kc : PySem.W.keepIn K (.ref C) = true) : ClsW K mg C :=
  ⟨⟨pg, hd, po, sa⟩, nL, nN, nK, nS, nR, ca, cn, ct, cm, ne, mk, kc, PySem.W.mg_of X G aC⟩
theorem at_mk {l : PySem.W.OpenLaw} {w : World} {K : PySem.W.Frag} {h : Heap} {mg : Str → Option Value} {fa P1 P2 C CB CT DH : Addr} (X : K.In h) (G : h.Ns mainGlobals mg) (hfa : mg "law" = some (.ref fa)) (N : Names mg) (D : Defs K mg C) (W : ClsW K mg C) (XP : TxP K C)
    (EB : ErrW K mg CB "BadWord" "BadWord.__init__" sInitB ∧ ErrF K CB) (ET : ErrW K mg CT "TooMany" "TooMany.__init__" sInitT ∧ ErrF K CT) (aH : PySem.W.nsIn K mainGlobals "HandleError" = some (some (.ref DH))) (no : PySem.W.subIn K (.ref CT) (.ref CB) = some false)
    (z1 : PySem.W.findIn K (.ref CB) "part" = some none) (z2 : PySem.W.findIn K (.ref CT) "what" = some none) (z3 : PySem.W.findIn K (.ref CT) "most" = some none) (hP : P1 ≠ P2)
    (t1 : h.get? P1 = some { cls := .none, data := .fields #[] }) (t2 : h.get? P2 = some { cls := .none, data := .fields #[] })
    {fD cD fL cL : Addr} {od1 an1 od2 an2 : Option Addr} {sl1 sl2 : Array (Option Value)} {oc1 kV1 dc1 pm1 ct1 oc2 kV2 dc2 pm2 ct2 : Value}
    (aD : PySem.W.nsIn K mainGlobals "_law_long_right" = some (some (.ref fD))) (lD : K.lookup fD = some ⟨oc1, od1, .func (PySem.W.fnOf "_law_long_right" "_law_long_right" (defArgs sLong) (defBody sLong) (defScope sLong) .none kV1 dc1 pm1 an1 (.ref cD) ct1), sl1⟩)
    (eD : PySem.W.codeIn K (.ref cD) "_law_long_right" = true) (kD : PySem.W.keepIn K (.ref fD) = true) (hD : PySem.W.codeHdIn K cD P1 = true) (nD : K.lookup P1 = none)
    (aL : PySem.W.nsIn K mainGlobals "law" = some (some (.ref fL))) (lL : K.lookup fL = some ⟨oc2, od2, .func (PySem.W.fnOf "law" "law" (defArgs sLaw) (defBody sLaw) (defScope sLaw) .none kV2 dc2 pm2 an2 (.ref cL) ct2), sl2⟩)
    (eL : PySem.W.codeIn K (.ref cL) "law" = true) (hL : PySem.W.codeHdIn K cL P2 = true) (nL : K.lookup P2 = none) : LamX.LawAtS l w K CX0 11 63 "_law_script" mg fa h := by
  have e := hfa.symm.trans (PySem.W.mg_of X G aL)
  cases e
  have Z : Two K mg CB CT := ⟨⟨DH, PySem.W.mg_of X G aH⟩, exm_two EB.2.sub EB.2.icl EB.2.tyC no, z1, z2, z3⟩
  have two : ∀ {Z : Addr × Addr → Prop}, Z (cD, P1) → Z (cL, P2) → ∀ p ∈ [(cD, P1), (cL, P2)], Z p := by
    intro Z h1 h2 p hp
    simp only [List.mem_cons, List.mem_nil_iff, or_false] at hp
    rcases hp with rfl | rfl
    · exact h1
    · exact h2
  have FD : FunC K "_law_long_right" sLong fD cD _ := ⟨oc1, od1, kV1, dc1, pm1, an1, ct1, sl1, rfl, lD, eD⟩
  have FL : FunC K "law" sLaw fa cL _ := ⟨oc2, od2, kV2, dc2, pm2, an2, ct2, sl2, rfl, lL, eL⟩
  have bD : Binds K (PySem.W.fnOf "_law_long_right" "_law_long_right" (defArgs sLong) (defBody sLong) (defScope sLong) .none kV1 dc1 pm1 an1 (.ref cD) ct1) ["_law_pen_here"] [] := (fun_mk (st := sLong) lD eD kD).binds (ps := ["_law_pen_here"]) fun _ _ _ _ _ _ us hl => match us, hl with | [_], _ => rfl
  refine ⟨PySem.W.fnOf "law" "law" (defArgs sLaw) (defBody sLaw) (defScope sLaw) .none kV2 dc2 pm2 an2 (.ref cL) ct2, [(cD, P1), (cL, P2)], spLaw K [(P1, qLong), (P2, qLaw)], two t1 t2, two nD nL, two (PySem.W.codeHd_of_K X hD) (PySem.W.codeHd_of_K X hL), fun s u => .of_eq rfl, ?_, fun base _ _ T => ?_⟩
  · intro H a ns hl _ hH hS
    refine ⟨a, ns, rfl, hS, hl, fun p hp => ?_, fun _ => rfl⟩
    simp only [List.mem_cons, List.mem_nil_iff, or_false] at hp
    rcases hp with rfl | rfl
    · exact .nil (hH (cD, P1) List.mem_cons_self)
    · exact .nil (hH (cL, P2) (List.mem_cons_of_mem _ List.mem_cons_self))
  · exact law_mk N D W XP EB.1 ET.1 Z hP FD (PySem.W.mg_of X G aD) kD bD FL (T (cD, P1) List.mem_cons_self) (T (cL, P2) (List.mem_cons_of_mem _ List.mem_cons_self))
end W29

open PySem PySem.W PyProof.Rows in
set_option maxRecDepth 100000 in
set_option maxHeartbeats 0 in
theorem PySem.Challenge.cw_handlerims_k29_products_of_pairs_holds : PySem.Challenge.rw_handlerims_k29_products_of_pairs.Holds := by
  w_on; o_law; k_head; (case hw => w_witness2)
  k_fill
  refine LamX.walk_ofTs (l := PySem.Challenge.rw_handlerims_k29_products_of_pairs) (n := 63) (k := 11) (CX := fun _ => L2.CX0) (x := "_law_script") rfl (by decide) rfl ⟨rfl, by decide, by decide⟩ (fun w h Y => PySem.W.km_in_of Y) ?F (fun _ _ _ _ _ z => z)
  case F =>
    intro w mg fa h Y KX G hmg
    have tabs := PySem.W.km_tabs_of Y
    have hlaw : mg "law" = some (.ref fa) := hmg
    clear hmg
    have hN : W29.Names mg := by
      refine' W29.names_mk KX G ?q_n0 ?q_n1 ?q_n2 ?q_n3 ?q_n4 ?q_n5 ?q_n6 ?q_n7 ?q_n8 ?q_n9 ?q_n10 ?q_g0 ?q_g1 ?q_g2
      (case q_n0 => k_is)
      (case q_n1 => k_is)
      (case q_n2 => k_is)
      (case q_n3 => k_is)
      (case q_n4 => k_is)
      (case q_n5 => k_is)
      (case q_n6 => k_is)
      (case q_n7 => k_is)
      (case q_n8 => k_is)
      (case q_n9 => k_is)
      (case q_n10 => k_is)
      (case q_g0 => k_is)
      (case q_g1 => k_is)
      (case q_g2 => k_is)
    refine' W29.at_mk (P1 := 414) (P2 := 421) KX G hlaw hN ?q_D ?q_W ?q_XP ?q_EB ?q_ET ?q_aH ?q_no ?q_z1 ?q_z2 ?q_z3 (by decide) (tabs 414 (by decide)) (tabs 421 (by decide)) ?q_aD ?q_lD ?q_eD ?q_kD ?q_hD ?q_nD ?q_aL ?q_lL ?q_eL ?q_hL ?q_nZ
    case q_W =>
      refine' W29.cls_mk KX G ?q_aC ?q_pg ?q_hd ?q_po ?q_sa ?q_nL ?q_nN ?q_nK ?q_nS ?q_nR ?q_ca ?q_cn ?q_ct ?q_cm ?q_ne ?q_mk ?q_kc
      (case q_aC => k_is)
      (case q_pg => k_is)
      (case q_hd => k_is)
      (case q_po => k_is)
      (case q_sa => k_is)
      (case q_nL => k_is)
      (case q_nN => k_is)
      (case q_nK => k_is)
      (case q_nS => k_is)
      (case q_nR => k_is)
      (case q_ca => k_is)
      (case q_cn => k_is)
      (case q_ct => k_is)
      (case q_cm => k_is)
      (case q_ne => k_is)
      (case q_mk => k_is)
      (case q_kc => k_is)
    case q_EB =>
      refine' W29.err_mk KX G ?q_aC ?q_xL ?q_rv ?q_sa ?q_ga ?q_gg ?q_i1 ?q_t1 ?q_fn ?q_l1 ?q_c1 ?q_k1 ?q_kC ?q_eC ?q_tC ?q_hC ?q_iC ?q_sC
      (case q_aC => k_is); (case q_xL => k_is); (case q_rv => decide +kernel); (case q_sa => k_is); (case q_ga => k_is); (case q_gg => k_is); (case q_i1 => k_is); (case q_t1 => k_is); (case q_fn => k_is); (case q_l1 => k_is); (case q_c1 => k_is); (case q_k1 => k_is); (case q_kC => k_is); (case q_eC => k_is); (case q_tC => k_is); (case q_hC => k_is); (case q_iC => k_is); (case q_sC => first | rfl | k_is)
    case q_ET =>
      refine' W29.err_mk KX G ?q_aC ?q_xL ?q_rv ?q_sa ?q_ga ?q_gg ?q_i1 ?q_t1 ?q_fn ?q_l1 ?q_c1 ?q_k1 ?q_kC ?q_eC ?q_tC ?q_hC ?q_iC ?q_sC
      (case q_aC => k_is); (case q_xL => k_is); (case q_rv => decide +kernel); (case q_sa => k_is); (case q_ga => k_is); (case q_gg => k_is); (case q_i1 => k_is); (case q_t1 => k_is); (case q_fn => k_is); (case q_l1 => k_is); (case q_c1 => k_is); (case q_k1 => k_is); (case q_kC => k_is); (case q_eC => k_is); (case q_tC => k_is); (case q_hC => k_is); (case q_iC => k_is); (case q_sC => first | rfl | k_is)
    case q_D =>
      refine' { d_sIsInt := W29.ff_mk KX G ?q_a0 ?q_l0 ?q_c0 ?q_k0, d_sWithin := W29.ff_mk KX G ?q_a1 ?q_l1 ?q_c1 ?q_k1, d_sLetter := W29.ff_mk KX G ?q_a2 ?q_l2 ?q_c2 ?q_k2, d_sListed := W29.ff_mk KX G ?q_a3 ?q_l3 ?q_c3 ?q_k3, d_sCon := W29.ff_mk KX G ?q_a4 ?q_l4 ?q_c4 ?q_k4, d_sShr := W29.ff_mk KX G ?q_a5 ?q_l5 ?q_c5 ?q_k5, d_sRnd := W29.ff_mk KX G ?q_a6 ?q_l6 ?q_c6 ?q_k6, d_sExch := W29.ff_mk KX G ?q_a7 ?q_l7 ?q_c7 ?q_k7, d_sKinds := W29.ff_mk KX G ?q_a8 ?q_l8 ?q_c8 ?q_k8, d_sFew := W29.ff_mk KX G ?q_a9 ?q_l9 ?q_c9 ?q_k9, d_sWordOf := W29.ff_mk KX G ?q_a10 ?q_l10 ?q_c10 ?q_k10, d_sIsPair := W29.ff_mk KX G ?q_a11 ?q_l11 ?q_c11 ?q_k11, d_sArePairs := W29.ff_mk KX G ?q_a12 ?q_l12 ?q_c12 ?q_k12, d_sNeedPairs := W29.ff_mk KX G ?q_a13 ?q_l13 ?q_c13 ?q_k13, d_sProdL := W29.ff_mk KX G ?q_a14 ?q_l14 ?q_c14 ?q_k14, d_sProd := W29.ff_mk KX G ?q_a15 ?q_l15 ?q_c15 ?q_k15, d_sJar := W29.ff_mk KX G ?q_a16 ?q_l16 ?q_c16 ?q_k16, d_sDraw := W29.ff_mk KX G ?q_a17 ?q_l17 ?q_c17 ?q_k17, d_sPick := W29.ff_mk KX G ?q_a18 ?q_l18 ?q_c18 ?q_k18, d_sConL := W29.ff_mk KX G ?q_a19 ?q_l19 ?q_c19 ?q_k19, d_sShL := W29.ff_mk KX G ?q_a20 ?q_l20 ?q_c20 ?q_k20, d_sExL := W29.ff_mk KX G ?q_a21 ?q_l21 ?q_c21 ?q_k21, d_sPrL := W29.ff_mk KX G ?q_a22 ?q_l22 ?q_c22 ?q_k22, d_sWordL := W29.ff_mk KX G ?q_a23 ?q_l23 ?q_c23 ?q_k23, d_sPairsL := W29.ff_mk KX G ?q_a24 ?q_l24 ?q_c24 ?q_k24, d_sMade := W29.ff_mk KX G ?q_a25 ?q_l25 ?q_c25 ?q_k25, d_sHeard := W29.ff_mk KX G ?q_a26 ?q_l26 ?q_c26 ?q_k26, d_sShift := W29.ff_mk KX G ?q_a27 ?q_l27 ?q_c27 ?q_k27, d_sTold := W29.ff_mk KX G ?q_a28 ?q_l28 ?q_c28 ?q_k28, m_sInit := W29.fm_mk ?q_ma0 ?q_mi0 ?q_ml0 ?q_mc0 ?q_mk0, m_sEq := W29.fm_mk ?q_ma1 ?q_mi1 ?q_ml1 ?q_mc1 ?q_mk1 }
      (case q_a0 => k_is); (case q_l0 => k_is); (case q_c0 => k_is); (case q_k0 => k_is)
      (case q_a1 => k_is); (case q_l1 => k_is); (case q_c1 => k_is); (case q_k1 => k_is)
      (case q_a2 => k_is); (case q_l2 => k_is); (case q_c2 => k_is); (case q_k2 => k_is)
      (case q_a3 => k_is); (case q_l3 => k_is); (case q_c3 => k_is); (case q_k3 => k_is)
      (case q_a4 => k_is); (case q_l4 => k_is); (case q_c4 => k_is); (case q_k4 => k_is)
      (case q_a5 => k_is); (case q_l5 => k_is); (case q_c5 => k_is); (case q_k5 => k_is)
      (case q_a6 => k_is); (case q_l6 => k_is); (case q_c6 => k_is); (case q_k6 => k_is)
      (case q_a7 => k_is); (case q_l7 => k_is); (case q_c7 => k_is); (case q_k7 => k_is)
      (case q_a8 => k_is); (case q_l8 => k_is); (case q_c8 => k_is); (case q_k8 => k_is)
      (case q_a9 => k_is); (case q_l9 => k_is); (case q_c9 => k_is); (case q_k9 => k_is)
      (case q_a10 => k_is); (case q_l10 => k_is); (case q_c10 => k_is); (case q_k10 => k_is)
      (case q_a11 => k_is); (case q_l11 => k_is); (case q_c11 => k_is); (case q_k11 => k_is)
      (case q_a12 => k_is); (case q_l12 => k_is); (case q_c12 => k_is); (case q_k12 => k_is)
      (case q_a13 => k_is); (case q_l13 => k_is); (case q_c13 => k_is); (case q_k13 => k_is)
      (case q_a14 => k_is); (case q_l14 => k_is); (case q_c14 => k_is); (case q_k14 => k_is)
      (case q_a15 => k_is); (case q_l15 => k_is); (case q_c15 => k_is); (case q_k15 => k_is)
      (case q_a16 => k_is); (case q_l16 => k_is); (case q_c16 => k_is); (case q_k16 => k_is)
      (case q_a17 => k_is); (case q_l17 => k_is); (case q_c17 => k_is); (case q_k17 => k_is)
      (case q_a18 => k_is); (case q_l18 => k_is); (case q_c18 => k_is); (case q_k18 => k_is)
      (case q_a19 => k_is); (case q_l19 => k_is); (case q_c19 => k_is); (case q_k19 => k_is)
      (case q_a20 => k_is); (case q_l20 => k_is); (case q_c20 => k_is); (case q_k20 => k_is)
      (case q_a21 => k_is); (case q_l21 => k_is); (case q_c21 => k_is); (case q_k21 => k_is)
      (case q_a22 => k_is); (case q_l22 => k_is); (case q_c22 => k_is); (case q_k22 => k_is)
      (case q_a23 => k_is); (case q_l23 => k_is); (case q_c23 => k_is); (case q_k23 => k_is)
      (case q_a24 => k_is); (case q_l24 => k_is); (case q_c24 => k_is); (case q_k24 => k_is)
      (case q_a25 => k_is); (case q_l25 => k_is); (case q_c25 => k_is); (case q_k25 => k_is)
      (case q_a26 => k_is); (case q_l26 => k_is); (case q_c26 => k_is); (case q_k26 => k_is)
      (case q_a27 => k_is); (case q_l27 => k_is); (case q_c27 => k_is); (case q_k27 => k_is)
      (case q_a28 => k_is); (case q_l28 => k_is); (case q_c28 => k_is); (case q_k28 => k_is)
      (case q_ma0 => k_is); (case q_mi0 => k_is); (case q_ml0 => k_is); (case q_mc0 => k_is); (case q_mk0 => k_is)
      (case q_ma1 => k_is); (case q_mi1 => k_is); (case q_ml1 => k_is); (case q_mc1 => k_is); (case q_mk1 => k_is)
    case q_XP =>
      refine' ⟨?q_x0, ?q_x1, ?q_x2, ?q_x3, ?q_x4⟩
      (case q_x0 => first | k_is | kernel_rfl | rfl); (case q_x1 => first | k_is | kernel_rfl | rfl); (case q_x2 => first | k_is | kernel_rfl | rfl); (case q_x3 => first | k_is | kernel_rfl | rfl); (case q_x4 => first | k_is | kernel_rfl | rfl)
    (case q_aH => k_is); (case q_no => first | k_is | rfl); (case q_z1 => k_is); (case q_z2 => k_is); (case q_z3 => k_is)
    (case q_aD => k_is); (case q_lD => k_is); (case q_eD => k_is); (case q_kD => k_is); (case q_hD => first | kernel_rfl | with_unfolding_all rfl); (case q_nD => first | rfl | k_is)
    (case q_aL => k_is); (case q_lL => k_is); (case q_eL => k_is); (case q_hL => first | kernel_rfl | with_unfolding_all rfl); (case q_nZ => first | rfl | k_is)
