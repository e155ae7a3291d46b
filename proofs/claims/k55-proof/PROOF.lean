import PyProof.Rows.All
import Wide.All
import OpenK.AllK
import Wide.FinOn
import HandS.ForMost
import HandS.Strs
import HandS.SetBool
import HandS.TupAny
import HandS.TupMul
import KE.KRevSl
import HandS.Exc
import HandS.TryOnly
import HandS.ExcOwn
import HandS.WordsExc
import HandS.Wide
import HandS.IsInst
import HandS.Style
import HandS.Flow
import HandS.Evl
import HandS.MakeKwOnly
import HandS.Walk
import KE.KEqSeq
import HandS.OwnEq
import HandS.More
import PyProof.InstNe
import HandS.Base
import HandS.Call
import HandS.List
import PyProof.AutoSeq1
import HandS.ExcField
import HandS.ExcIs
import HandS.ExcValue
import HandS.ExcInit
import HandS.Lambda
import HandS.EndTab
import HandS.Deep
import KE.KNestM
import PySem.Challenge.RW_handlerims_k55_squares_of_words_and_what
set_option Elab.async false
set_option linter.all false
/-! Rows of letters, shortened: neighbours that are contraries taken out. -/
namespace Fr

/-- a letter laid on what is left, its last one in front -/
def push : List Int → Int → List Int
  | [], a => [a]
  | b :: t, a => if b = -a then t else a :: b :: t

def act (s : List Int) (xs : List Int) : List Int := xs.foldl push s

/-- no neighbours are contraries -/
def Rd : List Int → Prop
  | [] => True
  | [_] => True
  | a :: b :: t => a ≠ -b ∧ Rd (b :: t)

/-- what is left of a row of letters -/
def shr (xs : List Int) : List Int := (act [] xs).reverse

/-- the contraries, the last one first -/
def con (xs : List Int) : List Int := xs.reverse.map (fun a => -a)

/-- so many times -/
def rep : Nat → List Int → List Int
  | 0, _ => []
  | n + 1, xs => xs ++ rep n xs

theorem Rd.tail {a : Int} {t : List Int} (h : Rd (a :: t)) : Rd t := by
  cases t with
  | nil => trivial
  | cons b u => exact h.2

theorem push_rd {s : List Int} (a : Int) (h : Rd s) : Rd (push s a) := by
  cases s with
  | nil => trivial
  | cons b t =>
    show Rd (if b = -a then t else a :: b :: t)
    by_cases e : b = -a
    · rw [if_pos e]; exact h.tail
    · rw [if_neg e]
      refine ⟨?_, h⟩
      omega

theorem push_push {s : List Int} (a : Int) (h : Rd s) : push (push s a) (-a) = s := by
  cases s with
  | nil => simp [push]
  | cons b t =>
    by_cases e : b = -a
    · have h1 : push (b :: t) a = t := by simp [push, e]
      rw [h1]
      cases t with
      | nil => simp [push, e]
      | cons c u =>
        have hc : c ≠ - -a := by
          intro hc
          exact h.1 (by omega)
        simp [push, e]
        omega
    · have h1 : push (b :: t) a = a :: b :: t := by simp [push, e]
      rw [h1]
      simp [push]

theorem push_push' {s : List Int} (a : Int) (h : Rd s) : push (push s (-a)) a = s := by
  have := push_push (-a) h
  rwa [Int.neg_neg] at this

theorem act_nil (s : List Int) : act s [] = s := rfl
theorem act_cons (s : List Int) (a : Int) (t : List Int) : act s (a :: t) = act (push s a) t := rfl
theorem act_append (s xs ys : List Int) : act s (xs ++ ys) = act (act s xs) ys := List.foldl_append
theorem act_snoc (s xs : List Int) (a : Int) : act s (xs ++ [a]) = push (act s xs) a := act_append s xs [a]

theorem act_rd : ∀ {xs s : List Int}, Rd s → Rd (act s xs)
  | [], _, h => h
  | a :: t, _, h => act_rd (xs := t) (push_rd a h)

/-- two rows are one and the same when they act alike -/
def Sm (xs ys : List Int) : Prop := ∀ s, Rd s → act s xs = act s ys

theorem Sm.refl (xs : List Int) : Sm xs xs := fun _ _ => rfl
theorem Sm.symm {xs ys : List Int} (h : Sm xs ys) : Sm ys xs := fun s r => (h s r).symm
theorem Sm.trans {xs ys zs : List Int} (h : Sm xs ys) (k : Sm ys zs) : Sm xs zs := fun s r => (h s r).trans (k s r)
theorem Sm.app {xs ys us vs : List Int} (h : Sm xs ys) (k : Sm us vs) : Sm (xs ++ us) (ys ++ vs) := fun s r => by
  rw [act_append, act_append, h s r, k _ (act_rd r)]
theorem Sm.out (a : Int) : Sm [a, -a] [] := fun s r => push_push a r
theorem Sm.out' (a : Int) : Sm [-a, a] [] := fun s r => push_push' a r
theorem Sm.mid {xs us vs ys : List Int} (h : Sm us vs) : Sm (xs ++ us ++ ys) (xs ++ vs ++ ys) := ((Sm.refl xs).app h).app (Sm.refl ys)

/-- what is left acts as the whole did -/
theorem sm_stack : ∀ xs : List Int, Sm (act [] xs).reverse xs := by
  intro xs
  have gen : ∀ (n : Nat) (xs : List Int), xs.length = n → Sm (act [] xs).reverse xs := by
    intro n
    induction n with
    | zero =>
      intro xs h
      cases xs with
      | nil => exact Sm.refl _
      | cons a t => simp at h
    | succ n ih =>
      intro xs h
      obtain ⟨ys, a, rfl⟩ : ∃ ys a, xs = ys ++ [a] := by
        refine ⟨xs.dropLast, xs.getLast (by intro e; rw [e] at h; simp at h), ?_⟩
        exact (List.dropLast_concat_getLast _).symm
      have hy : ys.length = n := by simp at h; exact h
      have k := ih ys hy
      intro s r
      rw [act_snoc, act_snoc]
      cases e : act [] ys with
      | nil =>
        have k2 := k s r
        rw [e] at k2
        rw [← k2]
        rfl
      | cons b t =>
        have k2 := k s r
        rw [e, List.reverse_cons, act_snoc] at k2
        rw [← k2]
        by_cases eb : b = -a
        · have h1 : push (b :: t) a = t := by simp [push, eb]
          rw [h1, eb]
          exact (push_push' a (act_rd r)).symm
        · have h1 : push (b :: t) a = a :: b :: t := by simp [push, eb]
          rw [h1, List.reverse_cons, List.reverse_cons, act_snoc, act_snoc]
  exact gen _ xs rfl

theorem sm_shr (xs : List Int) : Sm (shr xs) xs := sm_stack xs
theorem shr_of_sm {xs ys : List Int} (h : Sm xs ys) : shr xs = shr ys := by
  unfold shr
  rw [h [] trivial]
theorem sm_of_shr {xs ys : List Int} (h : shr xs = shr ys) : Sm xs ys := by
  refine (sm_shr xs).symm.trans ?_
  rw [h]
  exact sm_shr ys
theorem shr_shr (xs : List Int) : shr (shr xs) = shr xs := shr_of_sm (sm_shr xs)
theorem shr_app (xs ys : List Int) : shr (shr xs ++ shr ys) = shr (xs ++ ys) := shr_of_sm ((sm_shr xs).app (sm_shr ys))
theorem shr_out (xs : List Int) (a : Int) (ys : List Int) : shr (xs ++ a :: -a :: ys) = shr (xs ++ ys) := by
  refine shr_of_sm ?_
  have h : Sm (xs ++ [a, -a] ++ ys) (xs ++ [] ++ ys) := Sm.mid (Sm.out a)
  simpa using h

/-! ### short ones -/
theorem rd_cons {a : Int} {t : List Int} : Rd (a :: t) ↔ (∀ b, t.head? = some b → a ≠ -b) ∧ Rd t := by
  cases t with
  | nil => simp [Rd]
  | cons b u => simp [Rd]
theorem rd_append {xs ys : List Int} : Rd (xs ++ ys) ↔ Rd xs ∧ Rd ys ∧ ∀ a b, xs.getLast? = some a → ys.head? = some b → a ≠ -b := by
  induction xs with
  | nil => simp [Rd]
  | cons x t ih =>
    rw [List.cons_append, rd_cons, rd_cons, ih]
    cases t with
    | nil =>
      simp [Rd]
      constructor
      · rintro ⟨h1, h2⟩
        exact ⟨h2, fun a b ha hb => ha ▸ h1 b hb⟩
      · rintro ⟨h1, h2⟩
        exact ⟨fun b hb => h2 x b rfl hb, h1⟩
    | cons y u =>
      simp [List.getLast?_cons_cons]
      constructor
      · rintro ⟨h1, h2, h3, h4⟩
        exact ⟨⟨h1, h2⟩, h3, h4⟩
      · rintro ⟨⟨h1, h2⟩, h3, h4⟩
        exact ⟨h1, h2, h3, h4⟩
theorem rd_reverse {xs : List Int} : Rd xs.reverse ↔ Rd xs := by
  induction xs with
  | nil => simp [Rd]
  | cons x t ih =>
    rw [List.reverse_cons, rd_append, ih, rd_cons (a := x) (t := t)]
    have one : Rd [x] := trivial
    simp [one]
    constructor
    · rintro ⟨h1, h2⟩
      refine ⟨fun b hb => ?_, h1⟩
      have := h2 b hb
      omega
    · rintro ⟨h1, h2⟩
      refine ⟨h2, fun b hb => ?_⟩
      have := h1 b hb
      omega
theorem rd_shr (xs : List Int) : Rd (shr xs) := rd_reverse.2 (act_rd trivial)
theorem act_short : ∀ (xs s : List Int), Rd (s.reverse ++ xs) → act s xs = xs.reverse ++ s
  | [], s, _ => by simp [act]
  | a :: t, s, h => by
    rw [act_cons]
    have hp : push s a = a :: s := by
      cases s with
      | nil => rfl
      | cons b u =>
        have h3 := (rd_append.1 h).2.2 b a (by simp) (by simp)
        show (if b = -a then u else a :: b :: u) = _
        rw [if_neg h3]
    rw [hp, act_short t (a :: s) (by simpa using h)]
    simp
theorem shr_short {xs : List Int} (h : Rd xs) : shr xs = xs := by
  unfold shr
  rw [act_short xs [] (by simpa using h)]
  simp
theorem shr_iff {xs : List Int} : shr xs = xs ↔ Rd xs := ⟨fun h => h ▸ rd_shr xs, shr_short⟩
/-- a short one that acts alike is what is left -/
theorem shr_eq {xs ys : List Int} (h : Sm xs ys) (r : Rd ys) : shr xs = ys := (shr_of_sm h).trans (shr_short r)

/-! ### contraries -/
theorem con_nil : con [] = [] := rfl
theorem con_cons (a : Int) (t : List Int) : con (a :: t) = con t ++ [-a] := by simp [con]
theorem con_append (xs ys : List Int) : con (xs ++ ys) = con ys ++ con xs := by simp [con]
theorem con_con (xs : List Int) : con (con xs) = xs := by
  simp [con, List.map_reverse, Function.comp_def]
theorem con_length (xs : List Int) : (con xs).length = xs.length := by simp [con]
theorem con_head (xs : List Int) : (con xs).head? = xs.getLast?.map fun a => -a := by
  simp [con]
theorem con_last (xs : List Int) : (con xs).getLast? = xs.head?.map fun a => -a := by
  simp [con, List.map_reverse]
theorem sm_con : ∀ xs : List Int, Sm (xs ++ con xs) []
  | [] => Sm.refl _
  | a :: t => by
    rw [con_cons]
    have h : Sm ([a] ++ (t ++ con t) ++ [-a]) ([a] ++ [] ++ [-a]) := Sm.mid (sm_con t)
    have k : Sm ([a] ++ [] ++ [-a]) [] := Sm.out a
    have := h.trans k
    simpa using this
theorem sm_con' (xs : List Int) : Sm (con xs ++ xs) [] := by
  have := sm_con (con xs)
  rwa [con_con] at this
theorem Sm.con {xs ys : List Int} (h : Sm xs ys) : Sm (con xs) (con ys) := by
  have h1 : Sm (Fr.con xs ++ (ys ++ Fr.con ys)) (Fr.con xs ++ []) := (Sm.refl _).app (sm_con ys)
  have h2 : Sm (Fr.con xs ++ ys ++ Fr.con ys) (Fr.con xs ++ xs ++ Fr.con ys) := Sm.mid h.symm
  have h3 : Sm (Fr.con xs ++ xs ++ Fr.con ys) ([] ++ Fr.con ys) := (sm_con' xs).app (Sm.refl _)
  rw [List.append_nil, ← List.append_assoc] at h1
  exact (h1.symm.trans h2).trans h3
theorem rd_con {xs : List Int} : Rd (con xs) ↔ Rd xs := by
  have one : ∀ xs : List Int, Rd xs → Rd (con xs) := by
    intro xs
    induction xs with
    | nil => exact fun _ => trivial
    | cons a t ih =>
      intro h
      rw [con_cons, rd_append]
      refine ⟨ih h.tail, trivial, fun x y hx hy => ?_⟩
      rw [con_last] at hx
      cases t with
      | nil => simp at hx
      | cons b u =>
        simp at hx hy
        have := h.1
        omega
  refine ⟨fun h => ?_, one xs⟩
  have := one _ h
  rwa [con_con] at this
theorem shr_con (xs : List Int) : shr (con xs) = con (shr xs) := shr_eq (sm_shr xs).con.symm (rd_con.2 (rd_shr xs))

/-! ### so many times -/
theorem rep_zero (xs : List Int) : rep 0 xs = [] := rfl
theorem rep_succ (n : Nat) (xs : List Int) : rep (n + 1) xs = xs ++ rep n xs := rfl
theorem rep_one (xs : List Int) : rep 1 xs = xs := by simp [rep]
theorem rep_add (m n : Nat) (xs : List Int) : rep (m + n) xs = rep m xs ++ rep n xs := by
  induction m with
  | zero => simp [rep]
  | succ m ih => rw [Nat.succ_add, rep_succ, rep_succ, ih, List.append_assoc]
theorem rep_length (n : Nat) (xs : List Int) : (rep n xs).length = n * xs.length := by
  induction n with
  | zero => simp [rep]
  | succ n ih => rw [rep_succ, List.length_append, ih, Nat.succ_mul, Nat.add_comm]
theorem rep_nil (n : Nat) : rep n [] = [] := by
  induction n with
  | zero => rfl
  | succ n ih => rw [rep_succ, ih]; rfl
theorem Sm.rep {xs ys : List Int} (h : Sm xs ys) (n : Nat) : Sm (rep n xs) (rep n ys) := by
  induction n with
  | zero => exact Sm.refl _
  | succ n ih => exact h.app ih
theorem shr_rep (n : Nat) (xs : List Int) : shr (rep n (shr xs)) = shr (rep n xs) := shr_of_sm ((sm_shr xs).rep n)
theorem rep_succ' (n : Nat) (xs : List Int) : rep (n + 1) xs = rep n xs ++ xs := by
  rw [rep_add n 1, rep_one]
theorem con_rep (n : Nat) (xs : List Int) : con (rep n xs) = rep n (con xs) := by
  induction n with
  | zero => rfl
  | succ n ih => rw [rep_succ, con_append, ih, ← rep_succ']

/-! ### the ends -/
/-- short, and its ends are no contraries -/
def Cy (w : List Int) : Prop := Rd w ∧ ∀ a b, w.head? = some a → w.getLast? = some b → a ≠ -b
/-- no letter is 0 -/
def NZ (xs : List Int) : Prop := ∀ a ∈ xs, a ≠ 0
theorem cy_nil : Cy [] := ⟨trivial, fun a b h => by simp at h⟩
theorem NZ.app {xs ys : List Int} (h : NZ xs) (k : NZ ys) : NZ (xs ++ ys) := fun a ha => by
  rcases List.mem_append.1 ha with h1 | h1
  · exact h a h1
  · exact k a h1
theorem NZ.left {xs ys : List Int} (h : NZ (xs ++ ys)) : NZ xs := fun a ha => h a (List.mem_append_left _ ha)
theorem NZ.right {xs ys : List Int} (h : NZ (xs ++ ys)) : NZ ys := fun a ha => h a (List.mem_append_right _ ha)
theorem NZ.con {xs : List Int} (h : NZ xs) : NZ (con xs) := fun a ha => by
  unfold Fr.con at ha
  obtain ⟨b, hb, rfl⟩ := List.mem_map.1 ha
  have := h b (List.mem_reverse.1 hb)
  omega
theorem push_mem {s : List Int} {a x : Int} (h : x ∈ push s a) : x = a ∨ x ∈ s := by
  cases s with
  | nil => left; simpa [push] using h
  | cons b t =>
    have h2 : x ∈ (if b = -a then t else a :: b :: t) := h
    by_cases e : b = -a
    · rw [if_pos e] at h2; exact .inr (List.mem_cons_of_mem _ h2)
    · rw [if_neg e] at h2
      rcases List.mem_cons.1 h2 with h3 | h3
      · exact .inl h3
      · exact .inr h3
theorem act_mem : ∀ {xs s : List Int} {x : Int}, x ∈ act s xs → x ∈ xs ∨ x ∈ s
  | [], _, _, h => .inr h
  | a :: t, s, x, h => by
    rw [act_cons] at h
    rcases act_mem h with h1 | h1
    · exact .inl (List.mem_cons_of_mem _ h1)
    · rcases push_mem h1 with h2 | h2
      · exact .inl (h2 ▸ List.mem_cons_self)
      · exact .inr h2
theorem shr_mem {xs : List Int} {x : Int} (h : x ∈ shr xs) : x ∈ xs := by
  unfold shr at h
  rcases act_mem (List.mem_reverse.1 h) with h1 | h1
  · exact h1
  · simp at h1
theorem NZ.shr {xs : List Int} (h : NZ xs) : NZ (shr xs) := fun a ha => h a (shr_mem ha)

/-- a row between a letter and its contrary, or one that has no such ends -/
theorem ends_or (xs : List Int) (nz : NZ xs) : (∃ a m, xs = a :: (m ++ [-a])) ∨ ∀ a b, xs.head? = some a → xs.getLast? = some b → a ≠ -b := by
  cases xs with
  | nil => right; intro a b h; simp at h
  | cons a t =>
    by_cases ht : t = []
    · subst ht
      right
      intro x y hx hy
      simp at hx hy
      have := nz a (by simp)
      omega
    · have e := List.dropLast_concat_getLast ht
      by_cases hb : t.getLast ht = -a
      · left
        refine ⟨a, t.dropLast, ?_⟩
        rw [← hb, e]
      · right
        intro x y hx hy
        rw [← e] at hy
        rw [show a :: (t.dropLast ++ [t.getLast ht]) = (a :: t.dropLast) ++ [t.getLast ht] from rfl] at hy
        rw [List.getLast?_append] at hy
        simp at hx hy
        omega
/-- every short row is a row, one that is short round, and the contrary of the first -/
theorem parted (xs : List Int) (nz : NZ xs) (r : Rd xs) : ∃ u w, xs = u ++ w ++ con u ∧ Cy w ∧ (w = [] → u = []) := by
  have gen : ∀ (n : Nat) (xs : List Int), xs.length ≤ n → NZ xs → Rd xs → ∃ u w, xs = u ++ w ++ con u ∧ Cy w ∧ (w = [] → u = []) := by
    intro n
    induction n with
    | zero =>
      intro xs h _ _
      have : xs = [] := List.length_eq_zero_iff.1 (by omega)
      subst this
      exact ⟨[], [], rfl, cy_nil, fun _ => rfl⟩
    | succ n ih =>
      intro xs h nz r
      rcases ends_or xs nz with ⟨a, m, rfl⟩ | k
      · have hr : Rd (m ++ [-a]) := r.tail
        have hm : Rd m := (rd_append.1 hr).1
        obtain ⟨u, w, e, c, z⟩ := ih m (by simp at h; omega) (fun x hx => nz x (by simp [hx])) hm
        have hne : m ≠ [] := by
          intro e0
          subst e0
          have := r.1
          simp at this
        refine ⟨a :: u, w, ?_, c, fun hw => ?_⟩
        · rw [con_cons, e]; simp
        · exfalso
          have hu := z hw
          subst hw hu
          exact hne (by simpa [con] using e)
      · exact ⟨[], xs, by simp [con], ⟨r, k⟩, fun _ => rfl⟩
  exact gen xs.length xs (Nat.le_refl _) nz r

/-- the ends off, as long as they are contraries -/
def endsN : Nat → List Int → List Int
  | 0, xs => xs
  | n + 1, xs => if 1 < xs.length ∧ xs.head? = xs.getLast?.map (fun a => -a) then endsN n xs.tail.dropLast else xs
def ends (xs : List Int) : List Int := endsN xs.length xs
theorem endsN_cy : ∀ (n : Nat) {w : List Int}, Cy w → endsN n w = w
  | 0, _, _ => rfl
  | n + 1, w, h => by
    unfold endsN
    rw [if_neg]
    rintro ⟨h1, h2⟩
    cases e : w.getLast? with
    | none =>
      rw [List.getLast?_eq_none_iff] at e
      subst e
      simp at h1
    | some b =>
      rw [e] at h2
      exact h.2 (-b) b h2 e rfl
theorem endsN_eq : ∀ (n : Nat) (u w : List Int), Cy w → u.length ≤ n → (w = [] → u = []) → endsN n (u ++ w ++ con u) = w
  | n, [], w, c, _, _ => by
    simp [con]
    exact endsN_cy n c
  | 0, a :: u, w, c, h, _ => by simp at h
  | n + 1, a :: u, w, c, h, z => by
    have e : (a :: u) ++ w ++ con (a :: u) = a :: ((u ++ w ++ con u) ++ [-a]) := by
      rw [con_cons]; simp
    rw [e]
    unfold endsN
    rw [if_pos]
    · rw [List.tail_cons, List.dropLast_concat]
      refine endsN_eq n u w c (by simp at h; exact h) fun hw => ?_
      have := z hw
      simp at this
    · constructor
      · simp only [List.length_cons, List.length_append, List.length_nil]; omega
      · rw [show a :: ((u ++ w ++ con u) ++ [-a]) = (a :: (u ++ w ++ con u)) ++ [-a] from rfl, List.getLast?_append]
        simp
theorem ends_eq {u w : List Int} (c : Cy w) (z : w = [] → u = []) : ends (u ++ w ++ con u) = w :=
  endsN_eq _ u w c (by simp) z
theorem ends_cy {w : List Int} (c : Cy w) : ends w = w := endsN_cy _ c
/-- what is left of a ring -/
def rnd (xs : List Int) : List Int := ends (shr xs)
theorem rnd_of {xs u w : List Int} (h : Sm xs (u ++ w ++ con u)) (r : Rd (u ++ w ++ con u)) (c : Cy w) (z : w = [] → u = []) : rnd xs = w := by
  unfold rnd
  rw [shr_eq h r]
  exact ends_eq c z
theorem rnd_cy {xs : List Int} (nz : NZ xs) : Cy (rnd xs) := by
  obtain ⟨u, w, e, c, z⟩ := parted (shr xs) nz.shr (rd_shr xs)
  unfold rnd
  rw [e, ends_eq c z]
  exact c
theorem rnd_sm {xs ys : List Int} (h : Sm xs ys) : rnd xs = rnd ys := by
  unfold rnd
  rw [shr_of_sm h]
theorem rnd_iff {xs : List Int} (nz : NZ xs) : rnd xs = xs ↔ Cy xs := by
  constructor
  · intro h
    rw [← h]
    exact rnd_cy nz
  · intro c
    unfold rnd
    rw [shr_short c.1, ends_cy c]

/-! ### turned -/
def Trn (xs ys : List Int) : Prop := ∃ p q, xs = p ++ q ∧ ys = q ++ p
theorem Trn.refl (xs : List Int) : Trn xs xs := ⟨[], xs, rfl, by simp⟩
theorem Trn.symm {xs ys : List Int} (h : Trn xs ys) : Trn ys xs := by
  obtain ⟨p, q, e1, e2⟩ := h
  exact ⟨q, p, e2, e1⟩
theorem Trn.trans {xs ys zs : List Int} (h : Trn xs ys) (k : Trn ys zs) : Trn xs zs := by
  obtain ⟨p, q, rfl, e⟩ := h
  obtain ⟨p2, q2, e2, rfl⟩ := k
  rw [e] at e2
  rcases List.append_eq_append_iff.1 e2 with ⟨c, h1, h2⟩ | ⟨c, h1, h2⟩
  · subst h1 h2
    exact ⟨c, q2 ++ q, by simp, by simp⟩
  · subst h1 h2
    exact ⟨p ++ p2, c, by simp, by simp⟩
theorem Trn.cy {xs ys : List Int} (h : Trn xs ys) (c : Cy xs) : Cy ys := by
  obtain ⟨p, q, rfl, rfl⟩ := h
  by_cases hp : p = []
  · subst hp; simpa using c
  by_cases hq : q = []
  · subst hq; simpa using c
  obtain ⟨r, l⟩ := c
  obtain ⟨r1, r2, r3⟩ := rd_append.1 r
  obtain ⟨a, t, rfl⟩ := List.exists_cons_of_ne_nil hp
  obtain ⟨b, s, rfl⟩ := List.exists_cons_of_ne_nil hq
  refine ⟨rd_append.2 ⟨r2, r1, fun x y hx hy => ?_⟩, fun x y hx hy => ?_⟩
  · have := l y x (by simpa using hy) (by rw [List.getLast?_append, hx]; rfl)
    omega
  · have := r3 y x (by rw [List.getLast?_append] at hy; rw [List.getLast?_eq_some_getLast (by simp)] at hy ⊢; simpa using hy) (by simpa using hx)
    omega
/-- a letter ahead and its contrary behind -/
theorem rnd_moved1 (a : Int) (ha : a ≠ 0) (xs : List Int) (nz : NZ xs) : Trn (rnd xs) (rnd ([a] ++ xs ++ [-a])) := by
  obtain ⟨u, w, e, c, z⟩ := parted (shr xs) nz.shr (rd_shr xs)
  have hr : rnd xs = w := by
    unfold rnd
    rw [e, ends_eq c z]
  have rs := rd_shr xs
  rw [e] at rs
  have base : Sm ([a] ++ xs ++ [-a]) ([a] ++ (u ++ w ++ con u) ++ [-a]) := by
    rw [← e]
    exact Sm.mid (sm_shr xs).symm
  rw [hr]
  cases u with
  | cons b u =>
    have wne : w ≠ [] := fun h => by simp at z; exact z h
    have e2 : (b :: u) ++ w ++ con (b :: u) = b :: ((u ++ w ++ con u) ++ [-b]) := by rw [con_cons]; simp
    rw [e2] at rs base
    by_cases hb : b = -a
    · have inner : Rd (u ++ w ++ con u) := (rd_append.1 rs.tail).1
      have sm : Sm ([a] ++ (b :: ((u ++ w ++ con u) ++ [-b])) ++ [-a]) (u ++ w ++ con u) := by
        subst hb
        have h1 : Sm ([a, -a] ++ (u ++ w ++ con u) ++ [a, -a]) ([] ++ (u ++ w ++ con u) ++ []) := ((Sm.out a).app (Sm.refl _)).app (Sm.out a)
        simpa using h1
      rw [rnd_of (base.trans sm) inner c fun h => absurd h wne]
      exact Trn.refl _
    · have whole : Rd ((a :: b :: u) ++ w ++ con (a :: b :: u)) := by
        have e3 : (a :: b :: u) ++ w ++ con (a :: b :: u) = [a] ++ (b :: ((u ++ w ++ con u) ++ [-b])) ++ [-a] := by
          rw [con_cons, con_cons]; simp
        rw [e3, rd_append, rd_append]
        refine ⟨⟨trivial, rs, fun x y hx hy => ?_⟩, trivial, fun x y hx hy => ?_⟩
        · simp at hx hy; omega
        · rw [show [a] ++ (b :: ((u ++ w ++ con u) ++ [-b])) = (a :: b :: (u ++ w ++ con u)) ++ [-b] by simp] at hx
          rw [List.getLast?_append] at hx
          simp at hx hy
          omega
      have sm : Sm ([a] ++ (b :: ((u ++ w ++ con u) ++ [-b])) ++ [-a]) ((a :: b :: u) ++ w ++ con (a :: b :: u)) := by
        have e3 : (a :: b :: u) ++ w ++ con (a :: b :: u) = [a] ++ (b :: ((u ++ w ++ con u) ++ [-b])) ++ [-a] := by
          rw [con_cons, con_cons]; simp
        rw [e3]
        exact Sm.refl _
      rw [rnd_of (base.trans sm) whole c fun h => absurd h wne]
      exact Trn.refl _
  | nil =>
    have e2 : ([] : List Int) ++ w ++ con [] = w := by simp [con]
    rw [e2] at rs base
    cases w with
    | nil =>
      have sm : Sm ([a] ++ [] ++ [-a]) ([] ++ [] ++ con []) := Sm.out a
      rw [rnd_of (base.trans sm) trivial cy_nil fun _ => rfl]
      exact Trn.refl _
    | cons b t =>
      by_cases hb : b = -a
      · -- the letter takes the first one out, and its contrary stands behind
        have turn : Trn (b :: t) (t ++ [b]) := ⟨[b], t, rfl, rfl⟩
        have sm : Sm ([a] ++ (b :: t) ++ [-a]) ([] ++ (t ++ [b]) ++ con []) := by
          subst hb
          have h1 : Sm ([a, -a] ++ (t ++ [-a])) ([] ++ (t ++ [-a])) := (Sm.out a).app (Sm.refl _)
          simpa [con] using h1
        have cy := turn.cy c
        rw [rnd_of (base.trans sm) (by simpa [con] using cy.1) cy fun _ => rfl]
        exact turn
      · by_cases hl : (b :: t).getLast? = some a
        · obtain ⟨m, em⟩ : ∃ m, b :: t = m ++ [a] := by
            refine ⟨(b :: t).dropLast, ?_⟩
            have h1 := List.dropLast_concat_getLast (l := b :: t) (by simp)
            rw [List.getLast?_eq_some_getLast (by simp)] at hl
            rw [Option.some.inj hl] at h1
            exact h1.symm
          rw [em] at c base ⊢
          have turn : Trn (m ++ [a]) (a :: m) := ⟨m, [a], rfl, rfl⟩
          have sm : Sm ([a] ++ (m ++ [a]) ++ [-a]) ([] ++ (a :: m) ++ con []) := by
            have h1 : Sm ((a :: m) ++ [a, -a]) ((a :: m) ++ []) := (Sm.refl _).app (Sm.out a)
            simpa [con] using h1
          have cy := turn.cy c
          rw [rnd_of (base.trans sm) (by simpa [con] using cy.1) cy fun _ => rfl]
          exact turn
        · have whole : Rd ([a] ++ (b :: t) ++ con [a]) := by
            rw [rd_append, rd_append]
            refine ⟨⟨trivial, rs, fun x y hx hy => ?_⟩, trivial, fun x y hx hy => ?_⟩
            · simp at hx hy; omega
            · rw [List.getLast?_append] at hx
              rw [List.getLast?_eq_some_getLast (by simp)] at hx hl
              simp [con] at hx hy hl
              omega
          rw [rnd_of (base.trans (by simpa [con] using Sm.refl _)) whole c fun h => by simp at h]
          exact Trn.refl _
/-- moved: a word ahead, its contrary behind -/
theorem rnd_moved : ∀ (ys xs : List Int), NZ ys → NZ xs → Trn (rnd xs) (rnd (ys ++ xs ++ con ys))
  | [], xs, _, _ => by simpa [con] using Trn.refl _
  | a :: t, xs, hy, hx => by
    have ht : NZ t := fun x h => hy x (List.mem_cons_of_mem _ h)
    have h1 := rnd_moved t xs ht hx
    have h2 := rnd_moved1 a (hy a List.mem_cons_self) (t ++ xs ++ con t) ((ht.app hx).app ht.con)
    have e : [a] ++ (t ++ xs ++ con t) ++ [-a] = (a :: t) ++ xs ++ con (a :: t) := by rw [con_cons]; simp
    rw [e] at h2
    exact h1.trans h2
/-- turned first, shortened round then -/
theorem rnd_turned {xs ys : List Int} (nz : NZ xs) (h : Trn xs ys) : Trn (rnd xs) (rnd ys) := by
  obtain ⟨p, q, rfl, rfl⟩ := h
  have h1 := rnd_moved (con p) (p ++ q) nz.left.con nz
  have sm : Sm (con p ++ (p ++ q) ++ con (con p)) (q ++ p) := by
    rw [con_con]
    have h2 : Sm ((con p ++ p) ++ (q ++ p)) ([] ++ (q ++ p)) := (sm_con' p).app (Sm.refl _)
    simpa using h2
  rw [rnd_sm sm] at h1
  exact h1

/-! ### so many times one that is short round -/
theorem rep_head {n : Nat} {w : List Int} : (rep (n + 1) w).head? = w.head? := by
  cases w with
  | nil => rw [rep_nil]
  | cons a t => rw [rep_succ]; rfl
theorem rep_last {n : Nat} {w : List Int} : (rep (n + 1) w).getLast? = w.getLast? := by
  by_cases hw : w = []
  · subst hw; rw [rep_nil]
  · rw [rep_succ', List.getLast?_append, List.getLast?_eq_some_getLast hw]; rfl
theorem cy_rep {w : List Int} (c : Cy w) : ∀ n, Cy (rep n w)
  | 0 => cy_nil
  | n + 1 => by
    have ih := cy_rep c n
    refine ⟨?_, fun a b ha hb => ?_⟩
    · rw [rep_succ, rd_append]
      refine ⟨c.1, ih.1, fun a b ha hb => ?_⟩
      cases n with
      | zero => simp [rep] at hb
      | succ n =>
        rw [rep_head] at hb
        have := c.2 b a hb ha
        omega
    · rw [rep_head] at ha
      rw [rep_last] at hb
      exact c.2 a b ha hb
/-- so many times a row: its ends stay, what is between them comes so many times -/
theorem shr_core {xs u w : List Int} (e : shr xs = u ++ w ++ con u) (c : Cy w) (z : w = [] → u = []) (n : Nat) : shr (rep (n + 1) xs) = u ++ rep (n + 1) w ++ con u := by
  have sm : ∀ n, Sm (rep (n + 1) (u ++ w ++ con u)) (u ++ rep (n + 1) w ++ con u) := by
    intro n
    induction n with
    | zero => rw [rep_one, rep_one]; exact Sm.refl _
    | succ n ih =>
      rw [rep_succ]
      refine ((Sm.refl _).app ih).trans ?_
      have h : Sm ((u ++ w) ++ (con u ++ u) ++ (rep (n + 1) w ++ con u)) ((u ++ w) ++ [] ++ (rep (n + 1) w ++ con u)) := Sm.mid (sm_con' u)
      have e2 : rep (n + 1 + 1) w = w ++ rep (n + 1) w := rfl
      rw [e2]
      simpa using h
  refine shr_eq ?_ ?_
  · have h1 : Sm (rep (n + 1) xs) (rep (n + 1) (shr xs)) := ((sm_shr xs).rep _).symm
    rw [e] at h1
    exact h1.trans (sm n)
  · have r := rd_shr xs
    rw [e] at r
    by_cases hw : w = []
    · have hu := z hw
      subst hw hu
      rw [rep_nil]
      trivial
    · obtain ⟨r12, r3, b23⟩ := rd_append.1 r
      obtain ⟨r1, r2, b12⟩ := rd_append.1 r12
      rw [rd_append, rd_append]
      refine ⟨⟨r1, (cy_rep c _).1, fun a b ha hb => ?_⟩, r3, fun a b ha hb => ?_⟩
      · rw [rep_head] at hb
        exact b12 a b ha hb
      · refine b23 a b ?_ hb
        have hne : rep (n + 1) w ≠ [] := by
          intro h
          have h2 := rep_length (n + 1) w
          rw [h, Nat.succ_mul] at h2
          simp at h2
          exact hw (List.length_eq_zero_iff.1 (by omega))
        rw [List.getLast?_append, List.getLast?_eq_some_getLast hne] at ha
        rw [List.getLast?_append, ← rep_last (n := n), List.getLast?_eq_some_getLast hne]
        exact ha
end Fr
set_option Elab.async false
set_option linter.all false
set_option maxRecDepth 100000
set_option maxHeartbeats 2000000
/-! {e for x in xs}, e an int. -/
namespace WS
open PySem PySem.Spec PyProof.Rows L2 PpSet
/-- a set as it is when it is made -/
abbrev bareSet (w : World) : Obj := { cls := .type "set", dict := none, data := .set #[] 0 (.fresh 0 0 (!w.params.followText "set-order")) }
theorem bare_ok (w : World) (h : Heap) : SetR w (h.push (bareSet w)) h.objs.size (fun _ => false) 0 := by
  have led : w.params.followText "set-order" = true ∨ (!w.params.followText "set-order") = true := by
    cases w.params.followText "set-order"
    · right; rfl
    · left; rfl
  refine ⟨bareSet w, #[], 0, _, Heap.get?_push_size _ rfl, ⟨rfl, rfl, rfl⟩, rfl, ?_, ?_, ?_, by decide, rfl, rfl, List.Pairwise.nil, led⟩
  · intro e he; simp at he
  · simp
  · intro k; simp
/-- the new set at D, filled turn by turn -/
def Fills (w : World) (J : It) (g : TG) (tt : TT) (te : TE) (vs : List Nat) (σ : L2.St) (D : Addr) (Q : VK) (W : Nat → Nat → Hp → Prop) : Prop :=
  ∀ i m H, W i m H → (J.stop i H ∧ Q (.ref D) H) ∨ (J.go i H ∧ ∃ N : Hp → Prop, (∀ H', N H' → ∃ m', m' < m ∧ W (i + 1) m' H') ∧
    ∀ x H', J.yld i H x H' → g x (wipe σ vs) H' fun σ2 H2 => wipe σ2 vs = wipe σ vs ∧ tt σ2 H2 fun b H3 => if b = true then te σ2 H3 fun y H4 => rSAdd w (.ref D) [y] H4 fun _ H5 => N H5 else N H3)
def tSetI (w : World) (wi : TI) (g : TG) (tt : TT) (te : TE) (vs : List Nat) : TE := fun σ H Q => wi σ H fun J H1 => ∀ D, H1 D = none →
  ∃ W : Nat → Nat → Hp → Prop, (∃ m, W 0 m (upd H1 D (SetO w D (fun _ => false) 0))) ∧ Fills w J g tt te vs σ D Q W
section
variable {X : Cx}
/-- what a turn leaves known -/
def Known (X : Cx) (Z : Cx) (σw : L2.St) (fp : List Addr) (tn : Nat → Heap → Prop) (W : Nat → Nat → Hp → Prop) (m : Nat) (s : Shared) : Prop :=
  ∃ (i : Nat) (H : Hp), Inv Z [] σw H s ∧ tn i s.heap ∧ (∀ b ∈ fp, H b = none) ∧ W i m H
theorem fill_set {elt tg iter : Expr} {ifs : List Expr} {scope : Scope} {own : List (PySem.Str × Nat)} {pos : Pos} {g : TG} {tt : TT} {te : TE} {pins : List (Addr × Obj)} {σ : L2.St} {H3 : Hp} {s3 : Shared} {it D : Addr} {fp : List Addr} {tn : Nat → Heap → Prop} {J : It} {m0 : Nat} {W : Nat → Nat → Hp → Prop} {Q : VK}
    (calm : X.calm = true) (nod : X.N.Nodup) (blk : BlkOk X.N X.env.scope scope own)
    (target : ∀ (s : Shared) (H : Hp) (C : Addr) (cl : List (PySem.Str × Addr)) (fp : List Addr), PG (X.blk s H scope (compEnvC scope cl C X.env) fp) tg g)
    (tests : ∀ (s : Shared) (H : Hp) (C : Addr) (cl : List (PySem.Str × Addr)) (fp : List Addr), PTs (X.blk s H scope (compEnvC scope cl C X.env) fp) ifs tt)
    (item : ∀ (s : Shared) (H : Hp) (C : Addr) (cl : List (PySem.Str × Addr)) (fp : List Addr), PE (X.blk s H scope (compEnvC scope cl C X.env) fp) elt te)
    (T : Turn X.prog X.w X.K tg J fp it tn) (I3 : Inv X pins σ H3 s3) (off : ∀ b ∈ fp, FpOk X pins H3 b ∧ b < s3.heap.objs.size) (st3 : tn 0 s3.heap) (w0 : W 0 m0 H3) (turn : Fills X.w J g tt te (own.map (·.2)) σ D Q W) :
    codeAny (model X.prog X.w) X.A (.compStart (.SetComp elt [⟨tg, iter, ifs, 0⟩] scope pos) 0 (.ref it) (.ref D) (compEnvC scope (cellsFrom (s3.heap.objs.size + 1) scope.names (cloFrom X.env.cells scope.names [])) s3.heap.objs.size X.env))
      (compPost (model X.prog X.w) X.A X.xe none (EP X pins σ Q) (.ref D) s3.heap.objs.size) { s3 with heap := pushCells (s3.heap.push { cls := .type "dict", data := .dict #[] }) scope.names } := by
  have I4 := block_start I3 blk nod off
  have pg := target s3 H3 s3.heap.objs.size (cellsFrom (s3.heap.objs.size + 1) scope.names (cloFrom X.env.cells scope.names [])) fp
  have pt := tests s3 H3 s3.heap.objs.size (cellsFrom (s3.heap.objs.size + 1) scope.names (cloFrom X.env.cells scope.names [])) fp
  have pe := item s3 H3 s3.heap.objs.size (cellsFrom (s3.heap.objs.size + 1) scope.names (cloFrom X.env.cells scope.names [])) fp
  have st4 : tn 0 (pushCells (s3.heap.push { cls := .type "dict", data := .dict #[] }) scope.names) := T.keep _ _ _ st3 fun _ _ _ e => pushCells_keeps _ _ _ _ (Heap.get?_push_of_some _ e)
  obtain ⟨ce, ece⟩ : ∃ ce : Env, ce = compEnvC scope (cellsFrom (s3.heap.objs.size + 1) scope.names (cloFrom X.env.cells scope.names [])) s3.heap.objs.size X.env := ⟨_, rfl⟩
  have loc : ce.locals = s3.heap.objs.size := by rw [ece]; rfl
  rw [← ece] at I4 pg pt pe ⊢
  -- the places that the walk keeps
  have held : ∀ {σ' : L2.St} {H' : Hp} {s' : Shared}, Inv (X.blk s3 H3 scope ce fp) [] σ' H' s' → (∀ b ∈ fp, H' b = none) → ∀ b ∈ fp, FpOk (X.blk s3 H3 scope ce fp) [] H' b := by
    intro σ' H' s' I' none' b hb
    refine ⟨none' b hb, (I'.ok.exf b hb).1, I'.ok.exfs b hb, .inl hb, (I'.ok.exf b hb).2, fun p hp => ?_⟩
    simp at hp
  have all : codeAny (model X.prog X.w) X.A (.compLoop (.SetComp elt [⟨tg, iter, ifs, 0⟩] scope pos) 0 (.ref it) (.ref D) ce) (compPost (model X.prog X.w) X.A X.xe none (EP X pins σ Q) (.ref D) s3.heap.objs.size) { s3 with heap := pushCells (s3.heap.push { cls := .type "dict", data := .dict #[] }) scope.names } := by
    refine compLoopS_any (Known X (X.blk s3 H3 scope ce fp) (wipe σ (own.map (·.2))) fp tn W) (fun m s5 known => ?_) m0 ⟨0, H3, I4, st4, fun b hb => (off b hb).1.1, w0⟩
    obtain ⟨i, H5, I5, st5, none5, w5⟩ := known
    cases turn i m H5 w5 with
    | inl ended =>
      refine thnF (T.done (X.blk s3 H3 scope ce fp) rfl rfl rfl calm i [] s5 _ H5 (fun _ _ => False) I5 (held I5 none5) st5 ended.1) fun r s6 hr => ?_
      obtain ⟨rfl, I6⟩ := hr
      have back : Inv X pins σ H5 s6 := I3.call' (ch := fp) I6.os I6.base I6.hok I6.bare fun b hb => by
        obtain ⟨⟨_, f1, f2, f3, f4, f5⟩, _⟩ := off b hb
        exact ⟨f3, f1, f4, f5⟩
      have noL : H5 s3.heap.objs.size = none := by rw [← loc]; exact I6.free
      obtain ⟨mm, names, _⟩ := I6.loc
      have names' : s6.heap.Ns s3.heap.objs.size mm := by rw [← loc]; exact names
      obtain ⟨f0, f1, f2, f3, f4, f5⟩ := I3.fpOk (Nat.le_refl _) noL
      exact ⟨mm, names', fun h' same => ⟨.ref D, H5, back.turned (t' := s6.toks) (fun b o hb e => (same.2 b hb).trans e) f0 f1 f3 f4 f5, rfl, ended.2⟩⟩
    | inr goes =>
      obtain ⟨go, N, hN, step⟩ := goes
      refine thnF (T.item (X.blk s3 H3 scope ce fp) rfl rfl rfl calm i [] s5 _ H5 (fun _ _ => False) I5 (held I5 none5) st5 go) fun r s6 hr => ?_
      obtain ⟨u, rfl, h6⟩ := hr
      refine thnF h6 fun _ s7 h7 => ?_
      obtain ⟨x, H7, I7, r7, y7, st7, none7⟩ := h7
      refine thnF (pg.run _ s7 _ H7 x u _ (I7.pinned (held I7 none7) (T.obj _ _ st7)) r7 (step x H7 y7)) fun _ s8 h8 => ?_
      obtain ⟨σ8, H8, I8, wiped, q8⟩ := h8
      refine thnF (pt.run _ s8 σ8 H8 _ I8 q8) fun b s9 h9 => ?_
      obtain ⟨H9, I9, q9⟩ := h9
      have next : ∀ {s' : Shared} {H' : Hp}, Inv (X.blk s3 H3 scope ce fp) ([] ++ pinsAt fp s7.heap) σ8 H' s' → N H' → ∃ m', m' < m ∧ Known X (X.blk s3 H3 scope ce fp) (wipe σ (own.map (·.2))) fp tn W m' s' := by
        intro s' H' I' nx
        obtain ⟨m', lt, w'⟩ := hN H' nx
        have kept : ∀ b ∈ fp, ∀ o, s7.heap.get? b = some o → s'.heap.get? b = some o ∧ H' b = none := by
          intro b hb o e
          obtain ⟨z1, z2, _⟩ := I'.pin (b, o) (List.mem_append_right _ (List.mem_append_right _ (mem_pinsAt hb e)))
          exact ⟨z1, z2⟩
        have len : (wipe σ (own.map (·.2))).length = σ8.length := by rw [← wiped, wipe_length]
        refine ⟨m', lt, i + 1, H', (I'.unpinned (pins := [])).weak len (fun j v e => ?_), T.keep _ _ _ st7 fun b hb o e => (kept b hb o e).1, fun b hb => ?_, w'⟩
        · rw [← wiped] at e
          exact (wipe_some e).1
        · obtain ⟨o, e, _⟩ := T.obj _ _ st7 b hb
          exact (kept b hb o e).2
      cases b with
      | false =>
        rw [if_neg Bool.false_ne_true] at q9 ⊢
        exact next I9 q9
      | true =>
        rw [if_pos rfl] at q9 ⊢
        refine thnF (pe.run _ s9 σ8 H9 _ I9 q9) fun z s10 h10 => ?_
        obtain ⟨yv, H10, I10, r10, adds⟩ := h10
        refine thnF (mt_sadd (X := X.blk s3 H3 scope ce fp) _ s10 σ8 H10 (.ref D) [yv] (.ref D) [z] _ I10 rfl (.cons r10 .nil) adds) fun _ s11 h11 => ?_
        obtain ⟨_, H11, I11, _, nx⟩ := h11
        exact next I11 nx
  exact codeAny_compStart_set all (T.self X.A 0 _ _ _ st4 all)
theorem pe_setI {elt tg iter : Expr} {ifs : List Expr} {scope : Scope} {own : List (PySem.Str × Nat)} {pos : Pos} {wi : TI} {g : TG} {tt : TT} {te : TE} (calm : X.calm = true) (nod : X.N.Nodup) (walked : PI X tg iter wi) (blk : BlkOk X.N X.env.scope scope own)
    (target : ∀ (s : Shared) (H : Hp) (C : Addr) (cl : List (PySem.Str × Addr)) (fp : List Addr), PG (X.blk s H scope (compEnvC scope cl C X.env) fp) tg g)
    (tests : ∀ (s : Shared) (H : Hp) (C : Addr) (cl : List (PySem.Str × Addr)) (fp : List Addr), PTs (X.blk s H scope (compEnvC scope cl C X.env) fp) ifs tt)
    (item : ∀ (s : Shared) (H : Hp) (C : Addr) (cl : List (PySem.Str × Addr)) (fp : List Addr), PE (X.blk s H scope (compEnvC scope cl C X.env) fp) elt te) (plain : ∀ x, foldedSetIterable iter X.env x = pure x := by intro _; rfl) :
    PE X (.SetComp elt [⟨tg, iter, ifs, 0⟩] scope pos) (tSetI X.w wi g tt te (own.map (·.2))) := by
  refine ⟨fun pins s σ H Q I asked => ?_⟩
  rw [eval_SetComp]
  have caught : ∀ y ∈ scope.names, y.2 = .free → ∃ c, X.env.cells.lookup y.1 = some c := by
    intro y hy e
    cases blk.free y hy e with
    | inl k => exact I.ok.has _ (.inl k)
    | inr k => exact I.ok.has _ (.inr k)
  refine wpAny_comprehension_free (use := none) rfl plain (closure_ok caught) blk.kind (fun y hy e => by rw [blk.uniq y hy, e]) ?_
  refine thn (walked.run pins s σ H _ I asked) fun _ _ h1 => thn h1 fun _ s2 h2 => ?_
  obtain ⟨it, fp, tn, J, H2, rfl, I2, T, st2, off2, fill⟩ := h2
  refine newSet_ok (newEnv_comp ?_)
  have free0 : H2 s2.heap.objs.size = none := I2.hok.fresh (Nat.le_refl _)
  obtain ⟨W, ⟨m0, w0⟩, turn⟩ := fill s2.heap.objs.size free0
  have I3 : Inv X pins σ (upd H2 s2.heap.objs.size (SetO X.w s2.heap.objs.size (fun _ => false) 0)) { s2 with heap := s2.heap.push (bareSet X.w) } :=
    I2.laid (t' := s2.toks) (fun _ _ e => Heap.get?_push_of_some _ e) (Nat.le_refl _) (setO_new (bare_ok X.w s2.heap))
  have below : ∀ b ∈ fp, b < s2.heap.objs.size := by
    intro b hb
    obtain ⟨o, e, _⟩ := T.obj _ _ st2 b hb
    exact Heap.lt_size e
  have off3 : ∀ b ∈ fp, FpOk X pins (upd H2 s2.heap.objs.size (SetO X.w s2.heap.objs.size (fun _ => false) 0)) b ∧ b < (s2.heap.push (bareSet X.w)).objs.size := by
    intro b hb
    refine ⟨⟨?_, (off2 b hb).2⟩, by rw [Heap.size_push]; exact Nat.lt_succ_of_lt (below b hb)⟩
    rw [upd_ne (Nat.ne_of_lt (below b hb))]
    exact (off2 b hb).1
  exact fill_set calm nod blk target tests item T I3 off3 (T.keep _ _ _ st2 fun _ _ _ e => Heap.get?_push_of_some _ e) w0 turn
end
end WS
set_option Elab.async false
set_option linter.all false
set_option maxRecDepth 100000
set_option maxHeartbeats 2000000
/-! t[::-1]; tuple * int for 0 and 1. -/
namespace WR
open PySem PySem.Spec PyProof.Rows L2
section
variable {prog : Program} {w : World} {A : Around} {E : Value → Shared → Prop} {s : Shared}
theorem adjust_back (n : Nat) : Builtin.Slice.sliceAdjust none none (-1) (n : Int) = ((n : Int) - 1, -1) := by
  unfold Builtin.Slice.sliceAdjust
  simp
theorem places_back (n : Nat) : Builtin.Slice.slicePlaces ((n : Int) - 1) (-1) (-1) = n := by
  unfold Builtin.Slice.slicePlaces
  have h1 : ¬ ((-1 : Int) > 0) := by omega
  simp only [h1, if_false]
  rw [show (- -1 : Int) = 1 by decide, Int.ediv_one]
  split <;> omega
theorem fm_congr {α β : Type} {f g : α → Option β} : ∀ {l : List α}, (∀ m ∈ l, f m = g m) → l.filterMap f = l.filterMap g
  | [], _ => rfl
  | a :: t, h => by
    rw [List.filterMap_cons, List.filterMap_cons, h a List.mem_cons_self, fm_congr fun m hm => h m (List.mem_cons_of_mem _ hm)]
theorem pick_back (xs : Array Value) : ((List.range xs.size).filterMap fun (m : Nat) => xs[((xs.size : Int) - 1 + (m : Int) * (-1)).toNat]?).toArray = xs.toList.reverse.toArray := by
  have e : (List.range xs.size).filterMap (fun (m : Nat) => xs[((xs.size : Int) - 1 + (m : Int) * (-1)).toNat]?) = ((List.range xs.size).map fun k => xs.size - 1 - k).filterMap (xs[·]?) := by
    rw [List.filterMap_map]
    refine fm_congr fun m hm => ?_
    have hm2 := List.mem_range.mp hm
    have : ((xs.size : Int) - 1 + (m : Int) * (-1)).toNat = xs.size - 1 - m := by omega
    rw [this]
    rfl
  rw [e, PySem.W.krv_range, List.filterMap_reverse, PySem.W.krv_all]
theorem sliceApplied_back {sl : Addr} {vl vu vs : Value} {n : Nat} {Q : Int × Int × Nat → Shared → Prop} (hs : s.heap.IsSliceOf sl vl vu vs) (pl : IsPart vl none) (pu : IsPart vu none) (ps : IsPart vs (some (-1)))
    (h : Q ((n : Int) - 1, -1, n) s) : wpAny (model prog w) A (Builtin.Slice.sliceApplied (.ref sl) (pure (n : Int))) Q E s := by
  obtain ⟨os, hos, hcs, hds⟩ := id hs
  unfold Builtin.Slice.sliceApplied Builtin.Slice.sliceFields
  refine wpAny_bind (wpAny_bind (wpAny_field hos hds (x := vl) rfl (wpAny_bind (wpAny_field hos hds (x := vu) rfl (wpAny_bind (wpAny_field hos hds (x := vs) rfl (wpAny_pure ?_)))))))
  refine wpAny_bind (HT.slicePart_ ps ?_)
  show wpAny _ _ (if ((-1 : Int) == 0) = true then _ else _) _ _ s
  rw [if_neg (by decide)]
  refine wpAny_bind (HT.slicePart_ pl (wpAny_bind (HT.slicePart_ pu (wpAny_bind (wpAny_pure ?_)))))
  show wpAny _ _ (match Builtin.Slice.sliceAdjust none none (-1) (n : Int) with | (lo, hi) => pure (lo, (-1 : Int), Builtin.Slice.slicePlaces lo hi (-1))) _ _ s
  rw [adjust_back n]
  show wpAny _ _ (pure ((n : Int) - 1, (-1 : Int), Builtin.Slice.slicePlaces ((n : Int) - 1) (-1) (-1))) _ _ s
  rw [places_back]
  exact wpAny_pure h
theorem getItem_tuple_back {t sl : Addr} {items : Array Value} {vl vu vs : Value} {Q : Value → Shared → Prop} (ht : IsTup s.heap t items) (hs : s.heap.IsSliceOf sl vl vu vs) (pl : IsPart vl none) (pu : IsPart vu none) (ps : IsPart vs (some (-1)))
    (h : Q (.ref s.heap.objs.size) { s with heap := s.heap.push { cls := .type "tuple", data := .seq items.toList.reverse.toArray } })
    (hsz : items.size ≤ sizeLine) : wpAny (model prog w) A (getItem (.ref t) (.ref sl)) Q E s := by
  have htake : sizeOk (.seq items.toList.reverse.toArray) := by
    show items.toList.reverse.toArray.size ≤ sizeLine
    rw [List.size_toArray, List.length_reverse, Array.length_toList]
    exact hsz
  obtain ⟨os, hos, hcs, hds⟩ := id hs
  have hTs : s.TypeIs (.ref sl) "slice" := ⟨os, hos, hcs⟩
  unfold getItem
  try with_reducible refine wpAny_holding ?_
  first | refine wpAny_bind (wpAny_pure ?_) | skip
  refine wpAny_bind (wpAny_sequenceKey ht.typeIs (by decide) ?_)
  refine wpAny_bind (wpAny_callSpecial?_slot (name := Str.ofString "__getitem__") ht.typeIs PyProof.Rows.slot_tuple_getitem
    (wpAny_call_entry PyProof.Rows.slot_tuple_getitem ht.typeIs entry_tuple_getitem ?_ (args_tuple_getitem _ _)))
  show wpAny _ _ (Builtin.Tuple.tupleItemsOf (.ref t) >>= _) _ _ s
  refine wpAny_bind (tupleItemsOf_ ht ?_)
  refine wpAny_bind (wpAny_typeOf hTs ?_)
  rw [if_pos (by decide)]
  refine wpAny_bind (sliceApplied_back hs pl pu ps ?_)
  have hno : ¬ ((((items.size : Int) - 1) == 0 && (-1 : Int) == 1 && items.size == items.size) = true) := by
    intro q
    rw [Bool.and_eq_true, Bool.and_eq_true] at q
    exact absurd q.1.2 (by decide)
  show wpAny _ _ (if (((items.size : Int) - 1) == 0 && (-1 : Int) == 1 && items.size == items.size) = true then _ else _) _ _ s
  rw [if_neg hno, pick_back]
  first
    | exact wpAny_bind (m := Builtin.Tuple.tupleExact _) (wpAny_newObj_type (wpAny_pure ⟨_, rfl, wpAny_pure h⟩) htake)
    | exact wpAny_bind (m := Builtin.Tuple.tupleExact _) (wpAny_newObj_type (wpAny_bind (wpAny_pure (wpAny_pure ⟨_, rfl, wpAny_pure h⟩))) htake)
end
section
variable {X : Cx}
def tRevT (K : PySem.W.Frag) (te : TE) : TE := fun σ H Q => te σ H fun x H1 => ∃ a xs, x = .ref a ∧ SqT K H1 a xs ∧ ∀ p, H1 p = none → Q (.ref p) (upd H1 p (.tup xs.reverse))
theorem pe_revT {e : Expr} {te : TE} {k : Nat} {p1 p2 p3 pos : Pos} (he : PE X e te) : PE X (.Subscript e (.Slice none none (some (.UnaryOp .USub (.Constant (.int 1) k p1) p2)) p3) pos) (tRevT X.K te) := by
  refine ⟨fun pins s σ H Q I h => ?_⟩
  refine Subscript_ (thn (he.run pins s σ H _ I h) fun v s1 ⟨x, H1, I1, r1, q1⟩ => ?_)
  obtain ⟨a, xs, ex, hx, q⟩ := q1
  subst ex
  cases r1
  have hst : PO X (some (.UnaryOp .USub (.Constant (.int 1) k p1) p2)) (tPart (tUn (rU fun i => .int (-i)) (tC (.int 1)))) := po_some (pe_un un_neg pe_int)
  refine wpAny_Slice (thn (po_none.run pins s1 σ H1 (fun o H2 => o = none ∧ H2 = H1) I1 ⟨rfl, rfl⟩) fun vl s2 ⟨l, H2, I2, pl, el, e2⟩ => ?_)
  subst el e2
  refine thn (po_none.run pins s2 σ H2 (fun o H3 => o = none ∧ H3 = H2) I2 ⟨rfl, rfl⟩) fun vu s3 ⟨u, H3, I3, pu, eu, e3⟩ => ?_
  subst eu e3
  refine thn (hst.run pins s3 σ H3 (fun o H4 => o = some (-1) ∧ H4 = H3) I3 ⟨1, rfl, -1, rfl, rfl, rfl⟩) fun vs s4 ⟨o, H4, I4, ps, eo, e4⟩ => ?_
  subst eo e4
  have I5 : Inv X pins σ H4 { s4 with heap := s4.heap.push { cls := .type "slice", data := .fields #[vl, vu, vs] } } := I4.kept (t' := s4.toks) fun b ob q => Heap.get?_push_of_some _ q
  obtain ⟨its, r, ht, hz⟩ := I5.tuple hx
  have hlen := r.length
  show wpAny (model X.prog X.w) X.A (subscriptTail e (.Slice none none (some (.UnaryOp .USub (.Constant (.int 1) k p1) p2)) p3) (.ref a) (.ref s4.heap.objs.size)) (EP X pins σ Q) X.xe { s4 with heap := s4.heap.push { cls := .type "slice", data := .fields #[vl, vu, vs] } }
  refine tail_any (ops := [.ref a, .ref s4.heap.objs.size]) ht.typeIs (PyProof.Rows.slot_tuple_getitem.lookup) ?_ (by with_unfolding_all rfl)
  refine getItem_tuple_back ht (Heap.IsSliceOf.new _ vl vu vs) pl pu ps ?_ (by rw [List.size_toArray]; omega)
  refine ⟨.ref _, _, I5.laid (t' := s4.toks) (o := .tup xs.reverse) (fun b ob q => Heap.get?_push_of_some _ q) (Nat.le_refl _) ?_, rfl, q _ (I5.hok.fresh (Nat.le_refl _))⟩
  exact ⟨by rw [List.length_reverse]; exact hz, _, r.reverse, IsTup.new _ _⟩
end

theorem tuple_mulS (l : Addr) (items : Array Value) (n : Nat) (dd : Option Addr) (sl : Array (Option Value)) (x : Int) (u : Tok) (c0 : (decide (x < -(2 ^ 63)) || decide (x ≥ 2 ^ 63)) = false) (c1 : (items.isEmpty || x == 1) = true) :
    Meets (Builtin.«tuple.__mul__» ⟨[.ref l, .int x u], []⟩) (fun _ R s => s.heap.get? l = some { cls := .type "tuple", dict := dd, data := .seq items n, slots := sl } ∧
      R (.ok (.ret (Value.ref l))) { s with heap := s.heap, toks := s.toks }) :=
  .of_wp fun prog w A R s h => by
    obtain ⟨hp, g, d, tk, os⟩ := s
    obtain ⟨hl, h⟩ := h
    have f1 := AutoSeq1.idx_int
    wp_walk using wpAny_loadPart' hl
    repeat (first
      | (refine wpAny_ite_false (decide_eq_false (by rw [c0]; exact Bool.false_ne_true)) ?_; wp_walk using wpAny_loadPart' hl)
      | (refine wpAny_ite_true (decide_eq_true c1) ?_; wp_walk using wpAny_loadPart' hl)
      | (refine wpAny_ite_true c1 ?_; wp_walk using wpAny_loadPart' hl))
    exact ⟨_, rfl, h⟩
theorem tuple_mul0 (l : Addr) (items : Array Value) (n : Nat) (dd : Option Addr) (sl : Array (Option Value)) (x : Int) (u : Tok) (c0 : (decide (x < -(2 ^ 63)) || decide (x ≥ 2 ^ 63)) = false) (c1 : (items.isEmpty || x == 1) = false) (c2 : (decide (x ≤ 0) || items.isEmpty) = true) :
    Meets (Builtin.«tuple.__mul__» ⟨[.ref l, .int x u], []⟩) (fun _ R s => s.heap.get? l = some { cls := .type "tuple", dict := dd, data := .seq items n, slots := sl } ∧
      R (.ok (.ret (Value.ref s.heap.objs.size))) { s with heap := s.heap.push { cls := Value.type "tuple", data := Data.seq #[] }, toks := s.toks }) :=
  .of_wp fun prog w A R s h => by
    obtain ⟨hp, g, d, tk, os⟩ := s
    obtain ⟨hl, h⟩ := h
    have f1 := AutoSeq1.idx_int
    wp_walk using wpAny_loadPart' hl
    repeat (first
      | (refine wpAny_ite_false (decide_eq_false (by rw [c0]; exact Bool.false_ne_true)) ?_; wp_walk using wpAny_loadPart' hl)
      | (refine wpAny_ite_false (decide_eq_false (by rw [c1]; exact Bool.false_ne_true)) ?_; wp_walk using wpAny_loadPart' hl)
      | (refine wpAny_ite_true (decide_eq_true c2) ?_; wp_walk using wpAny_loadPart' hl))
    exact ⟨_, rfl, h⟩
/-- some tuple of these values, all else as it stood -/
def NewT (K : PySem.W.Frag) (H : Hp) (Q : VK) (xs : List V) : Prop := ∀ p H', Same H H' → SqT K H' p xs → Q (.ref p) H'
theorem same_upd {H : Hp} {p : Addr} {o : HO} (hp : H p = none) : Same H (upd H p o) := fun b u e => by
  rw [upd_ne (ne_of_none e hp)]
  exact e
theorem Same.seqT {K : PySem.W.Frag} {H H' : Hp} {a : Addr} {xs : List V} (e : Same H H') (h : SqT K H a xs) : SqT K H' a xs := by
  rcases h with h | h
  · left
    rcases h with h | ⟨o, h⟩
    · exact .inl (e _ _ h)
    · exact .inr ⟨o, e _ _ h⟩
  · exact .inr h
theorem NewT.self {K : PySem.W.Frag} {H : Hp} {Q : VK} {xs : List V} {a : Addr} (k : NewT K H Q xs) (h : SqT K H a xs) : Q (.ref a) H := k a H (Same.refl H) h
theorem NewT.new {K : PySem.W.Frag} {H : Hp} {Q : VK} {xs : List V} (k : NewT K H Q xs) {p : Addr} (hp : H p = none) : Q (.ref p) (upd H p (.tup xs)) := k p _ (same_upd hp) (SqT.of upd_same)
section
variable {X : Cx}
def rSlU (K : PySem.W.Frag) : V → Option Int → Option Int → Hp → VK → Prop := fun x lo hi H Q => ∃ a xs, x = .ref a ∧ SqT K H a xs ∧ NewT K H Q (cutV xs lo hi)
theorem sl_tupU : SlR X (rSlU X.K) := by
  intro pins s σ H x v vl vu lo hi sl Q I rx hs pl pu h
  obtain ⟨a, xs, rfl, hx, k⟩ := h
  refine sl_tupA pins s σ H _ v vl vu lo hi sl Q I rx hs pl pu ⟨a, xs, rfl, hx, fun e => ?_, fun _ p hp => k.new hp⟩
  refine k.self ?_
  have : cutV xs lo hi = xs := by
    unfold cutV
    rw [e.1, e.2, List.drop_zero, Nat.sub_zero, List.take_of_length_le (Nat.le_refl _)]
  rw [this]
  exact hx
def rCatU (K : PySem.W.Frag) : R2 := fun x y H Q => ∃ a b xs ys, x = .ref a ∧ y = .ref b ∧ SqT K H a xs ∧ SqT K H b ys ∧ xs.length + ys.length ≤ sizeLine ∧ NewT K H Q (xs ++ ys)
theorem op_catU : OpR X (binaryOp .Add) (rCatU X.K) := by
  intro pins s σ H x y v u Q I rx ry h
  obtain ⟨a, b, xs, ys, rfl, rfl, ha, hb, hz, k⟩ := h
  by_cases hx : xs = []
  · subst hx
    cases rx
    cases ry
    obtain ⟨its, r1, p1, _⟩ := I.tuple ha
    obtain ⟨its2, r2, p2, _⟩ := I.tuple hb
    cases r1
    obtain ⟨⟨cls, dd, data, sl⟩, ho, hc, n, hd⟩ := id p1
    obtain ⟨⟨cls2, dd2, data2, sl2⟩, ho2, hc2, n2, hd2⟩ := id p2
    simp only at hc hd hc2 hd2
    subst hc hd hc2 hd2
    exact concat_meets ⟨_, ho, rfl⟩ ⟨_, ho2, rfl⟩ noFill_tuple_add seq_tuple_add PySem.F.slot_tuple_add PySem.F.entry_tuple_add (PySem.F.args_tuple_add_2 _ _)
      (tuple_addW0 a b _ its2.toArray n n2 dd dd2 sl sl2 (by simp)) ⟨ho, ho2, ⟨.ref b, H, I, rfl, k.self hb⟩⟩
  · refine op_catT pins s σ H _ _ v u Q I rx ry ⟨a, b, xs, ys, rfl, rfl, ha, hb, hx, hz, fun e => ?_, fun _ p hp => k.new hp⟩
    subst e
    rw [List.append_nil] at k
    exact k.self ha
def rRepU (K : PySem.W.Frag) : R2 := fun x y H Q => ∃ l k xs, x = .ref l ∧ y = .int k ∧ SqT K H l xs ∧ 0 ≤ k ∧ k ≤ 1000 ∧ xs.length ≤ 1000 ∧ NewT K H Q (List.replicate k.toNat xs).flatten
theorem op_repU : OpR X (binaryOp .Mult) (rRepU X.K) := by
  intro pins s σ H x y v u Q I rx ry h
  obtain ⟨l, k, xs, rfl, rfl, hT, h1, h2, hz, kq⟩ := h
  by_cases hne : xs ≠ [] ∧ 2 ≤ k
  · exact op_repT pins s σ H _ _ v u Q I rx ry ⟨l, k, xs, rfl, rfl, hT, hne.1, hne.2, h2, hz, fun p hp => kq.new hp⟩
  cases rx
  obtain ⟨t, rfl⟩ := ry
  obtain ⟨its, r, ⟨⟨cls, dd, data, sl⟩, ho, hc, n, hd⟩, hs⟩ := I.tuple hT
  simp only at hc hd
  subst hc hd
  have c0 : (decide (k < -(2 ^ 63)) || decide (k ≥ 2 ^ 63)) = false := by
    rw [decide_eq_false (by omega), decide_eq_false (by omega)] <;> rfl
  by_cases hs1 : (its.toArray.isEmpty || k == 1) = true
  · refine wpAny_binaryOp_repeat_ref (T := "tuple") (U := "int") (by decide) ⟨_, ho, rfl⟩ (fun s' => typeIs_int s' k t) noFill_tuple_mul F.fills_int_mul F.slot_int_rmul repeat_tuple F.slot_int_index.lookup
      (call_meets F.slot_int_rmul (typeIs_int s k t) F.entry_int_rmul (F.args_int_rmul_2 _ _) (int_rmul_tuple k t l its.toArray n dd sl)
        ⟨ho, rfl, ⟨_, ho, rfl⟩, call_meets F.slot_tuple_mul ⟨_, ho, rfl⟩ F.entry_tuple_mul (F.args_tuple_mul_2 _ _) (tuple_mulS l its.toArray n dd sl k t c0 hs1) ⟨ho, ?_⟩⟩)
    refine ⟨.ref l, H, I, rfl, kq.self ?_⟩
    rw [Bool.or_eq_true] at hs1
    rcases hs1 with e | e
    · have ei : its = [] := by simpa using e
      have ex : xs = [] := by
        have := r.length
        rw [ei] at this
        exact List.eq_nil_of_length_eq_zero this
      subst ex
      have : (List.replicate k.toNat ([] : List V)).flatten = [] := by simp
      rw [this]
      exact hT
    · have : k = 1 := eq_of_beq e
      subst this
      have : (List.replicate (1 : Int).toNat xs).flatten = xs := by simp
      rw [this]
      exact hT
  · have hs1' : (its.toArray.isEmpty || k == 1) = false := by
      cases e : (its.toArray.isEmpty || k == 1) with
      | false => rfl
      | true => exact absurd e hs1
    have hxs : xs ≠ [] := fun e => by
      subst e
      cases r
      exact hs1 rfl
    have k1 : k ≠ 1 := fun e => by
      rw [e] at hs1'
      simp at hs1'
    have k0 : k = 0 := by
      have : ¬ 2 ≤ k := fun e => hne ⟨hxs, e⟩
      omega
    subst k0
    refine wpAny_binaryOp_repeat_ref (T := "tuple") (U := "int") (by decide) ⟨_, ho, rfl⟩ (fun s' => typeIs_int s' 0 t) noFill_tuple_mul F.fills_int_mul F.slot_int_rmul repeat_tuple F.slot_int_index.lookup
      (call_meets F.slot_int_rmul (typeIs_int s 0 t) F.entry_int_rmul (F.args_int_rmul_2 _ _) (int_rmul_tuple 0 t l its.toArray n dd sl)
        ⟨ho, rfl, ⟨_, ho, rfl⟩, call_meets F.slot_tuple_mul ⟨_, ho, rfl⟩ F.entry_tuple_mul (F.args_tuple_mul_2 _ _) (tuple_mul0 l its.toArray n dd sl 0 t c0 hs1' rfl) ⟨ho, ?_⟩⟩)
    refine ⟨.ref s.heap.objs.size, _, I.laid (t' := s.toks) (o := .tup []) (fun b ob q => Heap.get?_push_of_some _ q) (Nat.le_refl _) ?_, rfl, kq.new (xs := []) (I.hok.fresh (Nat.le_refl _))⟩
    exact ⟨Nat.zero_le _, [], .nil, IsTup.new _ _⟩
end
end WR
set_option Elab.async false
set_option linter.all false
set_option maxRecDepth 100000
set_option maxHeartbeats 2000000
/-! Words: rows of letters. -/
namespace W55
open PySem L2 PySem.Spec PyProof.Rows WR
def top (i : Nat) : Stmt := PySem.Challenge.pw_handlerims_k55_squares_of_words_and_what.main.body.getD i (.Pass ⟨0, 0, 0, 0⟩)
abbrev sCon : Stmt := top 8
abbrev sShr : Stmt := top 9
abbrev sRnd : Stmt := top 10

theorem gen_heap {P : Hp → Prop} {H : Hp} (h : ∀ H3, H3 = H → P H3) : P H := h H rfl
theorem yes_te {σ : L2.St} {H : Hp} {A B : Hp → Prop} (h : A H) : tYes σ H (fun b H3 => if b = true then A H3 else B H3) := by
  show (if (true : Bool) = true then A H else B H)
  exact iteT h
/-! ### a def that the module's name x holds, with its promise -/
structure Cal (P : Program) (w : World) (K : PySem.W.Frag) (mg : Str → Option Value) (base : Heap) (x : Str) (k : Nat) (ps : List Str) (sp : Sp) : Prop where
  ex : ∃ (f : Addr) (fd : FuncData), FnOk P w K mg base CX0 k f fd ps sp ∧ mg x = some (.ref f) ∧ PySem.W.keepIn K (.ref f) = true ∧ Binds K fd ps []
section
variable {X : Cx} {x : Str} {k j : Nat} {ps : List Str} {sp : Sp} {p pos : Pos} {e : Expr} {es : List Expr} {t : TA}
theorem pe_cal (C : Cal X.prog X.w X.K X.mg X.base x k ps sp) (hr : Room j X.A) (hkj : k ≤ j) (hg : Gl X x) (ha : PA X (e :: es) t) (hdb : (x == ("__debug__" : Str)) = false := by decide)
    (he : starEach (e :: es) X.env = (false, eval e X.env) :: starEach es X.env := by rfl) (hpl : (backTo pos (starEach es X.env)).any (·.1) = false := by rfl) :
    PE X (.Call (.Name x p) (e :: es) [] pos) (tCall sp [] E0 t) := by
  obtain ⟨f, fd, F, hm, hk, hb⟩ := C.ex
  exact pe_call F (hr.mono hkj) hg hm hk hb .nil pass0 ha hdb he hpl
end
/-! ### comprehensions that change nothing -/
theorem lc_in {wi : TI} {g : TG} {tt : TT} {te : TE} {vs : List Nat} {σ : L2.St} {H : Hp} {Q : VK} (h : wi σ H fun J H1 => tLc (fun _ H R => R J H) g tt te vs σ H1 Q) : tLc wi g tt te vs σ H Q := h
theorem lcp {J : It} {xs : List V} {G : Hp → Prop} (w : Walk J xs.length G (YAt xs)) {g : TG} {tt : TT} {te : TE} {vs : List Nat} {σ : L2.St} {H1 : Hp} {Q : VK} (f : V → Bool) (v : V → V) (hz : xs.length < 40000) (hG : ∀ H, Same H1 H → G H)
    (hs : ∀ x, x ∈ xs → ∀ H, Same H1 H → ∀ (Qy : V → Hp → Prop) (Qn : Hp → Prop), (f x = true → ∀ H', Same H H' → Qy (v x) H') → (f x = false → ∀ H', Same H H' → Qn H') →
      g x (wipe σ vs) H fun σ2 H2 => wipe σ2 vs = wipe σ vs ∧ tt σ2 H2 fun b H3 => if b = true then te σ2 H3 Qy else Qn H3)
    (hd : ∀ (D : Addr) H', H1 D = none → Same H1 H' → H' D = some (.lst ((xs.filter f).map v)) → Q (.ref D) H') : tLc (fun _ H R => R J H) g tt te vs σ H1 Q := by
  intro D hD
  refine lc_it w (fun i H => Same H1 H ∧ H D = some (.lst (((xs.take i).filter f).map v))) ⟨fun b o e => by rw [upd_ne (ne_of_none e hD)]; exact e, upd_same⟩ (fun i H _ q => hG H q.1) ?_ ?_
  · rintro i x H H' hi q ⟨rfl, hx⟩
    have hm : x ∈ xs := List.mem_of_getElem? hx
    have et : xs.take (i + 1) = xs.take i ++ [x] := by
      have hx2 : xs[i] = x := (List.getElem?_eq_some_iff.mp hx).2
      rw [List.take_succ_eq_append_getElem hi, hx2]
    refine hs x hm H' q.1 _ _ (fun hf H2 s2 => ⟨_, s2 _ _ q.2, ?_, ?_, ?_⟩) (fun hf H2 s2 => ⟨fun b o e => s2 b o (q.1 b o e), ?_⟩)
    · refine Evl.sz_lt ?_
      rw [List.length_map]
      have := List.length_filter_le f (xs.take i)
      rw [List.length_take] at this
      omega
    · intro b o e
      rw [upd_ne (ne_of_none e hD)]
      exact s2 b o (q.1 b o e)
    · rw [upd_same, et, List.filter_append, List.map_append, List.filter_cons, if_pos hf]
      rfl
    · rw [et, List.filter_append, List.filter_cons, if_neg (by rw [hf]; decide)]
      show H2 D = some (.lst (((xs.take i).filter f ++ []).map v))
      rw [List.append_nil]
      exact s2 _ _ q.2
  · intro H q
    have q2 := q.2
    rw [List.take_length] at q2
    exact hd D H hD q.1 q2

theorem ret_cb {r : List V → Hp → VK → Prop} {te : TE} {D : Ends} {σ : L2.St} {H : Hp} (h : te σ H fun x H1 => r [x] H1 D.rt) : tRet (tCB r (tCons te tNil)) D σ H := h
theorem ret_e {te : TE} {D : Ends} {σ : L2.St} {H : Hp} (h : te σ H D.rt) : tRet te D σ H := h
theorem iteT' {c : Bool} {A B : Prop} (hc : c = true) (h : A) : if c = true then A else B := by rw [if_pos hc]; exact h
abbrev iv (ns : List Int) : List V := ns.map V.int
def SqE (K : PySem.W.Frag) (H : Hp) (a : Addr) (xs : List V) : Prop := SqL K H a xs ∨ SqT K H a xs
theorem SqE.same {K : PySem.W.Frag} {H H' : Hp} {a : Addr} {xs : List V} (h : SqE K H a xs) (s : Same H H') : SqE K H' a xs := by
  rcases h with h | h
  · exact .inl (s.seq h)
  · exact .inr (WR.Same.seqT s h)
def spCon (K : PySem.W.Frag) : Sp := fun vs H Q _ => ∃ (a : Addr) (ns : List Int), vs = [.ref a] ∧ SqT K H a (iv ns) ∧ ns.length ≤ 1000 ∧ NewT K H Q (iv (Fr.con ns))
def spShr (K : PySem.W.Frag) : Sp := fun vs H Q _ => ∃ (a : Addr) (ns : List Int), vs = [.ref a] ∧ SqE K H a (iv ns) ∧ ns.length ≤ 1000 ∧ NewT K H Q (iv (Fr.shr ns))
def spRnd (K : PySem.W.Frag) : Sp := fun vs H Q _ => ∃ (a : Addr) (ns : List Int), vs = [.ref a] ∧ SqE K H a (iv ns) ∧ ns.length ≤ 1000 ∧ Fr.NZ ns ∧ NewT K H Q (iv (Fr.rnd ns))
structure TxA (mg : Str → Option Value) : Prop where
  tuple : mg "tuple" = none
  len : mg "len" = none
section
variable {P : Program} {w : World} {K : PySem.W.Frag} {mg : Str → Option Value} {base : Heap}
theorem scCon : FnScope ["letters", "letter"] ["letters"] (defScope sCon) := ⟨rfl, rfl, rfl, by decide +kernel, rfl, by decide +kernel, by decide +kernel⟩
theorem ok_con {f : Addr} {fd : FuncData} (F : Fun K "contrary_letters" "contrary_letters" sCon f fd) (T : TxA mg) : FnOk P w K mg base CX0 1 f fd ["letters"] (spCon K) := by
  refine F.ok scCon (fun vs H Q E h => ?_) (fun cdv A outer s H vs Q E hr h => ?_)
  · obtain ⟨a, ns, rfl, _⟩ := h
    rfl
  · obtain ⟨a, ns, rfl, hS, hlen, k⟩ := h
    refine ⟨_, pss_one (ps_ret (pe_callTy call_tuple_of (by rfl) T.tuple (by decide +kernel) (pa_cons (pe_lc (own := [("letter", 1)]) (g := gName 1) (tt := tYes) rfl scCon.nd (pi_tup (pe_revT (pv 0)))
      (blkOk_by (N := ["letters", "letter"]) (sc := defScope sCon) (by decide +kernel)) (fun _ _ _ _ _ => pg_name (i := 1) scCon.nd rfl (Or.inl rfl)) (fun _ _ _ _ _ => pts_nil)
      (fun _ _ _ _ _ => pe_un un_neg (pv 1))) pa_nil))), ?_⟩
    refine ret_cb (lc_in ?_)
    refine ⟨_, rfl, a, iv ns, rfl, hS, fun p hp => ?_⟩
    refine ⟨p, rfl, ⟨_, SqT.of upd_same⟩, ?_⟩
    refine lcp (walk_tup (xs := (iv ns).reverse)) (fun _ => true) (fun x => match x with | .int i => .int (-i) | _ => .non) (by simp; omega) (fun H2 s2 => SqT.of (s2 _ _ upd_same)) ?_ ?_
    · intro x hx H2 s2 Qy Qn ky kn
      obtain ⟨i, rfl⟩ : ∃ i, x = V.int i := by
        simp at hx
        obtain ⟨i, _, rfl⟩ := hx
        exact ⟨i, rfl⟩
      refine ⟨rfl, yes_te ?_⟩
      exact ⟨_, rfl, i, rfl, ky rfl H2 (fun _ _ e => e)⟩
    · intro D H2 hD s2 h2
      refine ⟨D, _, rfl, .inl ⟨SqL.of h2, fun l hl => ?_⟩⟩
      have e : (((iv ns).reverse.filter fun _ => true).map fun x => match x with | .int i => V.int (-i) | _ => .non) = iv (Fr.con ns) := by
        rw [List.filter_eq_self.mpr (fun _ _ => rfl)]
        unfold Fr.con
        simp [iv, List.map_reverse, Function.comp_def]
      rw [e]
      exact k l _ ((same_upd hp).trans (s2.trans (same_upd hl))) (SqT.of upd_same)
theorem scShr : FnScope ["letters", "left", "letter"] ["letters"] (defScope sShr) := ⟨rfl, rfl, rfl, by decide +kernel, rfl, by decide +kernel, by decide +kernel⟩
theorem act_take {ns : List Int} {i : Nat} {x : Int} (h : ns[i]? = some x) : Fr.act [] (ns.take (i + 1)) = Fr.push (Fr.act [] (ns.take i)) x := by
  have hi : i < ns.length := (List.getElem?_eq_some_iff.mp h).1
  have hx : ns[i] = x := (List.getElem?_eq_some_iff.mp h).2
  rw [List.take_succ_eq_append_getElem hi, hx, Fr.act_snoc]
theorem act_len : ∀ (ns s : List Int), (Fr.act s ns).length ≤ s.length + ns.length
  | [], s => by simp [Fr.act]
  | a :: t, s => by
    rw [Fr.act_cons]
    have h1 := act_len t (Fr.push s a)
    have h2 : (Fr.push s a).length ≤ s.length + 1 := by
      cases s with
      | nil => simp [Fr.push]
      | cons b u =>
        show (if b = -a then u else a :: b :: u).length ≤ _
        split <;> simp <;> omega
    simp only [List.length_cons]
    omega
theorem shr_len (ns : List Int) : (Fr.shr ns).length ≤ ns.length := by
  unfold Fr.shr
  rw [List.length_reverse]
  simpa using act_len ns []
theorem ok_shr {f : Addr} {fd : FuncData} (F : Fun K "shortened_letters" "shortened_letters" sShr f fd) (T : TxA mg) : FnOk P w K mg base CX0 1 f fd ["letters"] (spShr K) := by
  refine F.ok scShr (fun vs H Q E h => ?_) (fun cdv A outer s H vs Q E hr h => ?_)
  · obtain ⟨a, ns, rfl, _⟩ := h
    rfl
  · obtain ⟨a, ns, rfl, hS, hlen, k⟩ := h
    rcases hS with hS | hS
    · refine ⟨_, pss_cons (ps_set (i := 1) scShr.nd rfl (Or.inl rfl) (pe_lst pa_nil))
        (pss_cons (ps_for PassesOwn.never rfl (pi_list (pv 0)) (pg_name (i := 2) scShr.nd rfl (Or.inl rfl))
          (pss_one (ps_if (PW.pt (pw_and (pt_truth (pv 1) (by intro _; rfl)) (pw_and1 (pt_cmpR op_eq (pe_ix ix_list (pv 1) (pe_un un_neg pe_int) (fun _ _ => rfl)) (pe_un un_neg (pv 2)) (nomark _)))))
            (pss_one (ps_expr (pe_bm0 PySem.F.plainAttrs_list PySem.F.slot_list_pop PySem.F.type_list_pop mt_pop (pv 1))))
            (pss_one (ps_expr (pe_bm PySem.F.plainAttrs_list PySem.F.slot_list_append PySem.F.type_list_append mt_append (pv 1) (pa_cons (pv 2) pa_nil)))))))
        (pss_one (ps_ret (pe_callTy call_tuple_of (by rfl) T.tuple (by decide +kernel) (pa_cons (pv 1) pa_nil))))), ?_⟩
      refine ⟨Nat.zero_le _, fun l hl => ?_⟩
      refine ⟨_, rfl, a, rfl, ⟨_, (by have s := same_upd (o := HO.lst []) hl; exact (s.seq hS))⟩, for_list (K := K) (a := a) (xs := iv ns) (fun i σ H1 => ∃ v, σ = [some (.ref a), some (.ref l), v] ∧ Same H H1 ∧ H1 l = some (.lst (iv (Fr.act [] (ns.take i)).reverse)))
        ⟨none, rfl, same_upd hl, by rw [upd_same]; rfl⟩ (fun i σ H1 _ ⟨_, _, s, _⟩ => (s.seq hS)) ?_ ?_⟩
      · rintro i y σ H1 hi ⟨v, rfl, sm, hL⟩
        obtain ⟨x, hx, rfl⟩ : ∃ x, ns[i]? = some x ∧ y = V.int x := by
          rw [List.getElem?_map] at hi
          cases e : ns[i]? with
          | none => rw [e] at hi; cases hi
          | some x => rw [e] at hi; exact ⟨x, rfl, (Option.some.inj hi).symm⟩
        have hi2 : i < ns.length := (List.getElem?_eq_some_iff.mp hx).1
        have nx := act_take hx
        have hsz : (Fr.act [] (ns.take i)).length ≤ 1000 := by
          have := act_len (ns.take i) []
          rw [List.length_take] at this
          simp at this
          omega
        have put : ∀ xs, Same H (L2.upd H1 l (.lst xs)) := fun xs b o e => by
          rw [upd_ne (ne_of_none e hl)]
          exact sm b o e
        refine ⟨_, rfl, _, .inl ⟨_, SqL.of hL, rfl⟩, ?_⟩
        cases est : Fr.act [] (ns.take i) with
        | nil =>
          rw [est] at hL nx
          refine iteF ?_
          refine iteF ?_
          refine ⟨_, rfl, .inl ⟨rfl, _, SqL.of hL⟩, _, rfl, l, _, _, rfl, rfl, hL, Evl.sz_lt (by simp), ?_⟩
          refine ⟨_, rfl, put _, ?_⟩
          rw [upd_same, nx]
          rfl
        | cons b t =>
          rw [est] at hL nx hsz
          have eL : iv (b :: t).reverse = iv t.reverse ++ [V.int b] := by simp [iv]
          refine iteT' (by simp [iv]) ?_
          refine ⟨_, rfl, _, rfl, l, _, _, _, rfl, rfl, SqL.of hL, (by rw [eL]; exact atI_last _ _), _, rfl, x, rfl, rfl, _, rfl, ?_⟩
          refine ite2 (fun hb => ?_) (fun hb => ?_)
          · have eb : b = -x := by
              have := of_decide_eq_true hb
              injection this
            refine ⟨_, rfl, .inl ⟨rfl, _, SqL.of hL⟩, l, _, V.int b, rfl, rfl, hL, (by rw [eL]; simp), ?_⟩
            refine ⟨_, rfl, put _, ?_⟩
            rw [upd_same, nx]
            have : Fr.push (b :: t) x = t := by simp [Fr.push, eb]
            rw [this, eL, List.dropLast_concat]
          · have eb : ¬ b = -x := fun e => hb (decide_eq_true (by rw [e]))
            refine ⟨_, rfl, .inl ⟨rfl, _, SqL.of hL⟩, _, rfl, l, _, _, rfl, rfl, hL, Evl.sz_lt (by simp [iv] at hsz ⊢; omega), ?_⟩
            refine ⟨_, rfl, put _, ?_⟩
            rw [upd_same, nx]
            have : Fr.push (b :: t) x = x :: b :: t := by simp [Fr.push, eb]
            rw [this]
            simp [iv]
      · rintro σ H1 ⟨v, rfl, sm, hL⟩
        rw [List.take_of_length_le (by simp)] at hL
        refine ⟨_, rfl, l, _, rfl, .inl ⟨SqL.of hL, fun p hp => ?_⟩⟩
        exact k p _ (sm.trans (same_upd hp)) (SqT.of (by rw [upd_same]; rfl))
    · refine ⟨_, pss_cons (ps_set (i := 1) scShr.nd rfl (Or.inl rfl) (pe_lst pa_nil))
        (pss_cons (ps_for PassesOwn.never rfl (pi_tup (pv 0)) (pg_name (i := 2) scShr.nd rfl (Or.inl rfl))
          (pss_one (ps_if (PW.pt (pw_and (pt_truth (pv 1) (by intro _; rfl)) (pw_and1 (pt_cmpR op_eq (pe_ix ix_list (pv 1) (pe_un un_neg pe_int) (fun _ _ => rfl)) (pe_un un_neg (pv 2)) (nomark _)))))
            (pss_one (ps_expr (pe_bm0 PySem.F.plainAttrs_list PySem.F.slot_list_pop PySem.F.type_list_pop mt_pop (pv 1))))
            (pss_one (ps_expr (pe_bm PySem.F.plainAttrs_list PySem.F.slot_list_append PySem.F.type_list_append mt_append (pv 1) (pa_cons (pv 2) pa_nil)))))))
        (pss_one (ps_ret (pe_callTy call_tuple_of (by rfl) T.tuple (by decide +kernel) (pa_cons (pv 1) pa_nil))))), ?_⟩
      refine ⟨Nat.zero_le _, fun l hl => ?_⟩
      refine ⟨_, rfl, a, rfl, ⟨_, (by have s := same_upd (o := HO.lst []) hl; exact (WR.Same.seqT s hS))⟩, for_tup (K := K) (a := a) (xs := iv ns) (fun i σ H1 => ∃ v, σ = [some (.ref a), some (.ref l), v] ∧ Same H H1 ∧ H1 l = some (.lst (iv (Fr.act [] (ns.take i)).reverse)))
        ⟨none, rfl, same_upd hl, by rw [upd_same]; rfl⟩ (fun i σ H1 _ ⟨_, _, s, _⟩ => (WR.Same.seqT s hS)) ?_ ?_⟩
      · rintro i y σ H1 hi ⟨v, rfl, sm, hL⟩
        obtain ⟨x, hx, rfl⟩ : ∃ x, ns[i]? = some x ∧ y = V.int x := by
          rw [List.getElem?_map] at hi
          cases e : ns[i]? with
          | none => rw [e] at hi; cases hi
          | some x => rw [e] at hi; exact ⟨x, rfl, (Option.some.inj hi).symm⟩
        have hi2 : i < ns.length := (List.getElem?_eq_some_iff.mp hx).1
        have nx := act_take hx
        have hsz : (Fr.act [] (ns.take i)).length ≤ 1000 := by
          have := act_len (ns.take i) []
          rw [List.length_take] at this
          simp at this
          omega
        have put : ∀ xs, Same H (L2.upd H1 l (.lst xs)) := fun xs b o e => by
          rw [upd_ne (ne_of_none e hl)]
          exact sm b o e
        refine ⟨_, rfl, _, .inl ⟨_, SqL.of hL, rfl⟩, ?_⟩
        cases est : Fr.act [] (ns.take i) with
        | nil =>
          rw [est] at hL nx
          refine iteF ?_
          refine iteF ?_
          refine ⟨_, rfl, .inl ⟨rfl, _, SqL.of hL⟩, _, rfl, l, _, _, rfl, rfl, hL, Evl.sz_lt (by simp), ?_⟩
          refine ⟨_, rfl, put _, ?_⟩
          rw [upd_same, nx]
          rfl
        | cons b t =>
          rw [est] at hL nx hsz
          have eL : iv (b :: t).reverse = iv t.reverse ++ [V.int b] := by simp [iv]
          refine iteT' (by simp [iv]) ?_
          refine ⟨_, rfl, _, rfl, l, _, _, _, rfl, rfl, SqL.of hL, (by rw [eL]; exact atI_last _ _), _, rfl, x, rfl, rfl, _, rfl, ?_⟩
          refine ite2 (fun hb => ?_) (fun hb => ?_)
          · have eb : b = -x := by
              have := of_decide_eq_true hb
              injection this
            refine ⟨_, rfl, .inl ⟨rfl, _, SqL.of hL⟩, l, _, V.int b, rfl, rfl, hL, (by rw [eL]; simp), ?_⟩
            refine ⟨_, rfl, put _, ?_⟩
            rw [upd_same, nx]
            have : Fr.push (b :: t) x = t := by simp [Fr.push, eb]
            rw [this, eL, List.dropLast_concat]
          · have eb : ¬ b = -x := fun e => hb (decide_eq_true (by rw [e]))
            refine ⟨_, rfl, .inl ⟨rfl, _, SqL.of hL⟩, _, rfl, l, _, _, rfl, rfl, hL, Evl.sz_lt (by simp [iv] at hsz ⊢; omega), ?_⟩
            refine ⟨_, rfl, put _, ?_⟩
            rw [upd_same, nx]
            have : Fr.push (b :: t) x = x :: b :: t := by simp [Fr.push, eb]
            rw [this]
            simp [iv]
      · rintro σ H1 ⟨v, rfl, sm, hL⟩
        rw [List.take_of_length_le (by simp)] at hL
        refine ⟨_, rfl, l, _, rfl, .inl ⟨SqL.of hL, fun p hp => ?_⟩⟩
        exact k p _ (sm.trans (same_upd hp)) (SqT.of (by rw [upd_same]; rfl))
end
end W55
set_option Elab.async false
set_option linter.all false
set_option maxRecDepth 100000
set_option maxHeartbeats 2000000
namespace W55
open PySem L2 PySem.Spec PyProof.Rows WR
section
variable {P : Program} {w : World} {K : PySem.W.Frag} {mg : Str → Option Value} {base : Heap}
theorem iteF' {c : Bool} {A B : Prop} (hc : c = false) (h : B) : if c = true then A else B := by rw [if_neg (by rw [hc]; exact Bool.false_ne_true)]; exact h
theorem iv_get {ns : List Int} {i : Nat} {x : Int} (h : ns[i]? = some x) : (iv ns)[i]? = some (V.int x) := by
  rw [List.getElem?_map, h]
  rfl
theorem con_get {u : List Int} {j : Nat} (h : j < u.length) : (Fr.con u)[u.length - 1 - j]? = some (-u[j]) := by
  unfold Fr.con
  rw [List.getElem?_map, List.getElem?_reverse (by omega)]
  have e : u.length - 1 - (u.length - 1 - j) = j := by omega
  rw [e, List.getElem?_eq_getElem h]
  rfl
theorem whole_len (u w : List Int) : (u ++ w ++ Fr.con u).length = 2 * u.length + w.length := by
  rw [List.length_append, List.length_append, Fr.con_length]
  omega
theorem whole_lo {u w : List Int} {j : Nat} (h : j < u.length) : (u ++ w ++ Fr.con u)[j]? = some u[j] := by
  rw [List.append_assoc, List.getElem?_append_left h, List.getElem?_eq_getElem h]
theorem whole_hi {u w : List Int} {j : Nat} (h : j < u.length) : (u ++ w ++ Fr.con u)[2 * u.length + w.length - 1 - j]? = some (-u[j]) := by
  rw [List.getElem?_append_right (by rw [List.length_append]; omega), List.length_append]
  have e : 2 * u.length + w.length - 1 - j - (u.length + w.length) = u.length - 1 - j := by omega
  rw [e, con_get h]
theorem mid_lo {u w : List Int} (hw : w ≠ []) : (u ++ w ++ Fr.con u)[u.length]? = w.head? := by
  have : 0 < w.length := List.length_pos_iff.mpr hw
  rw [List.append_assoc, List.getElem?_append_right (Nat.le_refl _), Nat.sub_self, List.getElem?_append_left this, List.head?_eq_getElem?]
theorem mid_hi {u w : List Int} (hw : w ≠ []) : (u ++ w ++ Fr.con u)[2 * u.length + w.length - 1 - u.length]? = w.getLast? := by
  have : 0 < w.length := List.length_pos_iff.mpr hw
  rw [List.append_assoc, List.getElem?_append_right (by omega)]
  have e : 2 * u.length + w.length - 1 - u.length - u.length = w.length - 1 := by omega
  rw [e, List.getElem?_append_left (by omega), List.getLast?_eq_getElem?]
theorem whole_cut (u w : List Int) : ((u ++ w ++ Fr.con u).drop u.length).take w.length = w := by
  rw [List.append_assoc, List.drop_left, List.take_left]
theorem scRnd : FnScope ["letters", "left", "skipped"] ["letters"] (defScope sRnd) := ⟨rfl, rfl, rfl, by decide +kernel, rfl, by decide +kernel, by decide +kernel⟩
theorem cut_nat {xs : List V} {i j : Nat} (hi : i ≤ xs.length) (hj : j ≤ xs.length) : cutV xs (some (i : Int)) (some (j : Int)) = (xs.drop i).take (j - i) := by
  unfold cutV
  rw [HT.sIx_nat, HT.sIx_nat, Nat.min_eq_left hi, Nat.min_eq_left hj]
theorem ok_rnd {f : Addr} {fd : FuncData} (F : Fun K "rounded_letters" "rounded_letters" sRnd f fd) (GS : Cal P w K mg base "shortened_letters" 1 ["letters"] (spShr K)) (T : TxA mg) : FnOk P w K mg base CX0 2 f fd ["letters"] (spRnd K) := by
  refine F.ok scRnd (fun vs H Q E h => ?_) (fun cdv A outer s H vs Q E hr h => ?_)
  · obtain ⟨a, ns, rfl, _⟩ := h
    rfl
  · obtain ⟨a, ns, rfl, hS, hlen, nz, k⟩ := h
    refine ⟨_, pss_cons (ps_set (i := 1) scRnd.nd rfl (Or.inl rfl) (pe_cal GS hr (by decide) (by rfl) (pa_cons (pv 0) pa_nil)))
      (pss_cons (ps_set (i := 2) scRnd.nd rfl (Or.inl rfl) pe_int)
      (pss_cons (ps_while PassesOwn.never (PW.pt (pw_and (pt_cmpR op_lt (pe_op op_mul pe_int (pv 2)) (pe_callB call_len_seq (by rfl) T.len PySem.boot_len (pa_cons (pv 1) pa_nil)) (nomark _))
          (pw_and1 (pt_cmpR op_eq (pe_ix ix_tup (pv 1) (pv 2) (fun _ _ => rfl)) (pe_un un_neg (pe_ix ix_tup (pv 1) (pe_op op_sub (pe_op op_sub (pe_callB call_len_seq (by rfl) T.len PySem.boot_len (pa_cons (pv 1) pa_nil)) pe_int) (pv 2)) (fun _ _ => rfl))) (nomark _)))))
        (pss_one (ps_aug (i := 2) scRnd.nd rfl (Or.inl rfl) pe_int ip_add)))
      (pss_one (ps_ret (pe_slice sl_tupU (pv 1) (po_some (pv 2)) (po_some (pe_op op_sub (pe_callB call_len_seq (by rfl) T.len PySem.boot_len (pa_cons (pv 1) pa_nil)) (pv 2)))))))), ?_⟩
    refine ⟨_, rfl, a, ns, rfl, hS, hlen, fun p H1 sm hP => ?_⟩
    obtain ⟨u, m, e, c, z⟩ := Fr.parted (Fr.shr ns) nz.shr (Fr.rd_shr ns)
    have er : Fr.rnd ns = m := by
      unfold Fr.rnd
      rw [e, Fr.ends_eq c z]
    rw [er] at k
    have hl := shr_len ns
    rw [e] at hP hl
    rw [whole_len] at hl
    have L : (iv (u ++ m ++ Fr.con u)).length = 2 * u.length + m.length := by rw [List.length_map, whole_len]
    refine ⟨fun n σ H' => ∃ j, n = u.length - j ∧ j ≤ u.length ∧ σ = [some (.ref a), some (.ref p), some (.int ((j : Nat) : Int))] ∧ H' = H1, ⟨_, 0, rfl, Nat.zero_le _, rfl, rfl⟩, ?_⟩
    rintro n σ H' ⟨j, rfl, hj, rfl, rfl⟩
    refine ⟨_, rfl, _, _, rfl, rfl, .inl ⟨by decide, by decide⟩, _, rfl, p, _, rfl, .inr hP, _, _, rfl, rfl, _, rfl, ?_⟩
    have hback : ((iv (u ++ m ++ Fr.con u)).length : Int) - 1 - (j : Int) = ((2 * u.length + m.length - 1 - j : Nat) : Int) ∨ 2 * u.length + m.length = 0 := by
      rw [L]
      by_cases h0 : 2 * u.length + m.length = 0
      · exact .inr h0
      · left; omega
    by_cases hlt : j < u.length
    · refine iteT' (decide_eq_true (by rw [L]; omega)) ?_
      have hb := hback.resolve_right (by omega)
      refine ⟨_, rfl, _, rfl, p, _, _, _, rfl, rfl, hP, atI_nat (iv_get (whole_lo hlt)), ?_⟩
      refine ⟨_, rfl, _, rfl, p, _, rfl, .inr hP, _, _, rfl, rfl, _, rfl, _, _, rfl, rfl, p, _, _, _, rfl, rfl, hP, (by rw [hb]; exact atI_nat (iv_get (whole_hi hlt))), _, rfl, rfl, _, rfl, ?_⟩
      refine iteT' (decide_eq_true (by show V.int _ = V.int (- -_); rw [Int.neg_neg])) ?_
      refine ⟨fun σ' H'' => ∃ j', u.length - (j + 1) = u.length - j' ∧ j' ≤ u.length ∧ σ' = [some (.ref a), some (.ref p), some (.int ((j' : Nat) : Int))] ∧ H'' = H', fun σ' H'' ⟨j', q1, q2, q3, q4⟩ => ⟨_, by omega, j', q1, q2, q3, q4⟩, ?_⟩
      refine ⟨_, rfl, _, _, rfl, rfl, ?_⟩
      exact ⟨j + 1, rfl, hlt, by rfl, rfl⟩
    · have hj2 : j = u.length := by omega
      subst hj2
      have fin : NewT K H' Q (cutV (iv (u ++ m ++ Fr.con u)) (some ((u.length : Nat) : Int)) (some (((iv (u ++ m ++ Fr.con u)).length : Int) - ((u.length : Nat) : Int)))) := by
        have e1 : ((iv (u ++ m ++ Fr.con u)).length : Int) - ((u.length : Nat) : Int) = ((u.length + m.length : Nat) : Int) := by rw [L]; omega
        rw [e1, cut_nat (by rw [L]; omega) (by rw [L]; omega)]
        have e2 : u.length + m.length - u.length = m.length := by omega
        rw [e2]
        have e3 : ((iv (u ++ m ++ Fr.con u)).drop u.length).take m.length = iv m := by
          rw [← List.map_drop, ← List.map_take, whole_cut]
        rw [e3]
        exact fun q H2 s2 h2 => k q H2 (sm.trans s2) h2
      by_cases hm : m = []
      · have hu := z hm
        refine iteF' (decide_eq_false (by rw [L, hm, hu]; simp)) ?_
        refine iteF ?_
        exact ⟨_, rfl, _, rfl, _, rfl, _, rfl, p, _, rfl, .inr hP, _, rfl, _, _, rfl, rfl, _, rfl, p, _, rfl, hP, fin⟩
      · refine iteT' (decide_eq_true (by have := List.length_pos_iff.mpr hm; rw [L]; omega)) ?_
        have hb := hback.resolve_right (by have := List.length_pos_iff.mpr hm; omega)
        obtain ⟨x, hx⟩ : ∃ x, m.head? = some x := by
          cases m with
          | nil => exact absurd rfl hm
          | cons x t => exact ⟨x, rfl⟩
        obtain ⟨y, hy⟩ : ∃ y, m.getLast? = some y := ⟨_, List.getLast?_eq_some_getLast hm⟩
        have lo := (mid_lo (u := u) hm).trans hx
        have hi := (mid_hi (u := u) hm).trans hy
        refine ⟨_, rfl, _, rfl, p, _, _, _, rfl, rfl, hP, atI_nat (iv_get lo), ?_⟩
        refine ⟨_, rfl, _, rfl, p, _, rfl, .inr hP, _, _, rfl, rfl, _, rfl, _, _, rfl, rfl, p, _, _, _, rfl, rfl, hP, (by rw [hb]; exact atI_nat (iv_get hi)), _, rfl, rfl, _, rfl, ?_⟩
        refine iteF' (decide_eq_false fun q => ?_) ?_
        · have q2 : V.int x = V.int (-y) := q
          injection q2 with q3
          exact c.2 x y hx hy q3
        exact ⟨_, rfl, _, rfl, _, rfl, _, rfl, p, _, rfl, .inr hP, _, rfl, _, _, rfl, rfl, _, rfl, p, _, rfl, hP, fin⟩
end
end W55
set_option Elab.async false
set_option linter.all false
set_option maxRecDepth 100000
set_option maxHeartbeats 2000000
namespace W55
open PySem L2 PySem.Spec PyProof.Rows WR WS
abbrev sKinds : Stmt := top 12
theorem pigeon : ∀ (m : Nat) (L : List Int), L.Nodup → (∀ k ∈ L, 1 ≤ k ∧ k ≤ (m : Int)) → L.length ≤ m
  | 0, L, _, h => by
    cases L with
    | nil => simp
    | cons a t =>
      have := h a (by simp)
      omega
  | m + 1, L, nd, h => by
    by_cases hm : ((m + 1 : Nat) : Int) ∈ L
    · have ih := pigeon m (L.erase ((m + 1 : Nat) : Int)) (nd.erase _) fun k hk => by
        have h1 := (nd.mem_erase_iff).mp hk
        have h2 := h k h1.2
        have h3 := h1.1
        omega
      rw [List.length_erase_of_mem hm] at ih
      omega
    · have ih := pigeon m L nd fun k hk => by
        have h2 := h k hk
        have : k ≠ ((m + 1 : Nat) : Int) := fun e => hm (e ▸ hk)
        omega
      omega
theorem sci {w : World} {J : It} {xs : List V} {G : Hp → Prop} (wk : Walk J xs.length G (YAt xs)) {g : TG} {tt : TT} {te : TE} {vs : List Nat} {σ : L2.St} {H1 : Hp} {Q : VK} (v : V → Int)
    (hv : ∀ x ∈ xs, 1 ≤ v x ∧ v x ≤ 26) (hG : ∀ H, Same H1 H → G H)
    (hs : ∀ x, x ∈ xs → ∀ H, Same H1 H → ∀ (Qy : V → Hp → Prop) (Qn : Hp → Prop), Qy (.int (v x)) H →
      g x (wipe σ vs) H fun σ2 H2 => wipe σ2 vs = wipe σ vs ∧ tt σ2 H2 fun b H3 => if b = true then te σ2 H3 Qy else Qn H3)
    (hd : ∀ (D : Addr) (S : Int → Bool) (n : Nat) H', H1 D = none → Same H1 H' → H' D = some (SetO w D S n) → n ≤ 26 → (∀ k, S k = true ↔ ∃ x ∈ xs, k = v x) → Q (.ref D) H') : tSetI w (fun _ H R => R J H) g tt te vs σ H1 Q := by
  intro D hD
  refine ⟨fun i m H => m = xs.length - i ∧ i ≤ xs.length ∧ Same H1 H ∧ ∃ (S : Int → Bool) (L : List Int), H D = some (SetO w D S L.length) ∧ L.Nodup ∧ (∀ k, S k = true ↔ k ∈ L) ∧ ∀ k, k ∈ L ↔ ∃ x ∈ xs.take i, k = v x, ?_, ?_⟩
  · refine ⟨_, rfl, Nat.zero_le _, same_upd hD, fun _ => false, [], by rw [upd_same]; rfl, List.nodup_nil, fun k => by simp, fun k => by simp⟩
  · rintro i m H ⟨rfl, hi, sm, S, L, hS, nd, hL, hm⟩
    have bound : L.length ≤ 26 := pigeon 26 L nd fun k hk => by
      obtain ⟨x, hx, e⟩ := (hm k).mp hk
      have := hv x (List.mem_of_mem_take hx)
      omega
    by_cases hlt : i < xs.length
    · right
      refine ⟨wk.goes i H hlt (hG H sm), fun H' => Same H1 H' ∧ ∃ (S : Int → Bool) (L : List Int), H' D = some (SetO w D S L.length) ∧ L.Nodup ∧ (∀ k, S k = true ↔ k ∈ L) ∧ ∀ k, k ∈ L ↔ ∃ x ∈ xs.take (i + 1), k = v x, ?_, ?_⟩
      · rintro H' ⟨s2, q⟩
        exact ⟨xs.length - (i + 1), by omega, rfl, hlt, s2, q⟩
      · intro x H' hy
        obtain ⟨rfl, hx⟩ := wk.yields i H x H' hlt (hG H sm) hy
        have hmem : x ∈ xs := List.mem_of_getElem? hx
        have et : xs.take (i + 1) = xs.take i ++ [x] := by
          have hx2 : xs[i] = x := (List.getElem?_eq_some_iff.mp hx).2
          rw [List.take_succ_eq_append_getElem hlt, hx2]
        refine hs x hmem H' sm _ _ ?_
        refine ⟨D, v x, S, L.length, rfl, rfl, hS, ?_, ?_⟩
        · have : scanBound = 40000 ∨ 64 < scanBound := by right; decide
          have h64 : 64 < scanBound := by decide
          omega
        refine ⟨fun b o e => by rw [upd_ne (ne_of_none e hD)]; exact sm b o e, fun j => S j || decide (j = v x), if S (v x) = true then L else v x :: L, ?_, ?_, ?_, ?_⟩
        · rw [upd_same]
          by_cases c : S (v x) = true
          · rw [if_pos c, if_pos c]
          · rw [if_neg c, if_neg c]; rfl
        · by_cases c : S (v x) = true
          · rw [if_pos c]; exact nd
          · rw [if_neg c]
            exact List.nodup_cons.mpr ⟨fun h => c ((hL _).mpr h), nd⟩
        · intro k
          rw [Bool.or_eq_true, decide_eq_true_eq]
          by_cases c : S (v x) = true
          · rw [if_pos c, ← hL]
            constructor
            · rintro (h | rfl)
              · exact h
              · exact c
            · exact .inl
          · rw [if_neg c, List.mem_cons, ← hL]
            exact or_comm
        · intro k
          have e : (k ∈ if S (v x) = true then L else v x :: L) ↔ (k = v x ∨ k ∈ L) := by
            by_cases c : S (v x) = true
            · rw [if_pos c]
              constructor
              · exact .inr
              · rintro (rfl | h)
                · exact (hL _).mp c
                · exact h
            · rw [if_neg c, List.mem_cons]
          rw [e, hm, et]
          constructor
          · rintro (rfl | ⟨y, hy, rfl⟩)
            · exact ⟨x, by simp, rfl⟩
            · exact ⟨y, by simp [hy], rfl⟩
          · rintro ⟨y, hy, rfl⟩
            rw [List.mem_append, List.mem_singleton] at hy
            rcases hy with hy | rfl
            · exact .inr ⟨y, hy, rfl⟩
            · exact .inl rfl
    · left
      have hi2 : i = xs.length := by omega
      subst hi2
      rw [List.take_length] at hm
      exact ⟨wk.stops H (hG H sm), hd D S L.length H hD sm hS bound fun k => (hL k).trans (hm k)⟩
def kindsOk (ns ks : List Int) : Prop := ks.Pairwise (· < ·) ∧ ∀ k : Int, k ∈ ks ↔ ∃ x ∈ ns, k = (x.natAbs : Int)
/-- every letter of a kind from 1 to 26 -/
def Lts (ns : List Int) : Prop := ∀ x ∈ ns, 1 ≤ x.natAbs ∧ x.natAbs ≤ 26
def spKinds (K : PySem.W.Frag) : Sp := fun vs H Q _ => ∃ (a : Addr) (ns : List Int), vs = [.ref a] ∧ SqE K H a (iv ns) ∧ ns.length ≤ 1000 ∧ Lts ns ∧ ∀ ks, kindsOk ns ks → NewT K H Q (iv ks)
structure TxB (mg : Str → Option Value) : Prop where
  sorted : mg "sorted" = none
  abs : mg "abs" = none
section
variable {P : Program} {w : World} {K : PySem.W.Frag} {mg : Str → Option Value} {base : Heap}
theorem scKinds : FnScope ["letters", "letter"] ["letters"] (defScope sKinds) := ⟨rfl, rfl, rfl, by decide +kernel, rfl, by decide +kernel, by decide +kernel⟩
theorem ok_kinds {f : Addr} {fd : FuncData} (F : Fun K "kinds_of" "kinds_of" sKinds f fd) (T : TxA mg) (T2 : TxB mg) : FnOk P w K mg base CX0 1 f fd ["letters"] (spKinds K) := by
  refine F.ok scKinds (fun vs H Q E h => ?_) (fun cdv A outer s H vs Q E hr h => ?_)
  · obtain ⟨a, ns, rfl, _⟩ := h
    rfl
  · obtain ⟨a, ns, rfl, hS, hlen, hk, k⟩ := h
    have fin : ∀ (D : Addr) (S : Int → Bool) (n : Nat) H', H D = none → Same H H' → H' D = some (SetO w D S n) → n ≤ 26 → (∀ k, S k = true ↔ ∃ x ∈ iv ns, k = (match x with | .int i => (i.natAbs : Int) | _ => 0)) →
        rSortedSet w [.ref D] H' fun x H2 => ∃ p ys, [x] = [V.ref p] ∧ ((SqL K H2 p ys ∧ ∀ l, H2 l = none → Q (.ref l) (L2.upd H2 l (.tup ys))) ∨ (SqT K H2 p ys ∧ Q (.ref p) H2)) := by
      intro D S n H' hD sm hS hn hm
      refine ⟨D, S, n, rfl, hS, by omega, fun ks p up mem _ hp => ?_⟩
      refine ⟨p, _, rfl, .inl ⟨SqL.of upd_same, fun l hl => ?_⟩⟩
      refine k ks ⟨up, fun j => ?_⟩ l _ ((sm.trans (same_upd hp)).trans (same_upd hl)) (SqT.of upd_same)
      rw [mem, hm]
      constructor
      · rintro ⟨x, hx, e⟩
        obtain ⟨i, hi, rfl⟩ := List.mem_map.mp hx
        exact ⟨i, hi, e⟩
      · rintro ⟨i, hi, e⟩
        exact ⟨_, List.mem_map_of_mem hi, e⟩
    have turn : ∀ x, x ∈ iv ns → ∀ H2, Same H H2 → ∀ (Qy : V → Hp → Prop) (Qn : Hp → Prop), Qy (.int (match x with | .int i => (i.natAbs : Int) | _ => 0)) H2 →
        gName 1 x (wipe [some (.ref a), none] [1]) H2 fun σ2 H2 => wipe σ2 [1] = wipe [some (.ref a), none] [1] ∧ tYes σ2 H2 fun b H3 => if b = true then tCB (fun xs H Q => ∃ i, xs = [.int i] ∧ Q (.int (if i < 0 then -i else i)) H) (tCons (tVar 1) tNil) σ2 H3 Qy else Qn H3 := by
      intro x hx H2 s2 Qy Qn ky
      obtain ⟨i, hi, rfl⟩ := List.mem_map.mp hx
      refine ⟨rfl, yes_te ⟨_, rfl, i, rfl, ?_⟩⟩
      have e : (if i < 0 then -i else i) = (i.natAbs : Int) := by split <;> omega
      rw [e]
      exact ky
    have bd : ∀ x ∈ iv ns, 1 ≤ (match x with | .int i => (i.natAbs : Int) | _ => 0) ∧ (match x with | .int i => (i.natAbs : Int) | _ => 0) ≤ 26 := by
      intro x hx
      obtain ⟨i, hi, rfl⟩ := List.mem_map.mp hx
      have := hk i hi
      show 1 ≤ (i.natAbs : Int) ∧ (i.natAbs : Int) ≤ 26
      omega
    rcases hS with hS | hS
    · refine ⟨_, pss_one (ps_ret (pe_callTy call_tuple_of (by rfl) T.tuple (by decide +kernel) (pa_cons (pe_callB (cr_sortedSet rfl) (by rfl) T2.sorted (by decide +kernel) (pa_cons (pe_setI (own := [("letter", 1)]) (g := gName 1) (tt := tYes) rfl scKinds.nd (pi_list (pv 0))
        (blkOk_by (N := ["letters", "letter"]) (sc := defScope sKinds) (by decide +kernel)) (fun _ _ _ _ _ => pg_name (i := 1) scKinds.nd rfl (Or.inl rfl)) (fun _ _ _ _ _ => pts_nil)
        (fun _ _ _ _ _ => pe_callB call_abs (by rfl) T2.abs (by decide +kernel) (pa_cons (pv 1) pa_nil))) pa_nil)) pa_nil))), ?_⟩
      refine ⟨_, rfl, a, rfl, ⟨_, hS⟩, ?_⟩
      exact sci (walk_list (xs := iv ns)) _ bd (fun H2 s2 => s2.seq hS) turn fin
    · refine ⟨_, pss_one (ps_ret (pe_callTy call_tuple_of (by rfl) T.tuple (by decide +kernel) (pa_cons (pe_callB (cr_sortedSet rfl) (by rfl) T2.sorted (by decide +kernel) (pa_cons (pe_setI (own := [("letter", 1)]) (g := gName 1) (tt := tYes) rfl scKinds.nd (pi_tup (pv 0))
        (blkOk_by (N := ["letters", "letter"]) (sc := defScope sKinds) (by decide +kernel)) (fun _ _ _ _ _ => pg_name (i := 1) scKinds.nd rfl (Or.inl rfl)) (fun _ _ _ _ _ => pts_nil)
        (fun _ _ _ _ _ => pe_callB call_abs (by rfl) T2.abs (by decide +kernel) (pa_cons (pv 1) pa_nil))) pa_nil)) pa_nil))), ?_⟩
      refine ⟨_, rfl, a, rfl, ⟨_, hS⟩, ?_⟩
      exact sci (walk_tup (xs := iv ns)) _ bd (fun H2 s2 => WR.Same.seqT s2 hS) turn fin
end
end W55
set_option Elab.async false
set_option linter.all false
set_option maxRecDepth 100000
set_option maxHeartbeats 2000000
namespace W55
open PySem L2 PySem.Spec PyProof.Rows WR
abbrev sIsInt : Stmt := top 16
abbrev sWithin : Stmt := top 17
abbrev sLetter : Stmt := top 18
abbrev sListed : Stmt := top 19
abbrev sNeedW : Stmt := top 29
abbrev sFew : Stmt := top 30
/-! ### values and their classes -/
inductive Typ (H : Hp) : V → String → Prop
  | int (i : Int) : Typ H (.int i) "int"
  | bl (b : Bool) : Typ H (.bl b) "bool"
  | str (z : Str) : Typ H (.str z) "str"
  | non : Typ H .non "NoneType"
  | lst {p : Addr} {xs : List V} (e : H p = some (.lst xs)) : Typ H (.ref p) "list"
  | tup {p : Addr} {xs : List V} (e : H p = some (.tup xs)) : Typ H (.ref p) "tuple"
  | dct {p : Addr} {kvs : List (Key × V)} (e : H p = some (.dK kvs)) : Typ H (.ref p) "dict"
def isI : V → Bool
  | .int _ => true
  | _ => false
def isB : V → Bool
  | .bl _ => true
  | _ => false
def isS : V → Bool
  | .str _ => true
  | _ => false
theorem Typ.same {H H' : Hp} {x : V} {t : String} (h : Typ H x t) (s : Same H H') : Typ H' x t := by
  cases h with
  | int i => exact .int i
  | bl b => exact .bl b
  | str z => exact .str z
  | non => exact .non
  | lst e => exact .lst (s _ _ e)
  | tup e => exact .tup (s _ _ e)
  | dct e => exact .dct (s _ _ e)
theorem Typ.ty {K : PySem.W.Frag} {H : Hp} {x : V} {t : String} (h : Typ H x t) : TyX K H x (.type t) := by
  cases h with
  | int i => exact .base (.int i)
  | bl b => exact .base (.bl b)
  | str z => exact .base (.str z)
  | non => exact .base .non
  | lst e => exact .base (.lst e)
  | tup e => exact .base (.tup e)
  | dct e => exact .base (.dK e)
theorem Typ.kInt {K : PySem.W.Frag} {H : Hp} {x : V} {t : String} (h : Typ H x t) : PySem.W.kitOne K (.type t) (.type "int") = some (isI x || isB x) := by
  cases h <;> first | exact kit_ty (show kitB _ _ = some true by decide +kernel) | exact kit_ty (show kitB _ _ = some false by decide +kernel)
theorem Typ.kBool {K : PySem.W.Frag} {H : Hp} {x : V} {t : String} (h : Typ H x t) : PySem.W.kitOne K (.type t) (.type "bool") = some (isB x) := by
  cases h <;> first | exact kit_ty (show kitB _ _ = some true by decide +kernel) | exact kit_ty (show kitB _ _ = some false by decide +kernel)
theorem Typ.kStr {K : PySem.W.Frag} {H : Hp} {x : V} {t : String} (h : Typ H x t) : PySem.W.kitOne K (.type t) (.type "str") = some (isS x) := by
  cases h <;> first | exact kit_ty (show kitB _ _ = some true by decide +kernel) | exact kit_ty (show kitB _ _ = some false by decide +kernel)
theorem Typ.kTup {K : PySem.W.Frag} {H : Hp} {x : V} {t : String} (h : Typ H x t) : PySem.W.kitOne K (.type t) (.type "tuple") = some (t == "tuple") := by
  cases h <;> first | exact kit_ty (show kitB _ _ = some true by decide +kernel) | exact kit_ty (show kitB _ _ = some false by decide +kernel)
theorem Typ.kList {K : PySem.W.Frag} {H : Hp} {x : V} {t : String} (h : Typ H x t) : PySem.W.kitOne K (.type t) (.type "list") = some (t == "list") := by
  cases h <;> first | exact kit_ty (show kitB _ _ = some true by decide +kernel) | exact kit_ty (show kitB _ _ = some false by decide +kernel)
theorem Typ.kSeq {K : PySem.W.Frag} {H : Hp} {x : V} {t : String} (h : Typ H x t) : PySem.W.kitAny K (.type t) [.type "list", .type "tuple"] = some (t == "list" || t == "tuple") := by
  refine kitAny_cons h.kList (fun e => ?_) (fun e => by rw [e]; rfl)
  refine kitAny_cons h.kTup (fun e2 => ?_) (fun e2 => by rw [e2]; simp)
  rw [kitAny_nil, e, e2]
  rfl

def spIsInt : Sp := fun vs H Q _ => ∃ (x : V) (t : String), vs = [x] ∧ Typ H x t ∧ Q (.bl (isI x)) H
structure TxI (mg : Str → Option Value) : Prop where
  isin : mg "isinstance" = none
  int : mg "int" = none
  bool : mg "bool" = none
  str : mg "str" = none
  list : mg "list" = none
  tuple : mg "tuple" = none
section
variable {P : Program} {w : World} {K : PySem.W.Frag} {mg : Str → Option Value} {base : Heap}
theorem scIsInt : FnScope ["value"] ["value"] (defScope sIsInt) := ⟨rfl, rfl, rfl, by decide +kernel, rfl, by decide +kernel, by decide +kernel⟩
theorem ok_isInt {f : Addr} {fd : FuncData} (F : Fun K "is_integer" "is_integer" sIsInt f fd) (T : TxI mg) : FnOk P w K mg base CX0 1 f fd ["value"] spIsInt := by
  refine F.ok scIsInt (fun vs H Q E h => ?_) (fun cdv A outer s H vs Q E hr h => ?_)
  · obtain ⟨x, t, rfl, _⟩ := h
    rfl
  · obtain ⟨x, t, rfl, ht, k⟩ := h
    refine ⟨_, pss_one (ps_ret (pe_and (pe_callB call_isi (by rfl) T.isin (by decide +kernel) (pa_cons (pv 0) (pa_cons (pe_bltn (v := .ty "int") (by rfl) T.int (by decide +kernel) rfl) pa_nil)))
      (pe_one (pe_not (pe_callB call_isi (by rfl) T.isin (by decide +kernel) (pa_cons (pv 0) (pa_cons (pe_bltn (v := .ty "bool") (by rfl) T.bool (by decide +kernel) rfl) pa_nil))))))), ?_⟩
    refine ⟨_, rfl, x, _, _, _, _, rfl, .ty _, ht.ty, ht.kInt, _, rfl, ?_⟩
    refine ite2 (fun hi => ?_) (fun hn => ?_)
    · refine ⟨_, rfl, x, _, _, _, _, rfl, .ty _, ht.ty, ht.kBool, _, rfl, ?_⟩
      have e : (!isB x) = isI x := by cases ht <;> first | rfl | exact absurd hi Bool.false_ne_true
      show Q (.bl (!isB x)) H
      rw [e]
      exact k
    · have e : isI x = false := by cases ht <;> first | rfl | exact absurd rfl hn
      show Q (.bl false) H
      rw [← e]
      exact k
end
def Bnd (v : V) : Prop := v = .non ∨ ∃ i, v = .int i
def geB (i : Int) : V → Bool
  | .int a => decide (a ≤ i)
  | _ => true
def leB (i : Int) : V → Bool
  | .int b => decide (i ≤ b)
  | _ => true
def within : V → V → V → Bool
  | .int i, l, m => geB i l && leB i m
  | _, _, _ => false
def spWithin : Sp := fun vs H Q _ => ∃ (x l m : V) (t : String), vs = [x, l, m] ∧ Typ H x t ∧ Bnd l ∧ Bnd m ∧ Q (.bl (within x l m)) H
def letterB : V → Bool
  | .int i => (decide (-26 ≤ i) && decide (i ≤ 26)) && !decide (i = 0)
  | _ => false
def spLetter : Sp := fun vs H Q _ => ∃ (x : V) (t : String), vs = [x] ∧ Typ H x t ∧ Q (.bl (letterB x)) H
def spListed : Sp := fun vs H Q _ => ∃ (x : V) (t : String), vs = [x] ∧ Typ H x t ∧ ∀ H', Same H H' → Q (.bl (t == "list" || t == "tuple")) H'
structure TxC (mg : Str → Option Value) : Prop where
  kind : ∃ t, mg "MOST_KIND" = some (.int 26 t)
  all : mg "all" = none
section
variable {P : Program} {w : World} {K : PySem.W.Frag} {mg : Str → Option Value} {base : Heap}
theorem scWithin : FnScope ["value", "least", "most"] ["value", "least", "most"] (defScope sWithin) := ⟨rfl, rfl, rfl, by decide +kernel, rfl, by decide +kernel, by decide +kernel⟩
theorem ok_within {f : Addr} {fd : FuncData} (F : Fun K "is_within" "is_within" sWithin f fd) (GI : Cal P w K mg base "is_integer" 1 ["value"] spIsInt) : FnOk P w K mg base CX0 2 f fd ["value", "least", "most"] spWithin := by
  refine F.ok scWithin (fun vs H Q E h => ?_) (fun cdv A outer s H vs Q E hr h => ?_)
  · obtain ⟨x, l, m, t, rfl, _⟩ := h
    rfl
  · obtain ⟨x, l, m, t, rfl, ht, hl, hm, k⟩ := h
    refine ⟨_, pss_cons (ps_if (pt_not (pt_val (pe_cal GI hr (by decide) (by rfl) (pa_cons (pv 0) pa_nil)))) (pss_one (ps_ret pe_bl)) pss_nil)
      (pss_one (ps_ret (pe_and (pe_or (pe_cmpR op_isN (pv 1) pe_non (nomark _)) (pe_one (pe_cmpR op_ge (pv 0) (pv 1) (nomark _)))) (pe_one (pe_or (pe_cmpR op_isN (pv 2) pe_non (nomark _)) (pe_one (pe_cmpR op_le (pv 0) (pv 2) (nomark _)))))))), ?_⟩
    refine ⟨_, rfl, x, t, rfl, ht, _, rfl, ?_⟩
    refine ite2 (fun hn => ?_) (fun hi => ?_)
    · have e : within x l m = false := by cases ht <;> first | rfl | exact absurd hn Bool.false_ne_true
      rw [e] at k
      exact k
    · obtain ⟨i, rfl⟩ : ∃ i, x = .int i := by cases ht <;> first | exact ⟨_, rfl⟩ | exact absurd rfl hi
      -- the second half, whatever the first one says
      have half : ∀ H1 : Hp, H1 = H → ∀ Q1 : VK, Q1 (.bl (leB i m)) H1 → tOrV (tOp (fun x y H Q => y = .non ∧ Q (.bl (decide (x = .non))) H) (tVar 2) (tC .non)) (tOp (rI0 fun i j => .bl (decide (i ≤ j))) (tVar 0) (tVar 2)) [some (.int i), some l, some m] H1 Q1 := by
        intro H1 _ Q1 q
        rcases hm with rfl | ⟨b, rfl⟩
        · exact ⟨_, rfl, rfl, _, rfl, iteT q⟩
        · exact ⟨_, rfl, rfl, _, rfl, iteF ⟨_, rfl, _, rfl, _, _, rfl, rfl, q⟩⟩
      rcases hl with rfl | ⟨a, rfl⟩
      · refine ⟨_, rfl, rfl, _, rfl, iteT ⟨_, rfl, iteT (half H rfl _ ?_)⟩⟩
        exact k
      · refine ⟨_, rfl, rfl, _, rfl, iteF ⟨_, rfl, _, rfl, _, _, rfl, rfl, _, rfl, ?_⟩⟩
        refine ite2 (fun hg => half H rfl _ ?_) (fun hg => ?_)
        · have e : within (.int i) (.int a) m = leB i m := by
            show (decide (a ≤ i) && leB i m) = leB i m
            rw [hg]
            rfl
          rw [e] at k
          exact k
        · have e : within (.int i) (.int a) m = false := by
            show (decide (a ≤ i) && leB i m) = false
            rw [Bool.eq_false_iff.mpr hg]
            rfl
          rw [e] at k
          exact k
theorem scLetter : FnScope ["value"] ["value"] (defScope sLetter) := ⟨rfl, rfl, rfl, by decide +kernel, rfl, by decide +kernel, by decide +kernel⟩
theorem ok_letter {f : Addr} {fd : FuncData} (F : Fun K "is_letter" "is_letter" sLetter f fd) (GW : Cal P w K mg base "is_within" 2 ["value", "least", "most"] spWithin) (T : TxC mg) : FnOk P w K mg base CX0 3 f fd ["value"] spLetter := by
  refine F.ok scLetter (fun vs H Q E h => ?_) (fun cdv A outer s H vs Q E hr h => ?_)
  · obtain ⟨x, t, rfl, _⟩ := h
    rfl
  · obtain ⟨x, t, rfl, ht, k⟩ := h
    obtain ⟨tk, mK⟩ := T.kind
    refine ⟨_, pss_one (ps_ret (pe_and (pe_cal GW hr (by decide) (by rfl) (pa_cons (pv 0) (pa_cons (pe_un un_neg (pe_glob (v := .int 26) (by rfl) mK ⟨_, rfl⟩)) (pa_cons (pe_glob (v := .int 26) (by rfl) mK ⟨_, rfl⟩) pa_nil)))) (pe_one (pe_cmpR op_ne (pv 0) pe_int (nomark _))))), ?_⟩
    refine ⟨_, rfl, _, rfl, x, _, _, t, rfl, ht, .inr ⟨_, rfl⟩, .inr ⟨_, rfl⟩, _, rfl, ?_⟩
    refine ite2 (fun hi => ?_) (fun hn => ?_)
    · obtain ⟨i, rfl⟩ : ∃ i, x = .int i := by cases ht <;> first | exact ⟨_, rfl⟩ | exact absurd hi Bool.false_ne_true
      refine ⟨_, rfl, rfl, ?_⟩
      have e : letterB (.int i) = !decide (V.int i = V.int 0) := by
        have h2 : (decide (-26 ≤ i) && decide (i ≤ 26)) = true := hi
        show ((decide (-26 ≤ i) && decide (i ≤ 26)) && !decide (i = 0)) = _
        rw [h2, Bool.true_and]
        congr 1
        by_cases h0 : i = 0
        · subst h0; rfl
        · rw [decide_eq_false h0, decide_eq_false (fun q => h0 (by injection q))]
      rw [e] at k
      exact k
    · have e : letterB x = false := by
        cases ht with
        | int i =>
          have h2 : (decide (-26 ≤ i) && decide (i ≤ 26)) = false := Bool.eq_false_iff.mpr hn
          show ((decide (-26 ≤ i) && decide (i ≤ 26)) && !decide (i = 0)) = false
          rw [h2]
          rfl
        | _ => rfl
      rw [e] at k
      exact k
theorem scListed : FnScope ["value"] ["value"] (defScope sListed) := ⟨rfl, rfl, rfl, by decide +kernel, rfl, by decide +kernel, by decide +kernel⟩
theorem ok_listed {f : Addr} {fd : FuncData} (F : Fun K "is_listed" "is_listed" sListed f fd) (T : TxI mg) : FnOk P w K mg base CX0 1 f fd ["value"] spListed := by
  refine F.ok scListed (fun vs H Q E h => ?_) (fun cdv A outer s H vs Q E hr h => ?_)
  · obtain ⟨x, t, rfl, _⟩ := h
    rfl
  · obtain ⟨x, t, rfl, ht, k⟩ := h
    refine ⟨_, pss_one (ps_ret (pe_callB call_isiT (by rfl) T.isin (by decide +kernel) (pa_cons (pv 0) (pa_cons (pe_tup (pa_cons (pe_bltn (v := .ty "list") (by rfl) T.list (by decide +kernel) rfl) (pa_cons (pe_bltn (v := .ty "tuple") (by rfl) T.tuple (by decide +kernel) rfl) pa_nil))) pa_nil)))), ?_⟩
    refine ⟨_, rfl, (by show 2 ≤ sizeLine; decide), fun p hp => ?_⟩
    have sm : Same H (upd H p (.tup [.ty "list", .ty "tuple"])) := fun b o e => by rw [upd_ne (ne_of_none e hp)]; exact e
    exact ⟨x, p, _, _, _, _, rfl, upd_same, .cons (.ty _) (.cons (.ty _) .nil), (ht.same sm).ty, (ht.same sm).kSeq, k _ sm⟩
end
end W55
set_option Elab.async false
set_option linter.all false
set_option maxRecDepth 100000
set_option maxHeartbeats 2000000
namespace W55
open PySem L2 PySem.Spec PyProof.Rows WR
abbrev sInit : Stmt := inClass (top 31) 0
theorem SqL.tyx {K : PySem.W.Frag} {H : Hp} {a : Addr} {xs : List V} (h : SqL K H a xs) : TyX K H (.ref a) (.type "list") := by
  rcases h with h | ⟨o, its, n, e, c, _⟩
  · rcases h with h | ⟨o, h⟩
    · exact .base (.lst h)
    · exact .base (.frz h)
  · exact .kList e c
theorem SqT.tyx {K : PySem.W.Frag} {H : Hp} {a : Addr} {xs : List V} (h : SqT K H a xs) : TyX K H (.ref a) (.type "tuple") := by
  rcases h with h | ⟨o, its, n, e, c, _⟩
  · rcases h with h | ⟨o, h⟩
    · exact .base (.tup h)
    · exact .fTuple h
  · exact .kTuple e c
def spListE (K : PySem.W.Frag) : Sp := fun vs H Q _ => ∃ (a : Addr) (xs : List V), vs = [.ref a] ∧ SqE K H a xs ∧ ∀ H', Same H H' → Q (.bl true) H'
def spFew : Sp := fun vs H Q _ => ∃ n : Int, vs = [.int n] ∧ n ≤ 500 ∧ Q .non H
structure TxW (K : PySem.W.Frag) (mg : Str → Option Value) (C : Addr) : Prop where
  cl : Cls K C
  nL : NoAttr K C "letters"
  nN : NoAttr K C "length"
  nK : NoAttr K C "kinds"
  nS : NoAttr K C "is_short"
  nR : NoAttr K C "is_short_round"
  ca : PySem.W.findIn K (.ref C) "__class__" = some (some (.builtin "object.__class__"))
  cn : PySem.W.specialIn K (.builtin "object.__class__") "__get__" = some (some (.builtin "getset_descriptor.__get__"))
  ct : PySem.W.takesIn K (.builtin "object.__class__") = some true
  cm : PySem.W.mroIn K C (.type "object") = some true
  mgW : mg "Word" = some (.ref C)
  most : ∃ t, mg "MOST_LETTERS" = some (.int 500 t)
  isin : mg "isinstance" = none
  all : mg "all" = none
/-! ### a word -/
def wf (tl : Addr) (n : Nat) (tk : Addr) (b1 b2 : Bool) : List (Str × V) := [("letters", .ref tl), ("length", .int (n : Int)), ("kinds", .ref tk), ("is_short", .bl b1), ("is_short_round", .bl b2)]
theorem ne1 : ¬ (("letters" : Str) = "length") := by decide +kernel
theorem ne2 : ¬ (("letters" : Str) = "kinds") := by decide +kernel
theorem ne3 : ¬ (("letters" : Str) = "is_short") := by decide +kernel
theorem ne4 : ¬ (("letters" : Str) = "is_short_round") := by decide +kernel
theorem ne5 : ¬ (("length" : Str) = "kinds") := by decide +kernel
theorem ne6 : ¬ (("length" : Str) = "is_short") := by decide +kernel
theorem ne7 : ¬ (("length" : Str) = "is_short_round") := by decide +kernel
theorem ne8 : ¬ (("kinds" : Str) = "is_short") := by decide +kernel
theorem ne9 : ¬ (("kinds" : Str) = "is_short_round") := by decide +kernel
theorem ne10 : ¬ (("is_short" : Str) = "is_short_round") := by decide +kernel
theorem lk_eq {k : Str} {v : V} {t : List (Str × V)} : List.lookup k ((k, v) :: t) = some v := by
  rw [List.lookup_cons, beq_self_eq_true k]
theorem lk_ne {k g : Str} {v : V} {t : List (Str × V)} (h : ¬ k = g) : List.lookup k ((g, v) :: t) = List.lookup k t := by
  rw [List.lookup_cons, show (k == g) = false from beq_eq_false_iff_ne.mpr h]
theorem pf_ne {k g : Str} {v x : V} {t : List (Str × V)} (h : ¬ g = k) : putF k v ((g, x) :: t) = (g, x) :: putF k v t := by
  show (if g = k then _ else _) = _
  rw [if_neg h]
theorem wf_letters {tl tk n b1 b2} : (wf tl n tk b1 b2).lookup ("letters" : Str) = some (.ref tl) := lk_eq
theorem wf_length {tl tk n b1 b2} : (wf tl n tk b1 b2).lookup ("length" : Str) = some (.int (n : Int)) := by
  unfold wf
  rw [lk_ne fun e => ne1 e.symm, lk_eq]
theorem wf_kinds {tl tk n b1 b2} : (wf tl n tk b1 b2).lookup ("kinds" : Str) = some (.ref tk) := by
  unfold wf
  rw [lk_ne fun e => ne2 e.symm, lk_ne fun e => ne5 e.symm, lk_eq]
theorem wf_short {tl tk n b1 b2} : (wf tl n tk b1 b2).lookup ("is_short" : Str) = some (.bl b1) := by
  unfold wf
  rw [lk_ne fun e => ne3 e.symm, lk_ne fun e => ne6 e.symm, lk_ne fun e => ne8 e.symm, lk_eq]
theorem wf_round {tl tk n b1 b2} : (wf tl n tk b1 b2).lookup ("is_short_round" : Str) = some (.bl b2) := by
  unfold wf
  rw [lk_ne fun e => ne4 e.symm, lk_ne fun e => ne7 e.symm, lk_ne fun e => ne9 e.symm, lk_ne fun e => ne10 e.symm, lk_eq]
theorem wf_no {tl tk n b1 b2} {m : Str} (h1 : ¬ m = "letters") (h2 : ¬ m = "length") (h3 : ¬ m = "kinds") (h4 : ¬ m = "is_short") (h5 : ¬ m = "is_short_round") : (wf tl n tk b1 b2).lookup m = none := by
  unfold wf
  rw [lk_ne h1, lk_ne h2, lk_ne h3, lk_ne h4, lk_ne h5]
  rfl
def WordAt (K : PySem.W.Frag) (C : Addr) (H : Hp) (p : Addr) (ns : List Int) : Prop :=
  ∃ (dx tl tk : Addr) (ks : List Int), H p = some (.ins C dx (wf tl ns.length tk (decide (Fr.shr ns = ns)) (decide (Fr.rnd ns = ns)))) ∧ SqT K H tl (iv ns) ∧ SqT K H tk (iv ks) ∧ kindsOk ns ks
theorem WordAt.same {K : PySem.W.Frag} {C : Addr} {H H' : Hp} {p : Addr} {ns : List Int} (h : WordAt K C H p ns) (s : Same H H') : WordAt K C H' p ns := by
  obtain ⟨dx, tl, tk, ks, h1, h2, h3, h4⟩ := h
  exact ⟨dx, tl, tk, ks, s _ _ h1, WR.Same.seqT s h2, WR.Same.seqT s h3, h4⟩
theorem Lts.nz {ns : List Int} (h : Lts ns) : Fr.NZ ns := fun a ha => by
  have := h a ha
  omega
def spInit (K : PySem.W.Frag) (C : Addr) : Sp := fun vs H Q _ => ∃ (H0 : Hp) (p dx a : Addr) (ns : List Int), vs = [.ref p, .ref a] ∧ Same H0 H ∧ H0 p = none ∧ H p = some (.ins C dx []) ∧ SqE K H0 a (iv ns) ∧ ns.length ≤ 500 ∧ Lts ns ∧
  ∀ H', Same H0 H' → WordAt K C H' p ns → Q .non H'
/-! ### tuples of ints held against one another -/
theorem dp_iv {K : PySem.W.Frag} {H : Hp} : ∀ ns : List Int, DpAll K H (iv ns) (ns.map PyData.int)
  | [] => .nil
  | n :: r => .cons (.int n) (dp_iv r)
theorem eqvAll_ints : ∀ ns ms : List Int, PyData.eqvAll (ns.map PyData.int) (ms.map PyData.int) = decide (ns = ms)
  | [], [] => rfl
  | [], b :: r => rfl
  | a :: r, [] => rfl
  | a :: r, b :: q => by
    have ih := eqvAll_ints r q
    show (PyData.eqv (.int a) (.int b) && PyData.eqvAll (r.map PyData.int) (q.map PyData.int)) = _
    rw [ih]
    have : PyData.eqv (.int a) (.int b) = decide (a = b) := by
      simp only [PyData.eqv]
      exact Bool.eq_iff_iff.mpr (by simp)
    rw [this]
    by_cases e1 : a = b <;> by_cases e2 : r = q <;> simp [e1, e2]
theorem eqv_ints (ns ms : List Int) : PyData.eqv (.tuple (ns.map .int)) (.tuple (ms.map .int)) = decide (ns = ms) := by
  show PyData.eqvAll _ _ = _
  exact eqvAll_ints ns ms
theorem lay_ints : ∀ ns : List Int, PyData.canLayAll0 (ns.map PyData.int) = true ∧ PyData.depthAll (ns.map PyData.int) = 0
  | [] => ⟨rfl, rfl⟩
  | n :: r => by
    obtain ⟨h1, h2⟩ := lay_ints r
    exact ⟨by simp [PyData.canLayAll0, PyData.canLay0, h1], by simp [PyData.depthAll, PyData.depth, h2]⟩
theorem shaped_ints (ns : List Int) : SeqAt.shaped (.tuple (ns.map .int)) = true := by
  obtain ⟨h1, h2⟩ := lay_ints ns
  simp [SeqAt.shaped, PyData.canLay0, PyData.depth, h1, h2]
section
variable {P : Program} {w : World} {K : PySem.W.Frag} {mg : Str → Option Value} {base : Heap}
theorem ok_listE {f : Addr} {fd : FuncData} (F : Fun K "is_listed" "is_listed" sListed f fd) (T : TxI mg) : FnOk P w K mg base CX0 1 f fd ["value"] (spListE K) := by
  refine F.ok scListed (fun vs H Q E h => ?_) (fun cdv A outer s H vs Q E hr h => ?_)
  · obtain ⟨a, xs, rfl, _⟩ := h
    rfl
  · obtain ⟨a, xs, rfl, hS, k⟩ := h
    refine ⟨_, pss_one (ps_ret (pe_callB call_isiT (by rfl) T.isin (by decide +kernel) (pa_cons (pv 0) (pa_cons (pe_tup (pa_cons (pe_bltn (v := .ty "list") (by rfl) T.list (by decide +kernel) rfl) (pa_cons (pe_bltn (v := .ty "tuple") (by rfl) T.tuple (by decide +kernel) rfl) pa_nil))) pa_nil)))), ?_⟩
    refine ⟨_, rfl, (by show 2 ≤ sizeLine; decide), fun p hp => ?_⟩
    have sm : Same H (upd H p (.tup [.ty "list", .ty "tuple"])) := same_upd hp
    rcases hS.same sm with hS | hS
    · exact ⟨_, p, _, _, _, _, rfl, upd_same, .cons (.ty _) (.cons (.ty _) .nil), SqL.tyx hS, (by rfl), k _ sm⟩
    · exact ⟨_, p, _, _, _, _, rfl, upd_same, .cons (.ty _) (.cons (.ty _) .nil), SqT.tyx hS, (Typ.tup (H := fun _ => some (.tup [])) (p := a) (xs := []) rfl).kSeq, k _ sm⟩
theorem scFew : FnScope ["many"] ["many"] (defScope sFew) := ⟨rfl, rfl, rfl, by decide +kernel, rfl, by decide +kernel, by decide +kernel⟩
theorem ok_few {C : Addr} {f : Addr} {fd : FuncData} (F : Fun K "need_few_letters" "need_few_letters" sFew f fd) (T : TxW K mg C) : FnOk P w K mg base CX0 1 f fd ["many"] spFew := by
  refine F.ok scFew (fun vs H Q E h => ?_) (fun cdv A outer s H vs Q E hr h => ?_)
  · obtain ⟨n, rfl, _⟩ := h
    rfl
  · obtain ⟨n, rfl, hn, k⟩ := h
    obtain ⟨tk, mM⟩ := T.most
    refine ⟨_, pss_one (ps_if (pt_cmpR op_gt (pv 0) (pe_glob (v := .int 500) (by rfl) mM ⟨_, rfl⟩) (nomark _)) (pss_one ps_never) pss_nil), ?_⟩
    refine ⟨_, rfl, _, _, rfl, rfl, _, rfl, ?_⟩
    exact iteF' (decide_eq_false (by omega)) k
end
end W55
set_option Elab.async false
set_option linter.all false
set_option maxRecDepth 100000
set_option maxHeartbeats 2000000
namespace W55
open PySem L2 PySem.Spec PyProof.Rows WR
theorem SqT.put {K : PySem.W.Frag} {H : Hp} {a p C dx : Addr} {fs : List (Str × V)} {o : HO} {xs : List V} (h : SqT K H a xs) (hp : H p = some (.ins C dx fs)) : SqT K (L2.upd H p o) a xs := by
  rcases h with h | h
  · left
    have ne : ∀ u, H a = some u → (∀ C dx fs, u ≠ .ins C dx fs) → a ≠ p := fun u e q z => by
      rw [z, hp] at e
      exact q _ _ _ (Option.some.inj e).symm
    rcases h with h | ⟨o', h⟩
    · exact .inl (by rw [upd_ne (ne _ h fun _ _ _ => by intro z; cases z)]; exact h)
    · exact .inr ⟨o', by rw [upd_ne (ne _ h fun _ _ _ => by intro z; cases z)]; exact h⟩
  · exact .inr h
theorem same_put {H0 H : Hp} {p : Addr} {o : HO} (s : Same H0 H) (hp : H0 p = none) : Same H0 (L2.upd H p o) := fun b u e => by
  have : b ≠ p := fun z => by rw [z, hp] at e; cases e
  rw [upd_ne this]
  exact s _ _ e
theorem letter_ok {i : Int} (h : 1 ≤ i.natAbs ∧ i.natAbs ≤ 26) : letterB (.int i) = true := by
  show ((decide (-26 ≤ i) && decide (i ≤ 26)) && !decide (i = 0)) = true
  rw [decide_eq_true (by omega), decide_eq_true (by omega), decide_eq_false (by omega)]
  rfl
theorem all_ok {ns : List Int} (h : Lts ns) : ((ns.map fun i => letterB (.int i)).all id) = true := by
  rw [List.all_eq_true]
  intro b hb
  obtain ⟨i, hi, rfl⟩ := List.mem_map.mp hb
  exact letter_ok (h i hi)
theorem bl_of {b c : Bool} (h : b = c) : V.bl b = V.bl c := by rw [h]
theorem kindsOk_ex (ns : List Int) : True := trivial
theorem not_lc {r : List V → Hp → VK → Prop} {wi : TI} {g : TG} {tt : TT} {te : TE} {vs : List Nat} {σ : L2.St} {H : Hp} {Q : Bool → Hp → Prop}
    (h : wi σ H fun J H1 => tLc (fun _ H R => R J H) g tt te vs σ H1 fun x H2 => r [x] H2 fun v H3 => ∃ c, v = .bl c ∧ Q (!c) H3) :
    tNot (fun σ H Q => tCB r (tCons (tLc wi g tt te vs) tNil) σ H fun x H1 => ∃ c, x = .bl c ∧ Q c H1) σ H Q := h
abbrev nInit : List Str := ["self", "letters", "letter"]
section
variable {P : Program} {w : World} {K : PySem.W.Frag} {mg : Str → Option Value} {base : Heap}
theorem scInit : FnScope nInit ["self", "letters"] (defScope sInit) := ⟨rfl, rfl, rfl, by decide +kernel, rfl, by decide +kernel, by decide +kernel⟩
theorem ok_init {C f : Addr} {fd : FuncData} (F : Fun K "__init__" "Word.__init__" sInit f fd) (T : TxW K mg C) (TA : TxA mg) (GL : Cal P w K mg base "is_listed" 1 ["value"] (spListE K)) (GX : Cal P w K mg base "is_letter" 3 ["value"] spLetter)
    (GF : Cal P w K mg base "need_few_letters" 1 ["many"] spFew) (GK : Cal P w K mg base "kinds_of" 1 ["letters"] (spKinds K)) (GS : Cal P w K mg base "shortened_letters" 1 ["letters"] (spShr K)) (GR : Cal P w K mg base "rounded_letters" 2 ["letters"] (spRnd K)) :
    FnOk P w K mg base CX0 4 f fd ["self", "letters"] (spInit K C) := by
  refine F.ok scInit (fun vs H Q E h => ?_) (fun cdv A outer s H vs Q E hr h => ?_)
  · obtain ⟨H0, p, dx, a, ns, rfl, _⟩ := h
    rfl
  · obtain ⟨H0, p, dx, a, ns, rfl, s0, p0, hp, hS, hlen, hl, k⟩ := h
    rcases hS with hS | hS
    · refine ⟨_, pss_cons (ps_if (PW.pt (pw_or (pt_not (pt_val (pe_cal GL hr (by decide) (by rfl) (pa_cons (pv 1) pa_nil)))) (pw_or1 (pt_not (pt_val (pe_callB (cr_all rfl) (by rfl) T.all (by decide +kernel) (pa_cons (pe_lc (own := [("letter", 2)]) (g := gName 2) (tt := tYes) rfl scInit.nd (pi_list (pv 1))
          (blkOk_by (N := nInit) (sc := defScope sInit) (by decide +kernel)) (fun _ _ _ _ _ => pg_name (i := 2) scInit.nd rfl (Or.inl rfl)) (fun _ _ _ _ _ => pts_nil)
          (fun _ _ _ _ _ => pe_cal GX hr (by decide) (by rfl) (pa_cons (pv 2) pa_nil))) pa_nil))))))) (pss_one ps_never) pss_nil)
        (pss_cons (ps_expr (pe_cal GF hr (by decide) (by rfl) (pa_cons (pe_callB call_len_seq (by rfl) TA.len PySem.boot_len (pa_cons (pv 1) pa_nil)) pa_nil)))
        (pss_cons (ps_fld (pv 0) (pe_callTy call_tuple_of (by rfl) TA.tuple (by decide +kernel) (pa_cons (pv 1) pa_nil)) rfl)
        (pss_cons (ps_fld (pv 0) (pe_callB call_len_seq (by rfl) TA.len PySem.boot_len (pa_cons (pv 1) pa_nil)) rfl)
        (pss_cons (ps_fld (pv 0) (pe_cal GK hr (by decide) (by rfl) (pa_cons (pv 1) pa_nil)) rfl)
        (pss_cons (ps_fld (pv 0) (pe_cmpR (op_eqD hr.units) (pe_cal GS hr (by decide) (by rfl) (pa_cons (pv 1) pa_nil)) (pe_fld (pv 0) rfl) (nomark _)) rfl)
        (pss_one (ps_fld (pv 0) (pe_cmpR (op_eqD hr.units) (pe_cal GR hr (by decide) (by rfl) (pa_cons (pv 1) pa_nil)) (pe_fld (pv 0) rfl) (nomark _)) rfl))))))), ?_⟩
      have E0 : SqE K H0 a (iv ns) := .inl hS
      refine ⟨_, rfl, a, _, rfl, E0.same s0, fun H1 s1 => ⟨_, rfl, ?_⟩⟩
      have s01 := s0.trans s1
      refine iteF ?_
      refine not_lc ?_
      refine ⟨_, rfl, a, rfl, ⟨_, (s01.seq hS)⟩, ?_⟩
      refine lcp (walk_list (xs := iv ns)) (fun _ => true) (fun x => .bl (letterB x)) (by simp; omega) (fun H2 s2 => (s01.trans s2).seq hS) ?_ ?_
      · intro x hx H2 s2 Qy Qn ky kn
        obtain ⟨i, hi, rfl⟩ := List.mem_map.mp hx
        exact ⟨rfl, yes_te ⟨_, rfl, .int i, _, rfl, .int i, ky rfl H2 (fun _ _ e => e)⟩⟩
      intro D H2 hD s2 h2
      have s02 := s01.trans s2
      refine ⟨D, ns.map fun i => letterB (.int i), rfl, SqL.of (by
        rw [h2, List.filter_eq_self.mpr (fun _ _ => rfl), List.map_map, List.map_map]
        rfl), ?_⟩
      rw [all_ok hl]
      refine ⟨_, rfl, iteF ?_⟩
      -- not too many
      refine ⟨_, rfl, a, _, rfl, E0.same s02, ((iv ns).length : Int), rfl, by rw [List.length_map]; omega, ?_⟩
      have hp2 : H2 p = some (.ins C dx []) := s2 _ _ (s1 _ _ hp)
      -- its letters
      refine ⟨_, rfl, a, _, rfl, .inl ⟨s02.seq hS, fun tl htl => ?_⟩⟩
      have s3 := s02.trans (same_upd (o := .tup (iv ns)) htl)
      have hp3 : L2.upd H2 tl (.tup (iv ns)) p = some (.ins C dx []) := by rw [upd_ne (ne_of_none hp2 htl)]; exact hp2
      have t3 : SqT K (L2.upd H2 tl (.tup (iv ns))) tl (iv ns) := SqT.of upd_same
      refine gen_heap fun H3 e3 => ?_
      rw [← e3] at s3 hp3 t3
      refine ⟨_, rfl, p, C, dx, _, rfl, hp3, T.cl, T.nL, (by show 0 < 1000; decide), ?_⟩
      have hp4 : L2.upd H3 p (.ins C dx (putF "letters" (.ref tl) [])) p = some (.ins C dx [("letters", .ref tl)]) := by rw [upd_same]; rfl
      have s4 := same_put (o := .ins C dx (putF "letters" (.ref tl) [])) s3 p0
      have t4 := SqT.put (o := .ins C dx (putF "letters" (.ref tl) [])) t3 hp3
      refine gen_heap fun H4 e4 => ?_
      rw [← e4] at hp4 s4 t4
      -- how many
      refine ⟨_, rfl, a, _, rfl, E0.same s4, _, rfl, p, C, dx, _, rfl, hp4, T.cl, T.nN, (by show 1 < 1000; decide), ?_⟩
      have hp5 : L2.upd H4 p (.ins C dx (putF "length" (.int ((iv ns).length : Nat)) [("letters", .ref tl)])) p = some (.ins C dx [("letters", .ref tl), ("length", .int (ns.length : Nat))]) := by
        rw [upd_same, pf_ne ne1, List.length_map]
        rfl
      have s5 := same_put (o := .ins C dx (putF "length" (.int ((iv ns).length : Nat)) [("letters", .ref tl)])) s4 p0
      have t5 := SqT.put (o := .ins C dx (putF "length" (.int ((iv ns).length : Nat)) [("letters", .ref tl)])) t4 hp4
      refine gen_heap fun H5 e5 => ?_
      rw [← e5] at hp5 s5 t5
      -- its kinds
      refine ⟨_, rfl, a, ns, rfl, E0.same s5, by omega, hl, fun ks hk tk H6 s6 tk6 => ?_⟩
      have hp6 := s6 _ _ hp5
      have s06 := s5.trans s6
      have t6 := WR.Same.seqT s6 t5
      refine ⟨_, rfl, p, C, dx, _, rfl, hp6, T.cl, T.nK, (by show 2 < 1000; decide), ?_⟩
      have hp7 : L2.upd H6 p (.ins C dx (putF "kinds" (.ref tk) [("letters", .ref tl), ("length", .int (ns.length : Nat))])) p = some (.ins C dx [("letters", .ref tl), ("length", .int (ns.length : Nat)), ("kinds", .ref tk)]) := by
        rw [upd_same, pf_ne ne2, pf_ne ne5]
        rfl
      have s7 := same_put (o := .ins C dx (putF "kinds" (.ref tk) [("letters", .ref tl), ("length", .int (ns.length : Nat))])) s06 p0
      have t7 := SqT.put (o := .ins C dx (putF "kinds" (.ref tk) [("letters", .ref tl), ("length", .int (ns.length : Nat))])) t6 hp6
      have k7 := SqT.put (o := .ins C dx (putF "kinds" (.ref tk) [("letters", .ref tl), ("length", .int (ns.length : Nat))])) tk6 hp6
      refine gen_heap fun H7 e7 => ?_
      rw [← e7] at hp7 s7 t7 k7
      -- short
      refine ⟨_, rfl, a, ns, rfl, E0.same s7, by omega, fun q H8 s8 q8 => ?_⟩
      have hp8 := s8 _ _ hp7
      have s08 := s7.trans s8
      have t8 := WR.Same.seqT s8 t7
      have k8 := WR.Same.seqT s8 k7
      refine ⟨_, rfl, p, C, dx, _, _, rfl, hp8, T.cl, T.nL, lk_eq, ?_⟩
      refine ⟨_, _, .tup q8 (dp_iv _), .tup t8 (dp_iv _), shaped_ints _, shaped_ints _, ?_⟩
      rw [eqv_ints]
      refine ⟨_, rfl, p, C, dx, _, rfl, hp8, T.cl, T.nS, (by show 3 < 1000; decide), ?_⟩
      have hp9 : L2.upd H8 p (.ins C dx (putF "is_short" (.bl (decide (Fr.shr ns = ns))) [("letters", .ref tl), ("length", .int (ns.length : Nat)), ("kinds", .ref tk)])) p = some (.ins C dx [("letters", .ref tl), ("length", .int (ns.length : Nat)), ("kinds", .ref tk), ("is_short", .bl (decide (Fr.shr ns = ns)))]) := by
        rw [upd_same, pf_ne ne3, pf_ne ne6, pf_ne ne8]
        rfl
      have s9 := same_put (o := .ins C dx (putF "is_short" (.bl (decide (Fr.shr ns = ns))) [("letters", .ref tl), ("length", .int (ns.length : Nat)), ("kinds", .ref tk)])) s08 p0
      have t9 := SqT.put (o := .ins C dx (putF "is_short" (.bl (decide (Fr.shr ns = ns))) [("letters", .ref tl), ("length", .int (ns.length : Nat)), ("kinds", .ref tk)])) t8 hp8
      have k9 := SqT.put (o := .ins C dx (putF "is_short" (.bl (decide (Fr.shr ns = ns))) [("letters", .ref tl), ("length", .int (ns.length : Nat)), ("kinds", .ref tk)])) k8 hp8
      refine gen_heap fun H9 e9 => ?_
      rw [← e9] at hp9 s9 t9 k9
      -- short round
      refine ⟨_, rfl, a, ns, rfl, E0.same s9, by omega, hl.nz, fun q2 Ha sa qa => ?_⟩
      have hpa := sa _ _ hp9
      have s0a := s9.trans sa
      have ta := WR.Same.seqT sa t9
      have ka := WR.Same.seqT sa k9
      refine ⟨_, rfl, p, C, dx, _, _, rfl, hpa, T.cl, T.nL, lk_eq, ?_⟩
      refine ⟨_, _, .tup qa (dp_iv _), .tup ta (dp_iv _), shaped_ints _, shaped_ints _, ?_⟩
      rw [eqv_ints]
      refine ⟨_, rfl, p, C, dx, _, rfl, hpa, T.cl, T.nR, (by show 4 < 1000; decide), ?_⟩
      refine k _ (same_put s0a p0) ⟨dx, tl, tk, ks, ?_, SqT.put ta hpa, SqT.put ka hpa, hk⟩
      rw [upd_same, pf_ne ne4, pf_ne ne7, pf_ne ne9, pf_ne ne10]
      rfl
    · refine ⟨_, pss_cons (ps_if (PW.pt (pw_or (pt_not (pt_val (pe_cal GL hr (by decide) (by rfl) (pa_cons (pv 1) pa_nil)))) (pw_or1 (pt_not (pt_val (pe_callB (cr_all rfl) (by rfl) T.all (by decide +kernel) (pa_cons (pe_lc (own := [("letter", 2)]) (g := gName 2) (tt := tYes) rfl scInit.nd (pi_tup (pv 1))
          (blkOk_by (N := nInit) (sc := defScope sInit) (by decide +kernel)) (fun _ _ _ _ _ => pg_name (i := 2) scInit.nd rfl (Or.inl rfl)) (fun _ _ _ _ _ => pts_nil)
          (fun _ _ _ _ _ => pe_cal GX hr (by decide) (by rfl) (pa_cons (pv 2) pa_nil))) pa_nil))))))) (pss_one ps_never) pss_nil)
        (pss_cons (ps_expr (pe_cal GF hr (by decide) (by rfl) (pa_cons (pe_callB call_len_seq (by rfl) TA.len PySem.boot_len (pa_cons (pv 1) pa_nil)) pa_nil)))
        (pss_cons (ps_fld (pv 0) (pe_callTy call_tuple_of (by rfl) TA.tuple (by decide +kernel) (pa_cons (pv 1) pa_nil)) rfl)
        (pss_cons (ps_fld (pv 0) (pe_callB call_len_seq (by rfl) TA.len PySem.boot_len (pa_cons (pv 1) pa_nil)) rfl)
        (pss_cons (ps_fld (pv 0) (pe_cal GK hr (by decide) (by rfl) (pa_cons (pv 1) pa_nil)) rfl)
        (pss_cons (ps_fld (pv 0) (pe_cmpR (op_eqD hr.units) (pe_cal GS hr (by decide) (by rfl) (pa_cons (pv 1) pa_nil)) (pe_fld (pv 0) rfl) (nomark _)) rfl)
        (pss_one (ps_fld (pv 0) (pe_cmpR (op_eqD hr.units) (pe_cal GR hr (by decide) (by rfl) (pa_cons (pv 1) pa_nil)) (pe_fld (pv 0) rfl) (nomark _)) rfl))))))), ?_⟩
      have E0 : SqE K H0 a (iv ns) := .inr hS
      refine ⟨_, rfl, a, _, rfl, E0.same s0, fun H1 s1 => ⟨_, rfl, ?_⟩⟩
      have s01 := s0.trans s1
      refine iteF ?_
      refine not_lc ?_
      refine ⟨_, rfl, a, rfl, ⟨_, (WR.Same.seqT s01 hS)⟩, ?_⟩
      refine lcp (walk_tup (xs := iv ns)) (fun _ => true) (fun x => .bl (letterB x)) (by simp; omega) (fun H2 s2 => WR.Same.seqT (s01.trans s2) hS) ?_ ?_
      · intro x hx H2 s2 Qy Qn ky kn
        obtain ⟨i, hi, rfl⟩ := List.mem_map.mp hx
        exact ⟨rfl, yes_te ⟨_, rfl, .int i, _, rfl, .int i, ky rfl H2 (fun _ _ e => e)⟩⟩
      intro D H2 hD s2 h2
      have s02 := s01.trans s2
      refine ⟨D, ns.map fun i => letterB (.int i), rfl, SqL.of (by
        rw [h2, List.filter_eq_self.mpr (fun _ _ => rfl), List.map_map, List.map_map]
        rfl), ?_⟩
      rw [all_ok hl]
      refine ⟨_, rfl, iteF ?_⟩
      -- not too many
      refine ⟨_, rfl, a, _, rfl, E0.same s02, ((iv ns).length : Int), rfl, by rw [List.length_map]; omega, ?_⟩
      have hp2 : H2 p = some (.ins C dx []) := s2 _ _ (s1 _ _ hp)
      -- its letters
      refine ⟨_, rfl, a, _, rfl, .inr ⟨WR.Same.seqT s02 hS, ?_⟩⟩
      have s3 := s02
      have hp3 := hp2
      have t3 : SqT K H2 a (iv ns) := WR.Same.seqT s02 hS
      refine gen_heap fun H3 e3 => ?_
      rw [← e3] at s3 hp3 t3
      refine ⟨_, rfl, p, C, dx, _, rfl, hp3, T.cl, T.nL, (by show 0 < 1000; decide), ?_⟩
      have hp4 : L2.upd H3 p (.ins C dx (putF "letters" (.ref a) [])) p = some (.ins C dx [("letters", .ref a)]) := by rw [upd_same]; rfl
      have s4 := same_put (o := .ins C dx (putF "letters" (.ref a) [])) s3 p0
      have t4 := SqT.put (o := .ins C dx (putF "letters" (.ref a) [])) t3 hp3
      refine gen_heap fun H4 e4 => ?_
      rw [← e4] at hp4 s4 t4
      -- how many
      refine ⟨_, rfl, a, _, rfl, E0.same s4, _, rfl, p, C, dx, _, rfl, hp4, T.cl, T.nN, (by show 1 < 1000; decide), ?_⟩
      have hp5 : L2.upd H4 p (.ins C dx (putF "length" (.int ((iv ns).length : Nat)) [("letters", .ref a)])) p = some (.ins C dx [("letters", .ref a), ("length", .int (ns.length : Nat))]) := by
        rw [upd_same, pf_ne ne1, List.length_map]
        rfl
      have s5 := same_put (o := .ins C dx (putF "length" (.int ((iv ns).length : Nat)) [("letters", .ref a)])) s4 p0
      have t5 := SqT.put (o := .ins C dx (putF "length" (.int ((iv ns).length : Nat)) [("letters", .ref a)])) t4 hp4
      refine gen_heap fun H5 e5 => ?_
      rw [← e5] at hp5 s5 t5
      -- its kinds
      refine ⟨_, rfl, a, ns, rfl, E0.same s5, by omega, hl, fun ks hk tk H6 s6 tk6 => ?_⟩
      have hp6 := s6 _ _ hp5
      have s06 := s5.trans s6
      have t6 := WR.Same.seqT s6 t5
      refine ⟨_, rfl, p, C, dx, _, rfl, hp6, T.cl, T.nK, (by show 2 < 1000; decide), ?_⟩
      have hp7 : L2.upd H6 p (.ins C dx (putF "kinds" (.ref tk) [("letters", .ref a), ("length", .int (ns.length : Nat))])) p = some (.ins C dx [("letters", .ref a), ("length", .int (ns.length : Nat)), ("kinds", .ref tk)]) := by
        rw [upd_same, pf_ne ne2, pf_ne ne5]
        rfl
      have s7 := same_put (o := .ins C dx (putF "kinds" (.ref tk) [("letters", .ref a), ("length", .int (ns.length : Nat))])) s06 p0
      have t7 := SqT.put (o := .ins C dx (putF "kinds" (.ref tk) [("letters", .ref a), ("length", .int (ns.length : Nat))])) t6 hp6
      have k7 := SqT.put (o := .ins C dx (putF "kinds" (.ref tk) [("letters", .ref a), ("length", .int (ns.length : Nat))])) tk6 hp6
      refine gen_heap fun H7 e7 => ?_
      rw [← e7] at hp7 s7 t7 k7
      -- short
      refine ⟨_, rfl, a, ns, rfl, E0.same s7, by omega, fun q H8 s8 q8 => ?_⟩
      have hp8 := s8 _ _ hp7
      have s08 := s7.trans s8
      have t8 := WR.Same.seqT s8 t7
      have k8 := WR.Same.seqT s8 k7
      refine ⟨_, rfl, p, C, dx, _, _, rfl, hp8, T.cl, T.nL, lk_eq, ?_⟩
      refine ⟨_, _, .tup q8 (dp_iv _), .tup t8 (dp_iv _), shaped_ints _, shaped_ints _, ?_⟩
      rw [eqv_ints]
      refine ⟨_, rfl, p, C, dx, _, rfl, hp8, T.cl, T.nS, (by show 3 < 1000; decide), ?_⟩
      have hp9 : L2.upd H8 p (.ins C dx (putF "is_short" (.bl (decide (Fr.shr ns = ns))) [("letters", .ref a), ("length", .int (ns.length : Nat)), ("kinds", .ref tk)])) p = some (.ins C dx [("letters", .ref a), ("length", .int (ns.length : Nat)), ("kinds", .ref tk), ("is_short", .bl (decide (Fr.shr ns = ns)))]) := by
        rw [upd_same, pf_ne ne3, pf_ne ne6, pf_ne ne8]
        rfl
      have s9 := same_put (o := .ins C dx (putF "is_short" (.bl (decide (Fr.shr ns = ns))) [("letters", .ref a), ("length", .int (ns.length : Nat)), ("kinds", .ref tk)])) s08 p0
      have t9 := SqT.put (o := .ins C dx (putF "is_short" (.bl (decide (Fr.shr ns = ns))) [("letters", .ref a), ("length", .int (ns.length : Nat)), ("kinds", .ref tk)])) t8 hp8
      have k9 := SqT.put (o := .ins C dx (putF "is_short" (.bl (decide (Fr.shr ns = ns))) [("letters", .ref a), ("length", .int (ns.length : Nat)), ("kinds", .ref tk)])) k8 hp8
      refine gen_heap fun H9 e9 => ?_
      rw [← e9] at hp9 s9 t9 k9
      -- short round
      refine ⟨_, rfl, a, ns, rfl, E0.same s9, by omega, hl.nz, fun q2 Ha sa qa => ?_⟩
      have hpa := sa _ _ hp9
      have s0a := s9.trans sa
      have ta := WR.Same.seqT sa t9
      have ka := WR.Same.seqT sa k9
      refine ⟨_, rfl, p, C, dx, _, _, rfl, hpa, T.cl, T.nL, lk_eq, ?_⟩
      refine ⟨_, _, .tup qa (dp_iv _), .tup ta (dp_iv _), shaped_ints _, shaped_ints _, ?_⟩
      rw [eqv_ints]
      refine ⟨_, rfl, p, C, dx, _, rfl, hpa, T.cl, T.nR, (by show 4 < 1000; decide), ?_⟩
      refine k _ (same_put s0a p0) ⟨dx, a, tk, ks, ?_, SqT.put ta hpa, SqT.put ka hpa, hk⟩
      rw [upd_same, pf_ne ne4, pf_ne ne7, pf_ne ne9, pf_ne ne10]
      rfl
end
end W55
set_option Elab.async false
set_option linter.all false
set_option maxRecDepth 100000
set_option maxHeartbeats 2000000
namespace W55
open PySem L2 PySem.Spec PyProof.Rows WR
abbrev sEq : Stmt := inClass (top 31) 1
abbrev sShort : Stmt := inClass (top 31) 5
abbrev sThen : Stmt := inClass (top 31) 8
abbrev sTimes : Stmt := inClass (top 31) 9
abbrev sNeedI : Stmt := top 21
/-- some word of these letters, all else as it stood -/
def NewW (K : PySem.W.Frag) (C : Addr) (H : Hp) (Q : VK) (ns : List Int) : Prop := ∀ p H', Same H H' → WordAt K C H' p ns → Q (.ref p) H'
theorem make_word {K : PySem.W.Frag} {C : Addr} {H1 : Hp} {q : Addr} {ms : List Int} {Q : VK} {E : XK} (hq : SqE K H1 q (iv ms)) (hlen : ms.length ≤ 500) (hl : Lts ms) (k : NewW K C H1 Q ms) :
    ∀ x dx, H1 x = none → H1 dx = none → dx ≠ x → spInit K C [.ref x, .ref q] (L2.upd (L2.upd H1 dx (.own x)) x (.ins C dx [])) (fun v H2 => v = .non ∧ Q (.ref x) H2) E := by
  intro x dx nx ndx nex
  have s0 : Same H1 (L2.upd (L2.upd H1 dx (.own x)) x (.ins C dx [])) := fun b o e => by
    rw [upd_ne (ne_of_none e nx), upd_ne (ne_of_none e ndx)]
    exact e
  exact ⟨H1, x, dx, q, ms, rfl, s0, nx, upd_same, hq, hlen, hl, fun H' s' W' => ⟨rfl, k x H' s' W'⟩⟩
def spOne (K : PySem.W.Frag) (C : Addr) (fn : List Int → List Int) : Sp := fun vs H Q _ => ∃ (p : Addr) (ns : List Int), vs = [.ref p] ∧ WordAt K C H p ns ∧ ns.length ≤ 500 ∧ Lts ns ∧ NewW K C H Q (fn ns)
def spEq (K : PySem.W.Frag) (C : Addr) : Sp := fun vs H Q _ => ∃ (p q : Addr) (ns ms : List Int), vs = [.ref p, .ref q] ∧ WordAt K C H p ns ∧ WordAt K C H q ms ∧ Q (.bl (decide (ns = ms))) H
def spThen (K : PySem.W.Frag) (C : Addr) : Sp := fun vs H Q _ => ∃ (p q : Addr) (ns ms : List Int), vs = [.ref p, .ref q] ∧ WordAt K C H p ns ∧ WordAt K C H q ms ∧ ns.length + ms.length ≤ 500 ∧ Lts ns ∧ Lts ms ∧ NewW K C H Q (ns ++ ms)
/-- so many times, for a number below 0 the contrary so many times -/
def tms (n : Int) (ns : List Int) : List Int := if 0 < n then Fr.rep n.natAbs ns else Fr.rep n.natAbs (Fr.con ns)
def spTimes (K : PySem.W.Frag) (C : Addr) : Sp := fun vs H Q _ => ∃ (p : Addr) (n : Int) (ns : List Int), vs = [.ref p, .int n] ∧ WordAt K C H p ns ∧ ns.length ≤ 500 ∧ ns.length * n.natAbs ≤ 500 ∧ Lts ns ∧ NewW K C H Q (tms n ns)
def spNeedW (K : PySem.W.Frag) (C : Addr) : Sp := fun vs H Q _ => ∃ (q : Addr) (z : V) (ms : List Int), vs = [.ref q, z] ∧ WordAt K C H q ms ∧ Q .non H
def spNeedI : Sp := fun vs H Q _ => ∃ (n : Int) (z : V), vs = [.int n, z] ∧ Q .non H
theorem Lts.con {ns : List Int} (h : Lts ns) : Lts (Fr.con ns) := fun x hx => by
  unfold Fr.con at hx
  obtain ⟨y, hy, rfl⟩ := List.mem_map.mp hx
  have := h y (List.mem_reverse.mp hy)
  rw [Int.natAbs_neg]
  exact this
theorem Lts.app {ns ms : List Int} (h : Lts ns) (k : Lts ms) : Lts (ns ++ ms) := fun x hx => by
  rcases List.mem_append.mp hx with e | e
  · exact h x e
  · exact k x e
theorem Lts.shr {ns : List Int} (h : Lts ns) : Lts (Fr.shr ns) := fun x hx => h x (Fr.shr_mem hx)
theorem Lts.rep {ns : List Int} (h : Lts ns) : ∀ n, Lts (Fr.rep n ns)
  | 0 => fun x hx => nomatch hx
  | n + 1 => h.app (Lts.rep h n)
theorem rnd_sub {ns : List Int} (nz : Fr.NZ ns) : ∃ u, Fr.shr ns = u ++ Fr.rnd ns ++ Fr.con u := by
  obtain ⟨u, m, e, c, z⟩ := Fr.parted (Fr.shr ns) nz.shr (Fr.rd_shr ns)
  refine ⟨u, ?_⟩
  have er : Fr.rnd ns = m := by
    unfold Fr.rnd
    rw [e, Fr.ends_eq c z]
  rw [er]
  exact e
theorem Lts.rnd {ns : List Int} (h : Lts ns) : Lts (Fr.rnd ns) := fun x hx => by
  obtain ⟨u, e⟩ := rnd_sub h.nz
  refine h.shr x ?_
  rw [e]
  simp [hx]
theorem rnd_len {ns : List Int} (h : Lts ns) : (Fr.rnd ns).length ≤ ns.length := by
  obtain ⟨u, e⟩ := rnd_sub h.nz
  have h1 := shr_len ns
  rw [e] at h1
  rw [whole_len] at h1
  omega
theorem rep_flat (n : Nat) (ns : List Int) : (List.replicate n (iv ns)).flatten = iv (Fr.rep n ns) := by
  induction n with
  | zero => rfl
  | succ n ih => 
    rw [List.replicate_succ, List.flatten_cons, ih, Fr.rep_succ]
    exact List.map_append.symm
theorem WordAt.tyx {K : PySem.W.Frag} {mg : Str → Option Value} {C : Addr} {H : Hp} {p : Addr} {ns : List Int} (h : WordAt K C H p ns) (T : TxW K mg C) : TyX K H (.ref p) (.ref C) := by
  obtain ⟨dx, tl, tk, ks, h1, _⟩ := h
  exact .base (.ins h1 T.cl T.ca T.cn T.ct T.cm)
theorem kit_self {K : PySem.W.Frag} (C : Addr) : PySem.W.kitOne K (.ref C) (.ref C) = some true := by
  unfold PySem.W.kitOne
  rw [if_pos (by simp)]
structure MkW (P : Program) (w : World) (K : PySem.W.Frag) (mg : Str → Option Value) (base : Heap) (C : Addr) : Prop where
  ex : ∃ (f : Addr) (fd : FuncData), Mk K C f ∧ FnOk P w K mg base CX0 4 f fd ["self", "letters"] (spInit K C) ∧ Binds K fd ["self", "letters"] []
section
variable {X : Cx} {C : Addr} {p pos : Pos} {e : Expr} {es : List Expr} {t : TA} {j : Nat}
theorem pe_word (M : MkW X.prog X.w X.K X.mg X.base C) (T : TxW X.K X.mg C) (hr : Room j X.A) (hkj : 5 ≤ j) (hg : Gl X "Word") (ha : PA X (e :: es) t)
    (he : starEach (e :: es) X.env = (false, eval e X.env) :: starEach es X.env := by rfl) (hpl : (backTo pos (starEach es X.env)).any (·.1) = false := by rfl) :
    PE X (.Call (.Name "Word" p) (e :: es) [] pos) (tMake C (spInit X.K C) [] E0 t) := by
  obtain ⟨f, fd, M, F, hb⟩ := M.ex
  exact pe_make M F (hr.mono hkj) hg T.mgW hb .nil pass0 ha (by decide) he hpl
end
section
variable {P : Program} {w : World} {K : PySem.W.Frag} {mg : Str → Option Value} {base : Heap}
theorem scEq : FnScope ["self", "other"] ["self", "other"] (defScope sEq) := ⟨rfl, rfl, rfl, by decide +kernel, rfl, by decide +kernel, by decide +kernel⟩
theorem ok_eq {C f : Addr} {fd : FuncData} (F : Fun K "__eq__" "Word.__eq__" sEq f fd) (T : TxW K mg C) : FnOk P w K mg base CX0 1 f fd ["self", "other"] (spEq K C) := by
  refine F.ok scEq (fun vs H Q E h => ?_) (fun cdv A outer s H vs Q E hr h => ?_)
  · obtain ⟨p, q, ns, ms, rfl, _⟩ := h
    rfl
  · obtain ⟨p, q, ns, ms, rfl, W1, W2, k⟩ := h
    refine ⟨_, pss_one (ps_ret (pe_and (pe_callB call_isi (by rfl) T.isin (by decide +kernel) (pa_cons (pv 1) (pa_cons (pe_glob (v := .ref C) (by rfl) T.mgW rfl) pa_nil)))
      (pe_one (pe_cmpR (op_eqD hr.units) (pe_fld (pv 0) rfl) (pe_fld (pv 1) rfl) (nomark _))))), ?_⟩
    refine ⟨_, rfl, _, _, _, _, _, rfl, .own C, W2.tyx T, kit_self C, _, rfl, ?_⟩
    refine iteT ?_
    obtain ⟨dx, tl, tk, ks, h1, h2, h3, h4⟩ := W1
    obtain ⟨dx', tl', tk', ks', h1', h2', h3', h4'⟩ := W2
    refine ⟨_, rfl, p, C, dx, _, _, rfl, h1, T.cl, T.nL, wf_letters, _, rfl, q, C, dx', _, _, rfl, h1', T.cl, T.nL, wf_letters, ?_⟩
    refine ⟨_, _, .tup h2 (dp_iv _), .tup h2' (dp_iv _), shaped_ints _, shaped_ints _, ?_⟩
    rw [eqv_ints]
    exact k
theorem scNeedW : FnScope ["value", "part"] ["value", "part"] (defScope sNeedW) := ⟨rfl, rfl, rfl, by decide +kernel, rfl, by decide +kernel, by decide +kernel⟩
theorem ok_needW {C f : Addr} {fd : FuncData} (F : Fun K "need_word" "need_word" sNeedW f fd) (T : TxW K mg C) : FnOk P w K mg base CX0 1 f fd ["value", "part"] (spNeedW K C) := by
  refine F.ok scNeedW (fun vs H Q E h => ?_) (fun cdv A outer s H vs Q E hr h => ?_)
  · obtain ⟨q, z, ms, rfl, _⟩ := h
    rfl
  · obtain ⟨q, z, ms, rfl, W2, k⟩ := h
    refine ⟨_, pss_one (ps_if (pt_not (pt_val (pe_callB call_isi (by rfl) T.isin (by decide +kernel) (pa_cons (pv 0) (pa_cons (pe_glob (v := .ref C) (by rfl) T.mgW rfl) pa_nil))))) (pss_one ps_never) pss_nil), ?_⟩
    exact ⟨_, rfl, _, _, _, _, _, rfl, .own C, W2.tyx T, kit_self C, _, rfl, iteF k⟩
theorem scNeedI : FnScope ["value", "part"] ["value", "part"] (defScope sNeedI) := ⟨rfl, rfl, rfl, by decide +kernel, rfl, by decide +kernel, by decide +kernel⟩
theorem ok_needI {f : Addr} {fd : FuncData} (F : Fun K "need_integer" "need_integer" sNeedI f fd) (GI : Cal P w K mg base "is_integer" 1 ["value"] spIsInt) : FnOk P w K mg base CX0 2 f fd ["value", "part"] spNeedI := by
  refine F.ok scNeedI (fun vs H Q E h => ?_) (fun cdv A outer s H vs Q E hr h => ?_)
  · obtain ⟨n, z, rfl, _⟩ := h
    rfl
  · obtain ⟨n, z, rfl, k⟩ := h
    refine ⟨_, pss_one (ps_if (pt_not (pt_val (pe_cal GI hr (by decide) (by rfl) (pa_cons (pv 0) pa_nil)))) (pss_one ps_never) pss_nil), ?_⟩
    exact ⟨_, rfl, .int n, _, rfl, .int n, _, rfl, iteF k⟩
theorem scShort : FnScope ["self"] ["self"] (defScope sShort) := ⟨rfl, rfl, rfl, by decide +kernel, rfl, by decide +kernel, by decide +kernel⟩
theorem ok_shortened {C f : Addr} {fd : FuncData} (F : Fun K "shortened" "Word.shortened" sShort f fd) (T : TxW K mg C) (M : MkW P w K mg base C) (GS : Cal P w K mg base "shortened_letters" 1 ["letters"] (spShr K)) :
    FnOk P w K mg base CX0 6 f fd ["self"] (spOne K C Fr.shr) := by
  refine F.ok scShort (fun vs H Q E h => ?_) (fun cdv A outer s H vs Q E hr h => ?_)
  · obtain ⟨p, ns, rfl, _⟩ := h
    rfl
  · obtain ⟨p, ns, rfl, ⟨dx, tl, tk, ks, h1, h2, h3, h4⟩, hlen, hl, k⟩ := h
    refine ⟨_, pss_one (ps_ret (pe_word M T hr (by decide) (by rfl) (pa_cons (pe_cal GS hr (by decide) (by rfl) (pa_cons (pe_fld (pv 0) rfl) pa_nil)) pa_nil))), ?_⟩
    refine ⟨_, rfl, p, C, dx, _, _, rfl, h1, T.cl, T.nL, wf_letters, tl, ns, rfl, .inr h2, by omega, fun q H1 s1 hq => ?_⟩
    exact make_word (.inr hq) (Nat.le_trans (shr_len ns) hlen) hl.shr fun x H' s' W => k x H' (s1.trans s') W
theorem scThen : FnScope ["self", "other"] ["self", "other"] (defScope sThen) := ⟨rfl, rfl, rfl, by decide +kernel, rfl, by decide +kernel, by decide +kernel⟩
theorem ok_then {C f : Addr} {fd : FuncData} (F : Fun K "then" "Word.then" sThen f fd) (T : TxW K mg C) (M : MkW P w K mg base C) (GN : Cal P w K mg base "need_word" 1 ["value", "part"] (spNeedW K C)) :
    FnOk P w K mg base CX0 6 f fd ["self", "other"] (spThen K C) := by
  refine F.ok scThen (fun vs H Q E h => ?_) (fun cdv A outer s H vs Q E hr h => ?_)
  · obtain ⟨p, q, ns, ms, rfl, _⟩ := h
    rfl
  · obtain ⟨p, q, ns, ms, rfl, W1, W2, hlen, hl, hl2, k⟩ := h
    refine ⟨_, pss_cons (ps_expr (pe_cal GN hr (by decide) (by rfl) (pa_cons (pv 1) (pa_cons pe_str pa_nil))))
      (pss_one (ps_ret (pe_word M T hr (by decide) (by rfl) (pa_cons (pe_op op_catU (pe_fld (pv 0) rfl) (pe_fld (pv 1) rfl)) pa_nil)))), ?_⟩
    refine ⟨_, rfl, q, _, ms, rfl, W2, ?_⟩
    obtain ⟨dx, tl, tk, ks, h1, h2, h3, h4⟩ := W1
    obtain ⟨dx', tl', tk', ks', h1', h2', h3', h4'⟩ := W2
    refine ⟨_, rfl, p, C, dx, _, _, rfl, h1, T.cl, T.nL, wf_letters, _, rfl, q, C, dx', _, _, rfl, h1', T.cl, T.nL, wf_letters, ?_⟩
    refine ⟨tl, tl', _, _, rfl, rfl, h2, h2', Evl.sz_of (by simp; omega), fun r H1 s1 hr1 => ?_⟩
    rw [← List.map_append] at hr1
    exact make_word (.inr hr1) (by rw [List.length_append]; exact hlen) (hl.app hl2) fun x H' s' W => k x H' (s1.trans s') W
theorem scTimes : FnScope ["self", "number", "once"] ["self", "number"] (defScope sTimes) := ⟨rfl, rfl, rfl, by decide +kernel, rfl, by decide +kernel, by decide +kernel⟩
theorem abs_eq (n : Int) : (if n < 0 then -n else n) = (n.natAbs : Int) := by split <;> omega
theorem ok_times {C f : Addr} {fd : FuncData} (F : Fun K "times" "Word.times" sTimes f fd) (T : TxW K mg C) (T2 : TxB mg) (M : MkW P w K mg base C) (GN : Cal P w K mg base "need_integer" 2 ["value", "part"] spNeedI)
    (GF : Cal P w K mg base "need_few_letters" 1 ["many"] spFew) (GC : Cal P w K mg base "contrary_letters" 1 ["letters"] (spCon K)) :
    FnOk P w K mg base CX0 6 f fd ["self", "number"] (spTimes K C) := by
  refine F.ok scTimes (fun vs H Q E h => ?_) (fun cdv A outer s H vs Q E hr h => ?_)
  · obtain ⟨p, n, ns, rfl, _⟩ := h
    rfl
  · obtain ⟨p, n, ns, rfl, ⟨dx, tl, tk, ks, h1, h2, h3, h4⟩, hns, hlen, hl, k⟩ := h
    refine ⟨_, pss_cons (ps_expr (pe_cal GN hr (by decide) (by rfl) (pa_cons (pv 1) (pa_cons pe_str pa_nil))))
      (pss_cons (ps_if (pt_cmpR op_eq (pe_fld (pv 0) rfl) pe_int (nomark _)) (pss_one (ps_ret (pe_word M T hr (by decide) (by rfl) (pa_cons (pe_lst pa_nil) pa_nil)))) pss_nil)
      (pss_cons (ps_expr (pe_cal GF hr (by decide) (by rfl) (pa_cons (pe_op op_mul (pe_fld (pv 0) rfl) (pe_callB call_abs (by rfl) T2.abs (by decide +kernel) (pa_cons (pv 1) pa_nil))) pa_nil)))
      (pss_cons (ps_set (i := 2) scTimes.nd rfl (Or.inl rfl) (pe_ifExp (pt_cmpR op_gt (pv 1) pe_int (nomark _)) (pe_fld (pv 0) rfl) (pe_cal GC hr (by decide) (by rfl) (pa_cons (pe_fld (pv 0) rfl) pa_nil))))
      (pss_one (ps_ret (pe_word M T hr (by decide) (by rfl) (pa_cons (pe_op op_repU (pv 2) (pe_callB call_abs (by rfl) T2.abs (by decide +kernel) (pa_cons (pv 1) pa_nil))) pa_nil))))))), ?_⟩
    refine ⟨_, rfl, n, _, rfl, ?_⟩
    refine ⟨_, rfl, p, C, dx, _, _, rfl, h1, T.cl, T.nN, wf_length, rfl, _, rfl, ?_⟩
    by_cases hz : ns = []
    · subst hz
      have e : tms n [] = [] := by
        unfold tms
        split
        · exact Fr.rep_nil _
        · exact Fr.rep_nil _
      rw [e] at k
      refine iteT' (decide_eq_true rfl) ?_
      refine ⟨Nat.zero_le _, fun q hq => ?_⟩
      exact make_word (q := q) (ms := []) (.inl (SqL.of upd_same)) (by simp) (fun x hx => nomatch hx) fun x H' s' W => k x H' ((same_upd hq).trans s') W
    · have hpos : 0 < ns.length := List.length_pos_iff.mpr hz
      have hn : n.natAbs ≤ 500 := Nat.le_trans (Nat.le_mul_of_pos_left _ hpos) hlen
      refine iteF' (decide_eq_false fun e => ?_) ?_
      · have e2 : V.int (ns.length : Int) = V.int 0 := e
        injection e2 with e3
        omega
      refine ⟨_, rfl, p, C, dx, _, _, rfl, h1, T.cl, T.nN, wf_length, _, rfl, n, rfl, _, _, rfl, rfl, .inl ⟨by omega, by omega⟩, _, rfl, ?_, ?_⟩
      · rw [abs_eq, ← Int.natCast_mul]
        omega
      have fin : ∀ (q : Addr) (ms : List Int) (H1 : Hp), Same H H1 → SqT K H1 q (iv ms) → ms.length = ns.length → Lts ms → Fr.rep n.natAbs ms = tms n ns →
          rRepU K (.ref q) (.int (if n < 0 then -n else n)) H1 fun v H2 => ∀ x dx, H2 x = none → H2 dx = none → dx ≠ x → spInit K C [.ref x, v] (L2.upd (L2.upd H2 dx (.own x)) x (.ins C dx [])) (fun v H3 => v = .non ∧ Q (.ref x) H3) L2.E0 := by
        intro q ms H1 s1 hq hm hlm e
        refine ⟨q, _, iv ms, rfl, rfl, hq, by rw [abs_eq]; omega, by rw [abs_eq]; omega, by rw [List.length_map]; omega, fun r H2 s2 hr2 => ?_⟩
        rw [abs_eq, Int.toNat_natCast, rep_flat, e] at hr2
        have el : (tms n ns).length ≤ 500 := by
          rw [← e, Fr.rep_length, hm, Nat.mul_comm]
          exact hlen
        exact make_word (.inr hr2) el (by rw [← e]; exact hlm.rep _) fun x H' s' W => k x H' ((s1.trans s2).trans s') W
      refine ⟨_, rfl, _, _, rfl, rfl, _, rfl, ?_⟩
      refine ite2 (fun hpn => ?_) (fun hpn => ?_)
      · have hpn' : 0 < n := of_decide_eq_true hpn
        refine ⟨_, rfl, p, C, dx, _, _, rfl, h1, T.cl, T.nL, wf_letters, ?_⟩
        exact ⟨_, rfl, _, rfl, n, rfl, fin tl ns H (Same.refl H) h2 rfl hl (by unfold tms; rw [if_pos hpn'])⟩
      · have hpn' : ¬ 0 < n := fun z => hpn (decide_eq_true z)
        refine ⟨_, rfl, p, C, dx, _, _, rfl, h1, T.cl, T.nL, wf_letters, tl, ns, rfl, h2, by omega, fun q H1 s1 hq => ?_⟩
        exact ⟨_, rfl, _, rfl, n, rfl, fin q (Fr.con ns) H1 s1 hq (Fr.con_length ns) hl.con (by unfold tms; rw [if_neg hpn'])⟩
end
end W55
set_option Elab.async false
set_option linter.all false
set_option maxRecDepth 100000
set_option maxHeartbeats 2000000
namespace W55
open PySem L2
abbrev sJar : Stmt := top 38
abbrev sDraw : Stmt := top 39
/-! ### the hand that draws -/
/-- at a: a hand, of which at most n cells were begun -/
def HandAt (H : Hp) (a c : Addr) (n : Nat) : Prop := ∃ (ns : List Int) (i r : Int), H a = some (.lst [.ref c, .int i, .int r]) ∧ H c = some (.lst (ns.map V.int)) ∧ c ≠ a ∧ ns.length ≤ 1000 ∧ 0 ≤ i ∧ i ≤ (n : Int) ∧ 0 ≤ r
/-- all but what is at a stands as it did -/
def Kept (a : Addr) (H H' : Hp) : Prop := ∀ b o, b ≠ a → H b = some o → H' b = some o
theorem Kept.refl {a : Addr} {H : Hp} : Kept a H H := fun _ _ _ e => e
theorem Kept.trans {a : Addr} {H H1 H2 : Hp} (h1 : Kept a H H1) (h2 : Kept a H1 H2) : Kept a H H2 := fun b o n e => h2 b o n (h1 b o n e)
theorem Kept.upd {a : Addr} {H : Hp} {o : HO} : Kept a H (upd H a o) := fun b u n e => by rw [upd_ne n]; exact e
theorem Kept.new {a p : Addr} {H H' : Hp} {o : HO} (k : Kept a H H') (hp : H' p = none) : Kept a H (L2.upd H' p o) := fun b u n e => by
  rw [upd_ne (ne_of_none (k b u n e) hp)]
  exact k b u n e

theorem HandAt.put {H : Hp} {a c : Addr} {ns : List Int} {i r : Int} {n : Nat} (hC : H c = some (.lst (ns.map V.int))) (hca : c ≠ a) (hl : ns.length ≤ 1000) (i0 : 0 ≤ i) (hi : i ≤ (n : Int)) (r0 : 0 ≤ r) :
    HandAt (L2.upd H a (.lst [.ref c, .int i, .int r])) a c n := ⟨ns, i, r, upd_same, by rw [upd_ne hca]; exact hC, hca, hl, i0, hi, r0⟩
def spHand (K : PySem.W.Frag) : Sp := fun vs H Q _ => ∃ (a : Addr) (ns : List Int), vs = [.ref a] ∧ SqL K H a (ns.map V.int) ∧ ns.length ≤ 1000 ∧
  ∀ (H' : Hp) (p c : Addr), Same H H' → H p = none → H c = none → HandAt H' p c 0 → Q (.ref p) H'
def spTake : Sp := fun vs H Q _ => ∃ (a c : Addr) (m : Int) (n : Nat), vs = [.ref a, .int m] ∧ HandAt H a c n ∧ n ≤ 10000 ∧ 0 < m ∧ m.natAbs < 2 ^ 200 ∧
  ∀ (H' : Hp) (q : Int), 0 ≤ q → q < m → HandAt H' a c (n + 1) → Kept a H H' → Q (.int q) H'

theorem dpInts {K : PySem.W.Frag} {H : Hp} : ∀ ns : List Int, DpAll K H (ns.map V.int) (ns.map PyData.int)
  | [] => .nil
  | n :: r => .cons (.int n) (dpInts r)
structure TxL (mg : Str → Option Value) : Prop where
  int : mg "int" = none
  len : mg "len" = none
  abs : mg "abs" = none
section
variable {P : Program} {w : World} {K : PySem.W.Frag} {mg : Str → Option Value} {base : Heap}
theorem scHand : FnScope ["_law_script", "_law_cell"] ["_law_script"] (defScope sJar) := ⟨rfl, rfl, rfl, by decide +kernel, rfl, by decide +kernel, by decide +kernel⟩
theorem ok_hand {f : Addr} {fd : FuncData} (F : Fun K "_law_pen" "_law_pen" sJar f fd) (T : TxL mg) : FnOk P w K mg base CX0 1 f fd ["_law_script"] (spHand K) := by
  refine F.ok scHand (fun vs H Q E h => ?_) (fun cdv A outer s H vs Q E hr h => ?_)
  · obtain ⟨a, ns, rfl, _⟩ := h
    rfl
  · obtain ⟨a, ns, rfl, hS, hlen, k⟩ := h
    refine ⟨_, pss_one (ps_ret (pe_lst (pa_cons (pe_lc (own := [("_law_cell", 1)]) (g := gName 1) (tt := tYes) rfl scHand.nd (pi_list (pe_slice sl_list (pv 0) po_none (po_some pe_int)))
      (blkOk_by (N := ["_law_script", "_law_cell"]) (sc := defScope sJar) (by decide +kernel)) (fun _ _ _ _ _ => pg_name (i := 1) scHand.nd rfl (Or.inl rfl)) (fun _ _ _ _ _ => pts_nil)
      (fun _ _ _ _ _ => pe_callTy call_int1 (by rfl) T.int (by decide +kernel) (pa_cons (pv 1) pa_nil))) (pa_cons pe_int (pa_cons pe_int pa_nil))))), ?_⟩
    refine ⟨_, rfl, 56, rfl, a, ns.map V.int, rfl, hS, fun p hp => ?_⟩
    refine ⟨p, rfl, ⟨_, SqL.of upd_same⟩, fun D hD => ?_⟩
    have hDp : D ≠ p := fun e => by
      rw [e, upd_same] at hD
      cases hD
    have hD0 : H D = none := by
      rw [upd_ne hDp] at hD
      exact hD
    have hc : cutV (ns.map V.int) none (some 56) = (ns.take 56).map V.int := by
      unfold cutV
      rw [List.map_take, List.length_map]
      have e0 : HT.sIx ns.length 0 none = 0 := rfl
      rw [e0, List.drop_zero]
      have e1 : HT.sIx ns.length ns.length (some 56) = min 56 ns.length := by
        unfold HT.sIx
        simp
        try omega
      rw [e1, Nat.sub_zero]
      by_cases h : 56 ≤ ns.length
      · rw [Nat.min_eq_left h]
      · rw [Nat.min_eq_right (by omega), List.take_of_length_le (by simp), List.take_of_length_le (by simp; omega)]
    refine lc_list (K := K) (a := p) (xs := (ns.take 56).map V.int) (fun i H' => H' D = some (.lst (((ns.take 56).take i).map V.int)) ∧ H' p = some (.lst ((ns.take 56).map V.int)) ∧ Same H H') ⟨upd_same, ?_, ?_⟩ (fun i H' _ q => SqL.of q.2.1) ?_ ?_
    · rw [upd_ne hDp.symm, upd_same, hc]
    · intro b o e
      rw [upd_ne (ne_of_none e hD0), upd_ne (ne_of_none e hp)]
      exact e
    · intro i x H' hi q
      obtain ⟨z, hz, rfl⟩ : ∃ z, (ns.take 56)[i]? = some z ∧ x = V.int z := by
        rw [List.getElem?_map] at hi
        cases e : (ns.take 56)[i]? with
        | none =>
          rw [e] at hi
          cases hi
        | some z =>
          rw [e] at hi
          exact ⟨z, rfl, (Option.some.inj hi).symm⟩
      have hli : i < (ns.take 56).length := (List.getElem?_eq_some_iff.mp hz).1
      have hl60 : (ns.take 56).length ≤ 56 := by rw [List.length_take]; omega
      refine ⟨rfl, ?_⟩
      refine yes_te ?_
      refine ⟨_, rfl, .inl ⟨z, rfl, _, q.1, Evl.sz_lt (by rw [List.length_map, List.length_take]; omega), ?_⟩⟩
      refine ⟨?_, ?_, ?_⟩
      · rw [upd_same]
        congr 2
        have ez : (ns.take 56)[i] = z := (List.getElem?_eq_some_iff.mp hz).2
        rw [List.take_succ_eq_append_getElem hli, ez, List.map_append]
        rfl
      · rw [upd_ne hDp.symm]
        exact q.2.1
      · intro b o e
        rw [upd_ne (ne_of_none e hD0)]
        exact q.2.2 b o e
    · intro H' q
      refine ⟨by show 3 ≤ sizeLine; decide, fun l hl => ?_⟩
      have hlD : D ≠ l := ne_of_none q.1 hl
      have hl0 : H l = none := by
        cases e : H l with
        | none => rfl
        | some o => rw [q.2.2 l o e] at hl; cases hl
      refine k _ l D (fun b o e => by rw [upd_ne (ne_of_none e hl0)]; exact q.2.2 b o e) hl0 hD0 ?_
      have q1 := q.1
      rw [List.length_map, List.take_length] at q1
      exact ⟨ns.take 56, 0, 0, upd_same, by rw [upd_ne hlD]; exact q1, hlD, by rw [List.length_take]; omega, Int.le_refl _, Int.le_refl _, Int.le_refl _⟩

theorem scTake : FnScope ["_law_pen_here", "_law_many", "_law_rest", "_law_spot", "_law_cell", "_law_mixed"] ["_law_pen_here", "_law_many"] (defScope sDraw) := ⟨rfl, rfl, rfl, by decide +kernel, rfl, by decide +kernel, by decide +kernel⟩
theorem ok_take {f : Addr} {fd : FuncData} (F : Fun K "_law_draw" "_law_draw" sDraw f fd) (T : TxL mg) : FnOk P w K mg base CX0 1 f fd ["_law_pen_here", "_law_many"] spTake := by
  refine F.ok scTake (fun vs H Q E h => ?_) (fun cdv A outer s H vs Q E hr h => ?_)
  · obtain ⟨a, c, m, n, rfl, _⟩ := h
    rfl
  · obtain ⟨a, c, m, n, rfl, ⟨ns, i, r, hA, hC, hca, hlen, i0, hi, r0⟩, hn, m0, hm, k⟩ := h
    refine ⟨_, pss_cons (ps_if (pt_cmpR op_gt (pe_ix ix_list (pv 0) pe_int (fun _ _ => rfl)) pe_int (nomark _))
        (pss_cons (ps_set (i := 2) scTake.nd rfl (Or.inl rfl) (pe_ix ix_list (pv 0) pe_int (fun _ _ => rfl)))
        (pss_cons (ps_asg (pe_op op_fdivW (pe_callTy call_int1 (by rfl) T.int (by decide +kernel) (pa_cons (pv 2) pa_nil)) (pv 1)) (pg_sub (pv 0) pe_int set_list))
        (pss_one (ps_ret (pe_op op_mod (pe_callTy call_int1 (by rfl) T.int (by decide +kernel) (pa_cons (pv 2) pa_nil)) (pv 1)))))) pss_nil)
      (pss_cons (ps_set (i := 3) scTake.nd rfl (Or.inl rfl) (pe_ix ix_list (pv 0) pe_int (fun _ _ => rfl)))
      (pss_cons (ps_asg (pe_op op_add (pv 3) pe_int) (pg_sub (pv 0) pe_int set_list))
      (pss_cons (ps_set (i := 4) scTake.nd rfl (Or.inl rfl) (pe_op op_add (pe_op op_mul pe_int (pv 3)) pe_int))
      (Evl.pss_cut (ps_if (pt_cmpR (op_neD hr.units) (pe_ix ix_list (pv 0) pe_int (fun _ _ => rfl)) (pe_lst pa_nil) (nomark _))
        (pss_one (ps_set (i := 4) scTake.nd rfl (Or.inl rfl) (pe_ix ix_list (pe_ix ix_list (pv 0) pe_int (fun _ _ => rfl)) (pe_op op_mod (pe_callTy call_int1 (by rfl) T.int (by decide +kernel) (pa_cons (pv 3) pa_nil)) (pe_callB call_len_seq (by rfl) T.len PySem.boot_len (pa_cons (pe_ix ix_list (pv 0) pe_int (fun _ _ => rfl)) pa_nil))) (fun _ _ => rfl)))) pss_nil)
      (Evl.pss_cut (ps_if (PW.pt (pw_and (pt_cmpR op_lt (pv 3) (pe_callB call_len_seq (by rfl) T.len PySem.boot_len (pa_cons (pe_ix ix_list (pv 0) pe_int (fun _ _ => rfl)) pa_nil)) (nomark _)) (pw_and1 (pt_cmpR op_ge (pe_callB call_abs (by rfl) T.abs (by decide +kernel) (pa_cons (pv 4) pa_nil)) (pe_op op_pow pe_int pe_int) (nomark _)))))
        (pss_cons (ps_set (i := 2) scTake.nd rfl (Or.inl rfl) (pe_op op_add (pe_op op_mul pe_int (pe_op op_sub (pe_callB call_abs (by rfl) T.abs (by decide +kernel) (pa_cons (pv 4) pa_nil)) (pe_op op_pow pe_int pe_int))) (pe_callTy call_int1 (by rfl) T.int (by decide +kernel) (pa_cons (pe_cmpR op_lt (pv 4) pe_int (nomark _)) pa_nil))))
        (pss_cons (ps_asg (pe_op op_fdivW (pe_callTy call_int1 (by rfl) T.int (by decide +kernel) (pa_cons (pv 2) pa_nil)) (pv 1)) (pg_sub (pv 0) pe_int set_list))
        (pss_one (ps_ret (pe_op op_mod (pe_callTy call_int1 (by rfl) T.int (by decide +kernel) (pa_cons (pv 2) pa_nil)) (pv 1)))))) pss_nil)
      (pss_cons (ps_set (i := 5) scTake.nd rfl (Or.inl rfl) (pe_op op_mod (pe_callTy call_int1 (by rfl) T.int (by decide +kernel) (pa_cons (pe_op op_pow (pe_op op_add (pe_op op_add (pe_op op_mod (pe_callTy call_int1 (by rfl) T.int (by decide +kernel) (pa_cons (pv 4) pa_nil)) pe_int) (pe_op op_mul pe_int (pv 3))) pe_int) pe_int) pa_nil)) pe_int))
      (pss_cons (ps_set (i := 5) scTake.nd rfl (Or.inl rfl) (pe_op op_mod (pe_callTy call_int1 (by rfl) T.int (by decide +kernel) (pa_cons (pe_op op_pow (pe_op op_add (pe_op op_add (pe_op op_mul (pv 5) (pe_op op_add (pe_op op_mul pe_int (pv 3)) pe_int)) (pe_op op_mul (pe_op op_mul pe_int (pv 3)) (pv 3))) pe_int) pe_int) pa_nil)) pe_int))
      (pss_one (ps_ret (pe_op op_mod (pe_callTy call_int1 (by rfl) T.int (by decide +kernel) (pa_cons (pe_op op_fdiv (pv 5) pe_int) pa_nil)) (pv 1)))))))))))
      , ?_⟩
    have hdv : ∀ x : Int, CDivW x m := fun x => wide_div m0 hm (by decide) (by decide)
    -- if hand[2] > 0
    refine ⟨_, rfl, a, _, 2, _, rfl, rfl, SqL.of hA, rfl, _, _, rfl, rfl, _, rfl, ?_⟩
    refine ite2 (fun hp => ?_) (fun _ => ?_)
    · refine ⟨_, rfl, a, _, 2, _, rfl, rfl, SqL.of hA, rfl, ?_⟩
      refine ⟨_, rfl, .inl ⟨_, rfl, _, rfl, _, _, rfl, rfl, hdv _, _, rfl, a, _, 2, 2, rfl, rfl, hA, rfl, ?_⟩⟩
      refine ⟨_, rfl, .inl ⟨_, rfl, _, rfl, _, _, rfl, rfl, m0, ?_⟩⟩
      exact k _ (r % m) (Int.emod_nonneg _ (by omega)) (Int.emod_lt_of_pos _ m0) (HandAt.put hC hca hlen i0 (by omega) (Int.ediv_nonneg r0 (by omega))) Kept.upd
    -- at = hand[1]; hand[1] = at + 1; cell = ..
    refine ⟨_, rfl, a, _, 1, _, rfl, rfl, SqL.of hA, rfl, ?_⟩
    refine ⟨_, rfl, _, _, rfl, rfl, _, rfl, a, _, 1, 1, rfl, rfl, hA, rfl, ?_⟩
    refine ⟨_, rfl, _, _, rfl, rfl, .inl ⟨by decide, by decide⟩, _, _, rfl, rfl, ?_⟩
    -- H1: the heap behind this
    obtain ⟨H1, eH1⟩ : ∃ H1, H1 = upd H a (.lst [.ref c, .int (i + 1), .int r]) := ⟨_, rfl⟩
    have kH : Kept a H H1 := by rw [eH1]; exact Kept.upd
    have hA1 : H1 a = some (.lst [.ref c, .int (i + 1), .int r]) := by rw [eH1]; exact upd_same
    have hC1 : H1 c = some (.lst (ns.map V.int)) := by rw [eH1, upd_ne hca]; exact hC
    show Evl.tCut _ _ _ _ (upd H a (.lst [.ref c, .int (i + 1), .int r]))
    rw [← eH1]
    refine ⟨fun σ' H' => Same H1 H' ∧ ∃ cell : Int, σ' = [some (.ref a), some (.int m), none, some (.int i), some (.int cell), none], ?_, ?_⟩
    · refine ⟨_, rfl, a, _, 0, _, rfl, rfl, SqL.of hA1, rfl, Nat.zero_le _, fun p hp => ?_⟩
      have hcp : c ≠ p := ne_of_none hC1 hp
      have hap : a ≠ p := ne_of_none hA1 hp
      have sm : Same H1 (upd H1 p (.lst [])) := fun b o e => by rw [upd_ne (ne_of_none e hp)]; exact e
      refine ⟨.list (ns.map PyData.int), .list [], .lst (SqL.of (sm _ _ hC1)) (dpInts ns), .lst (SqL.of upd_same) .nil, PySem.W.ke_shaped_ints ns, rfl, _, rfl, ?_⟩
      refine ite2 (fun hne => ?_) (fun _ => ?_)
      · have hn0 : 0 < ns.length := by
          cases ns with
          | nil => exact absurd hne (by decide)
          | cons x xs => exact Nat.succ_pos _
        have hl0 : (0 : Int) < (((ns.map V.int).length : Nat) : Int) := by rw [List.length_map]; omega
        have hj0 : 0 ≤ i % (((ns.map V.int).length : Nat) : Int) := Int.emod_nonneg _ (by omega)
        have hj1 : i % (((ns.map V.int).length : Nat) : Int) < (((ns.map V.int).length : Nat) : Int) := Int.emod_lt_of_pos _ hl0
        obtain ⟨j, hj⟩ : ∃ j : Nat, i % (((ns.map V.int).length : Nat) : Int) = (j : Int) := ⟨(i % (((ns.map V.int).length : Nat) : Int)).toNat, by omega⟩
        have hjl : j < ns.length := by rw [List.length_map] at hj1 hj; omega
        refine ⟨_, rfl, a, _, 0, _, rfl, rfl, SqL.of (sm _ _ hA1), rfl, _, rfl, .inl ⟨_, rfl, ?_⟩⟩
        refine ⟨_, rfl, a, _, 0, _, rfl, rfl, SqL.of (sm _ _ hA1), rfl, c, _, rfl, .inl (SqL.of (sm _ _ hC1)), _, _, rfl, rfl, hl0, c, _, _, .int ns[j], rfl, rfl, SqL.of (sm _ _ hC1), ?_, ?_⟩
        · rw [hj]
          exact atI_nat (by rw [List.getElem?_map, List.getElem?_eq_getElem hjl]; rfl)
        · exact ⟨sm, ns[j], rfl⟩
      · exact ⟨sm, _, rfl⟩
    · rintro σ' H2 ⟨sm, cell, rfl⟩
      have hA2 := sm _ _ hA1
      have hC2 := sm _ _ hC1
      have kH2 : Kept a H H2 := fun b o e q => sm b o (kH b o e q)
      -- a great cell: what is left of it
      refine ⟨fun σ' H' => σ' = [some (.ref a), some (.int m), none, some (.int i), some (.int cell), none] ∧ H' = H2, ?_, ?_⟩
      · refine ⟨_, rfl, _, rfl, a, _, 0, _, rfl, rfl, SqL.of hA2, rfl, c, _, rfl, .inl (SqL.of hC2), _, _, rfl, rfl, _, rfl, ?_⟩
        refine ite2 (fun _ => ?_) (fun _ => ?_)
        · refine ⟨_, rfl, cell, rfl, _, _, rfl, rfl, ⟨by decide, by decide, by decide⟩, _, _, rfl, rfl, _, rfl, ?_⟩
          refine ite2 (fun hge => ?_) (fun _ => ⟨rfl, rfl⟩)
          have hge' := of_decide_eq_true hge
          refine ⟨_, rfl, cell, rfl, _, _, rfl, rfl, ⟨by decide, by decide, by decide⟩, _, _, rfl, rfl, _, _, rfl, rfl, .inl ⟨by decide, by decide⟩, _, rfl, _, _, rfl, rfl, .inr ⟨_, rfl, _, _, rfl, rfl, ?_⟩⟩
          have hr2 : ∀ b : Bool, 0 ≤ 2 * ((if cell < 0 then -cell else cell) - (10 : Int) ^ Int.toNat 18) + (if b = true then 1 else 0) := by
            intro b
            have e1 : (if b = true then (1 : Int) else 0) ≥ 0 := by cases b <;> decide
            have e2 : (10 : Int) ^ Int.toNat 18 ≤ (if cell < 0 then -cell else cell) := hge'
            omega
          refine ⟨_, rfl, .inl ⟨_, rfl, _, rfl, _, _, rfl, rfl, hdv _, _, rfl, a, _, 2, 2, rfl, rfl, hA2, rfl, ?_⟩⟩
          refine ⟨_, rfl, .inl ⟨_, rfl, _, rfl, _, _, rfl, rfl, m0, ?_⟩⟩
          exact k _ _ (Int.emod_nonneg _ (by omega)) (Int.emod_lt_of_pos _ m0) (HandAt.put hC2 hca hlen (by omega) (by omega) (Int.ediv_nonneg (hr2 _) (by omega))) (kH2.trans Kept.upd)
        · exact ⟨rfl, rfl⟩
      · rintro σ' H3 ⟨rfl, rfl⟩
        have hin : i ≤ 10000 := by omega
        have b1 : 0 ≤ cell % 2147483497 := Int.emod_nonneg _ (by decide)
        have b2 : cell % 2147483497 < 2147483497 := Int.emod_lt_of_pos _ (by decide)
        refine ⟨_, rfl, .inl ⟨_, rfl, _, _, rfl, rfl, (by decide : (0 : Int) < 2147483497), _, rfl, _, _, rfl, rfl, .inl ⟨by decide, by decide⟩, _, _, rfl, rfl, _, _, rfl, rfl, _, _, rfl, rfl, ⟨by decide, by decide, ?_⟩, ?_⟩⟩
        · show (cell % 2147483497 + 7727 * i + 7069).natAbs < 2 ^ 64
          have e : (2 : Nat) ^ 64 = 18446744073709551616 := by decide
          rw [e]
          omega
        have hb : ∀ x : Int, ((x % 2147483489) * (2 * i + 3109) + 6529 * i * i + 8297).natAbs < 2 ^ 64 := by
          intro x
          have b3 : 0 ≤ x % 2147483489 := Int.emod_nonneg _ (by decide)
          have b4 : x % 2147483489 < 2147483489 := Int.emod_lt_of_pos _ (by decide)
          have e : (2 : Nat) ^ 64 = 18446744073709551616 := by decide
          have c1 : 0 ≤ (x % 2147483489) * (2 * i + 3109) := Int.mul_nonneg b3 (by omega)
          have c2 : (x % 2147483489) * (2 * i + 3109) ≤ 2147483489 * 23109 := Int.mul_le_mul (by omega) (by omega) (by omega) (by omega)
          have c3 : 0 ≤ 6529 * i * i := Int.mul_nonneg (by omega) i0
          have c4 : 6529 * i * i ≤ 65290000 * 10000 := Int.mul_le_mul (by omega) hin i0 (by omega)
          rw [e]
          omega
        have hc : ∀ x : Int, CMul (x % 2147483489) (2 * i + 3109) := by
          intro x
          have b3 : 0 ≤ x % 2147483489 := Int.emod_nonneg _ (by decide)
          have b4 : x % 2147483489 < 2147483489 := Int.emod_lt_of_pos _ (by decide)
          exact .inl ⟨by omega, by omega⟩
        refine .inl ⟨_, rfl, _, _, rfl, rfl, (by decide : (0 : Int) < 2147483489), ?_⟩
        refine ⟨_, rfl, _, rfl, _, _, rfl, rfl, .inl ⟨by decide, by decide⟩, _, _, rfl, rfl, _, _, rfl, rfl, hc _, _, rfl, _, _, rfl, rfl, .inl ⟨by decide, by decide⟩, _, rfl, _, _, rfl, rfl, .inl ⟨by omega, by omega⟩, _, _, rfl, rfl, _, _, rfl, rfl, _, _, rfl, rfl, ⟨by decide, by decide, hb _⟩, ?_⟩
        refine .inl ⟨_, rfl, _, _, rfl, rfl, (by decide : (0 : Int) < 2147483549), ?_⟩
        refine ⟨_, rfl, _, _, rfl, rfl, ⟨by decide, by decide⟩, .inl ⟨_, rfl, _, rfl, _, _, rfl, rfl, m0, ?_⟩⟩
        exact k _ _ (Int.emod_nonneg _ (by omega)) (Int.emod_lt_of_pos _ m0) ⟨ns, i + 1, r, hA2, hC2, hca, hlen, by omega, by omega, r0⟩ kH2
end
end W55
set_option Elab.async false
set_option linter.all false
set_option maxRecDepth 100000
set_option maxHeartbeats 2000000
namespace W55
open PySem L2 PySem.Spec PyProof.Rows WR
structure EqW (P : Program) (w : World) (K : PySem.W.Frag) (mg : Str → Option Value) (base : Heap) (C : Addr) : Prop where
  ex : ∃ (f : Addr) (fd : FuncData), FnOk P w K mg base CX0 1 f fd ["self", "other"] (spEq K C) ∧ PySem.W.findIn K (.ref C) "__eq__" = some (some (.ref f)) ∧ PySem.W.isFn K (.ref f) = true ∧ Binds K fd ["self", "other"] []
/-- two words, held against one another -/
def rEqW (K : PySem.W.Frag) (C : Addr) : R2 := fun x y H Q => ∃ (p q : Addr) (ns ms : List Int), x = .ref p ∧ y = .ref q ∧ WordAt K C H p ns ∧ WordAt K C H q ms ∧ Q (.bl (decide (ns = ms))) H
section
variable {X : Cx} {C : Addr}
theorem op_eqW (M : EqW X.prog X.w X.K X.mg X.base C) {j : Nat} (hr : Room j X.A) (hj : 1 ≤ j) : OpR X (compareOp .Eq) (rEqW X.K C) := by
  intro pins s σ H x y u v Q I rx ry d
  obtain ⟨f, fd, F, hs, hf, hb⟩ := M.ex
  obtain ⟨a, b, ns, ms, rfl, rfl, W1, W2, hq⟩ := d
  cases rx
  cases ry
  obtain ⟨dx, tl, tk, ks, ha, _⟩ := id W1
  obtain ⟨dx', tl', tk', ks', hb', _⟩ := id W2
  obtain ⟨mA, J, _⟩ := ins_get I.hok ha
  obtain ⟨mB, J', _⟩ := ins_get I.hok hb'
  obtain ⟨od, J, _⟩ := J.look
  obtain ⟨od', J', _⟩ := J'.look
  obtain ⟨m, hF⟩ := I.fr
  have rm : Room 1 X.A := hr.mono hj
  show wpAny (model X.prog X.w) X.A (richCompare .Eq (.ref a) (.ref b)) (EP X pins σ Q) X.xe s
  refine PySem.W.cmp_K (op := .Eq) (tb := .ref C) rm.units0 hF I.ok.mod.kin J J'.type (by simp [PySem.W.notFirst]) hs hf ?_
  have hsp : spEq X.K C [.ref a, .ref b] H (fun v H' => ∃ c, v = .bl c ∧ Q (.bl c) H') E0 := ⟨a, b, ns, ms, rfl, W1, W2, _, rfl, hq⟩
  have e0 : Env0 X.prog X.w X.K X.mg X.base X.A X.stack s H := I.env0
  have hl := F.len _ _ _ _ hsp
  have r2 : Vals [V.ref a, V.ref b] [Value.ref a, Value.ref b] := .cons rfl (.cons rfl .nil)
  refine wpAny_call (codeAny_mono (F.run X.A X.stack s H ⟨[.ref a, .ref b], []⟩ [.ref a, .ref b] [.ref a, .ref b] _ E0 rm e0 (by
    have := hb s [.ref a, .ref b] I.kIn (by simpa using hl)
    simpa using this) r2 hsp) fun r s' hq => ?_)
  cases r with
  | error e => exact pass0 pins σ H s e s' I hq
  | ok fl =>
    cases fl with
    | ret w =>
      obtain ⟨z, H', I', rz, c, ez, q⟩ := I.after hq
      subst ez
      cases rz
      exact ⟨.bl c, H', I', rfl, q⟩
    | next => exact False.elim hq
    | brk => exact False.elim hq
    | cont => exact False.elim hq
end
end W55
set_option Elab.async false
set_option linter.all false
set_option maxRecDepth 100000
set_option maxHeartbeats 2000000
/-! x != y, of two instances whose class has an own == and no own !=. -/
namespace NeK
open PySem PySem.Spec PyProof.Rows PySem.SeqAt
section
variable {M : Model} {prog : Program} {w : World} {A : Around} {E : Value → Shared → Prop} {s : Shared} {K : PySem.W.Frag} {x y f C : Addr} {ox oy : Obj} {od od' : Option Obj}
theorem ne_entry (hu : A.units < cLine) (X : K.In s.heap) (I : PySem.W.InstAt s.heap x ox C od) (hs : PySem.W.findIn K (.ref C) "__eq__" = some (some (.ref f))) (hf : PySem.W.isFn K (.ref f) = true) {Q : Fin → Shared → Prop}
    (hcall : wpAny (model prog w) A (call (.ref f) [.ref x, .ref y]) (fun v s' => ∃ b, v = .bool b ∧ Q (.done (.ret (.bool (!b)))) s') E s) :
    wpAny (model prog w) A (Builtin.«object.__ne__» ⟨[.ref x, .ref y], []⟩) Q E s := by
  unfold Builtin.«object.__ne__»
  repeat (first
    | with_reducible refine wpAny_cRoomFor hu ?_
    | (refine wpAny_bind (m := callSpecialIfBound? (.ref x) (Str.ofString "__eq__") [.ref y])
        (PySem.W.ifBound_K X I hs hf (wpAny_mono hcall (fun r s' hr => by
          obtain ⟨b, rfl, hq⟩ := hr
          repeat (first | exact hq | exact wpAny_pure hq | exact wpAny_truthy_bool hq | (refine wpAny_bind (m := truthy (.bool _)) (wpAny_truthy_bool ?_)) | wp_step)) fun _ _ e => e)))
    | wp_step)
theorem ifBound_ne {args : List Value} {Q : Option Value → Shared → Prop} (X : K.In s.heap) (I : PySem.W.InstAt s.heap x ox C od) (hs : PySem.W.findIn K (.ref C) "__ne__" = some (some (.builtin "object.__ne__")))
    (h : wpAny M A (call (.builtin "object.__ne__") (.ref x :: args)) (fun v => Q (some v)) E s) : wpAny M A (callSpecialIfBound? (.ref x) "__ne__" args) Q E s := by
  simp only [callSpecialIfBound?, bindSpecialIfBound?]
  refine wpAny_holding (wpAny_bind (wpAny_bind (wpAny_bind (I.type.here ((PySem.W.looks_findIn X hs).here ?_)))))
  refine wpAny_bind (wpAny_askSetting (wpAny_ite ?_))
  have fin : wpAny M A (call (.builtin "object.__ne__") ([.ref x] ++ args) >>= fun v => pure (some v)) Q E s := wpAny_bind (wpAny_mono h (fun v s' h' => wpAny_pure h') fun _ _ h' => h')
  split
  · exact wpAny_bind (wpAny_of_eq (F.cmp_object.ne.bind _) (wpAny_pure (by exact fin)))
  · exact wpAny_tryCatch (wpAny_bind (wpAny_of_eq (F.cmp_object.ne.bind _) (wpAny_pure (by exact fin))))
theorem rc_ne (hu : A.units + 1 < cLine) (X : K.In s.heap) (I : PySem.W.InstAt s.heap x ox C od) (I' : PySem.W.InstAt s.heap y oy C od') (hm : PySem.W.mroIn K C (.type "object") = some true) (hs : PySem.W.findIn K (.ref C) "__eq__" = some (some (.ref f))) (hf : PySem.W.isFn K (.ref f) = true)
    (hn : PySem.W.findIn K (.ref C) "__ne__" = some (some (.builtin "object.__ne__"))) {Q : Value → Shared → Prop}
    (hcall : wpAny (model prog w) A.in1 (call (.ref f) [.ref x, .ref y]) (fun v s' => ∃ b, v = .bool b ∧ Q (.bool (!b)) s') E s) :
    wpAny (model prog w) A (richCompare .NotEq (.ref x) (.ref y)) Q E s := by
  have one : wpAny (model prog w) A (tryCompare (.ref x) "__ne__" (.ref y)) (fun r s' => ∃ b, r = some (.bool b) ∧ Q (.bool b) s') E s := by
    unfold tryCompare
    refine wpAny_bind (ifBound_ne X I hn (wpAny_call (codeAny_call_builtin F.cmp_object.ne.plain F.cmpEntry_ne (PySem.W.check_slot F.cmpKind_ne F.cmpSplit_ne (I.type.andThen (PySem.W.looks_mroIn X hm)) (F.cmpArgs_ne _ _)
      (ne_entry (A := A.in1) hu X I hs hf (wpAny_mono hcall (fun v s' hv => ?_) fun _ _ e => e))))))
    obtain ⟨b, rfl, hq⟩ := hv
    first | exact ⟨b, rfl, wpAny_pure ⟨_, rfl, hq⟩⟩ | exact ⟨b, rfl, wpAny_pure (wpAny_pure ⟨_, rfl, hq⟩)⟩ | exact ⟨b, rfl, _, rfl, hq⟩
  unfold richCompare
  simp only [oneThing_ref]
  refine wpAny_holding (wpAny_bind (wpAny_cRoomFor (Nat.lt_of_succ_lt hu) ?_))
  rw [cmpInfo_NotEq]
  dsimp only
  refine wpAny_bind (I.type.here (wpAny_bind (I'.type.here ?_)))
  rw [show (Value.ref C != Value.ref C) = false from by simp]
  simp only [Bool.false_eq_true, if_false]
  refine wpAny_bind (wpAny_pure ?_)
  simp only [Bool.false_eq_true, if_false]
  refine wpAny_bind (wpAny_mono one (fun v s' hv => ?_) fun _ _ e => e)
  obtain ⟨b, rfl, hq⟩ := hv
  first | exact wpAny_pure hq | exact wpAny_pure (wpAny_pure hq) | exact hq
end
end NeK
namespace W55
open PySem L2 PySem.Spec PyProof.Rows WR
def rNeW (K : PySem.W.Frag) (C : Addr) : R2 := fun x y H Q => ∃ (p q : Addr) (ns ms : List Int), x = .ref p ∧ y = .ref q ∧ WordAt K C H p ns ∧ WordAt K C H q ms ∧ Q (.bl (!decide (ns = ms))) H
section
variable {X : Cx} {C : Addr}
theorem op_neW (M : EqW X.prog X.w X.K X.mg X.base C) (hne : PySem.W.findIn X.K (.ref C) "__ne__" = some (some (.builtin "object.__ne__"))) (hmr : PySem.W.mroIn X.K C (.type "object") = some true) {j : Nat} (hr : Room j X.A) (hj : 2 ≤ j) : OpR X (compareOp .NotEq) (rNeW X.K C) := by
  intro pins s σ H x y u v Q I rx ry d
  obtain ⟨f, fd, F, hs, hf, hb⟩ := M.ex
  obtain ⟨a, b, ns, ms, rfl, rfl, W1, W2, hq⟩ := d
  cases rx
  cases ry
  obtain ⟨dx, tl, tk, ks, ha, _⟩ := id W1
  obtain ⟨dx', tl', tk', ks', hb', _⟩ := id W2
  obtain ⟨mA, J, _⟩ := ins_get I.hok ha
  obtain ⟨mB, J', _⟩ := ins_get I.hok hb'
  obtain ⟨od, J, _⟩ := J.look
  obtain ⟨od', J', _⟩ := J'.look
  have rm2 : Room 2 X.A := hr.mono hj
  have rm : Room 1 X.A.in1 := rm2.in1
  show wpAny (model X.prog X.w) X.A (richCompare .NotEq (.ref a) (.ref b)) (EP X pins σ Q) X.xe s
  refine NeK.rc_ne (by have := rm.units0; exact this) I.kIn J J' hmr hs hf hne ?_
  have hsp : spEq X.K C [.ref a, .ref b] H (fun v H' => ∃ c, v = .bl c ∧ Q (.bl (!c)) H') E0 := ⟨a, b, ns, ms, rfl, W1, W2, _, rfl, hq⟩
  have e0 : Env0 X.prog X.w X.K X.mg X.base X.A.in1 X.stack s H := by
    have e := I.env0
    exact ⟨e.frames, e.mod, e.bs, e.bsz, e.funs, e.frf, e.hok, e.bare⟩
  have hl := F.len _ _ _ _ hsp
  have r2 : Vals [V.ref a, V.ref b] [Value.ref a, Value.ref b] := .cons rfl (.cons rfl .nil)
  refine wpAny_call (codeAny_mono (F.run X.A.in1 X.stack s H ⟨[.ref a, .ref b], []⟩ [.ref a, .ref b] [.ref a, .ref b] _ E0 rm e0 (by
    have := hb s [.ref a, .ref b] I.kIn (by simpa using hl)
    simpa using this) r2 hsp) fun r s' hq => ?_)
  cases r with
  | error e => exact pass0 pins σ H s e s' I hq
  | ok fl =>
    cases fl with
    | ret w =>
      obtain ⟨z, H', I', rz, c, ez, q⟩ := I.after hq
      subst ez
      cases rz
      exact ⟨c, rfl, .bl (!c), H', I', rfl, q⟩
    | next => exact False.elim hq
    | brk => exact False.elim hq
    | cont => exact False.elim hq
end
end W55
set_option Elab.async false
set_option linter.all false
set_option maxRecDepth 100000
set_option maxHeartbeats 2000000
namespace W55
open PySem L2 PySem.Spec PyProof.Rows WR
abbrev sPick : Stmt := top 40
abbrev sConL : Stmt := top 42
def Drew (a c : Addr) (n : Nat) (H H' : Hp) : Prop := HandAt H' a c n ∧ Kept a H H'
theorem HandAt.mono {H : Hp} {a c : Addr} {m n : Nat} (h : HandAt H a c m) (l : m ≤ n) : HandAt H a c n := by
  obtain ⟨ns, i, r, h1, h2, h3, h4, h5, h6, h7⟩ := h
  exact ⟨ns, i, r, h1, h2, h3, h4, h5, by omega, h7⟩
theorem HandAt.off {H : Hp} {a c p : Addr} {n : Nat} {o : HO} (h : HandAt H a c n) (h1 : p ≠ a) (h2 : p ≠ c) : HandAt (L2.upd H p o) a c n := by
  obtain ⟨ns, i, r, h3, h4, h5⟩ := h
  exact ⟨ns, i, r, by rw [upd_ne h1.symm]; exact h3, by rw [upd_ne h2.symm]; exact h4, h5⟩
theorem HandAt.ne {H : Hp} {a c p : Addr} {n : Nat} (h : HandAt H a c n) (hp : H p = none) : p ≠ a := by
  obtain ⟨ns, i, r, h1, _⟩ := h
  exact (ne_of_none h1 hp).symm
theorem HandAt.neC {H : Hp} {a c p : Addr} {n : Nat} (h : HandAt H a c n) (hp : H p = none) : p ≠ c := by
  obtain ⟨ns, i, r, h1, h2, _⟩ := h
  exact (ne_of_none h2 hp).symm
theorem HandAt.new {H : Hp} {a c p : Addr} {n : Nat} {o : HO} (h : HandAt H a c n) (hp : H p = none) : HandAt (L2.upd H p o) a c n := h.off (h.ne hp) (h.neC hp)
theorem Drew.refl {a c : Addr} {n : Nat} {H : Hp} (h : HandAt H a c n) : Drew a c n H H := ⟨h, Kept.refl⟩
theorem Drew.trans {a c : Addr} {m n : Nat} {H H1 H2 : Hp} (h1 : Drew a c m H H1) (h2 : Drew a c n H1 H2) : Drew a c n H H2 := ⟨h2.1, h1.2.trans h2.2⟩
theorem Drew.new {a c p : Addr} {n : Nat} {H H1 : Hp} {o : HO} (h : Drew a c n H H1) (hp : H1 p = none) : Drew a c n H (L2.upd H1 p o) := ⟨h.1.new hp, h.2.new hp⟩
theorem Drew.mono {a c : Addr} {m n : Nat} {H H1 : Hp} (h : Drew a c m H H1) (l : m ≤ n) : Drew a c n H H1 := ⟨h.1.mono l, h.2⟩
/-- an object that was not there at first may change -/
theorem Drew.put {a c p : Addr} {n : Nat} {H H1 : Hp} {o : HO} (h : Drew a c n H H1) (h0 : H p = none) (h1 : p ≠ a) (h2 : p ≠ c) : Drew a c n H (L2.upd H1 p o) :=
  ⟨h.1.off h1 h2, fun b u nb e => by rw [upd_ne (ne_of_none e h0)]; exact h.2 b u nb e⟩
theorem Drew.back {a c p : Addr} {n : Nat} {H H1 : Hp} (h : Drew a c n H H1) (hp : H1 p = none) : H p = none := by
  cases e : H p with
  | none => rfl
  | some o =>
    have q := h.2 p o (h.1.ne hp) e
    rw [hp] at q
    cases q
theorem HandAt.same {H H' : Hp} {a c : Addr} {n : Nat} (h : HandAt H a c n) (s : Same H H') : HandAt H' a c n := by
  obtain ⟨ns, i, r, h1, h2, h3⟩ := h
  exact ⟨ns, i, r, s _ _ h1, s _ _ h2, h3⟩
theorem Drew.same {a c : Addr} {n : Nat} {H H1 H2 : Hp} (h : Drew a c n H H1) (s : Same H1 H2) : Drew a c n H H2 := ⟨h.1.same s, fun b o nb e => s b o (h.2 b o nb e)⟩
/-- a new list of these ints -/
def NewL (H : Hp) (Q : VK) (ns : List Int) : Prop := ∀ p H', H p = none → Same H H' → H' p = some (.lst (iv ns)) → Q (.ref p) H'
def spPick : Sp := fun vs H Q _ => ∃ (a c p : Addr) (xs : List V) (n : Nat), vs = [.ref a, .ref p] ∧ HandAt H a c n ∧ n ≤ 10000 ∧ p ≠ a ∧ H p = some (.lst xs) ∧ 0 < xs.length ∧ xs.length ≤ 1000 ∧ ∀ v ∈ xs, ∀ H', Drew a c (n + 1) H H' → Q v H'
def spConL : Sp := fun vs H Q _ => ∃ (p : Addr) (ns : List Int), vs = [.ref p] ∧ H p = some (.lst (iv ns)) ∧ ns.length ≤ 1000 ∧ NewL H Q (Fr.con ns)
structure TxN (mg : Str → Option Value) : Prop where
  range : mg "range" = none
  list : mg "list" = none
theorem Drew.ofNew {a c p : Addr} {n : Nat} {H H' : Hp} (d : Drew a c n H H') (h0 : HandAt H a c n) {o : HO} (hp : H p = some o) (hn : p ≠ a) : H' p = some o := d.2 _ _ hn hp
section
variable {P : Program} {w : World} {K : PySem.W.Frag} {mg : Str → Option Value} {base : Heap}
theorem scPick : FnScope ["_law_pen_here", "_law_some"] ["_law_pen_here", "_law_some"] (defScope sPick) := ⟨rfl, rfl, rfl, by decide +kernel, rfl, by decide +kernel, by decide +kernel⟩
theorem ok_pick {f : Addr} {fd : FuncData} (F : Fun K "_law_pick" "_law_pick" sPick f fd) (GT : Cal P w K mg base "_law_draw" 1 ["_law_pen_here", "_law_many"] spTake) (T : TxL mg) : FnOk P w K mg base CX0 2 f fd ["_law_pen_here", "_law_some"] spPick := by
  refine F.ok scPick (fun vs H Q E h => ?_) (fun cdv A outer s H vs Q E hr h => ?_)
  · obtain ⟨a, c, p, xs, n, rfl, _⟩ := h
    rfl
  · obtain ⟨a, c, p, xs, n, rfl, hH, hn, hpa, hp, h0, h1, k⟩ := h
    refine ⟨_, pss_one (ps_ret (pe_ix ix_list (pv 1) (pe_cal GT hr (by decide) (by rfl) (pa_cons (pv 0) (pa_cons (pe_callB call_len_seq (by rfl) T.len PySem.boot_len (pa_cons (pv 1) pa_nil)) pa_nil))) (fun _ _ => rfl))), ?_⟩
    refine ⟨_, rfl, _, rfl, _, rfl, p, _, rfl, .inl (SqL.of hp), a, c, _, n, rfl, hH, hn, by omega, ?_, ?_⟩
    · have : (((xs.length : Nat) : Int)).natAbs ≤ 1000 := by omega
      exact Nat.lt_of_le_of_lt this (by decide)
    · intro H' q q0 q1 hH' hK
      obtain ⟨j, rfl⟩ : ∃ j : Nat, q = (j : Int) := ⟨q.toNat, by omega⟩
      have hj : j < xs.length := by omega
      refine ⟨p, xs, _, xs[j], rfl, rfl, SqL.of (hK _ _ hpa hp), atI_nat (List.getElem?_eq_getElem hj), ?_⟩
      exact k _ (List.getElem_mem hj) H' ⟨hH', hK⟩
theorem int_eq {x y : Int} : decide (V.int x = V.int y) = decide (x = y) := by
  rw [Bool.eq_iff_iff, decide_eq_true_iff, decide_eq_true_iff]
  exact ⟨fun e => by injection e, fun e => by rw [e]⟩
theorem scConL : FnScope ["_law_letters", "_law_letter"] ["_law_letters"] (defScope sConL) := ⟨rfl, rfl, rfl, by decide +kernel, rfl, by decide +kernel, by decide +kernel⟩
theorem ok_conL {f : Addr} {fd : FuncData} (F : Fun K "_law_contrary" "_law_contrary" sConL f fd) : FnOk P w K mg base CX0 1 f fd ["_law_letters"] spConL := by
  refine F.ok scConL (fun vs H Q E h => ?_) (fun cdv A outer s H vs Q E hr h => ?_)
  · obtain ⟨a, ns, rfl, _⟩ := h
    rfl
  · obtain ⟨a, ns, rfl, hS, hlen, k⟩ := h
    refine ⟨_, pss_one (ps_ret (pe_lc (own := [("_law_letter", 1)]) (g := gName 1) (tt := tYes) rfl scConL.nd (pi_list (pe_revL (pv 0)))
      (blkOk_by (N := ["_law_letters", "_law_letter"]) (sc := defScope sConL) (by decide +kernel)) (fun _ _ _ _ _ => pg_name (i := 1) scConL.nd rfl (Or.inl rfl)) (fun _ _ _ _ _ => pts_nil)
      (fun _ _ _ _ _ => pe_un un_neg (pv 1)))), ?_⟩
    refine ret_e (lc_in ?_)
    refine ⟨_, rfl, a, iv ns, rfl, SqL.of hS, fun p hp => ?_⟩
    refine ⟨p, rfl, ⟨_, SqL.of upd_same⟩, ?_⟩
    refine lcp (walk_list (xs := (iv ns).reverse)) (fun _ => true) (fun x => match x with | .int i => .int (-i) | _ => .non) (by simp; omega) (fun H2 s2 => SqL.of (s2 _ _ upd_same)) ?_ ?_
    · intro x hx H2 s2 Qy Qn ky kn
      obtain ⟨i, rfl⟩ : ∃ i, x = V.int i := by
        simp at hx
        obtain ⟨i, _, rfl⟩ := hx
        exact ⟨i, rfl⟩
      refine ⟨rfl, yes_te ?_⟩
      exact ⟨_, rfl, i, rfl, ky rfl H2 (fun _ _ e => e)⟩
    · intro D H2 hD s2 h2
      have e : (((iv ns).reverse.filter fun _ => true).map fun x => match x with | .int i => V.int (-i) | _ => .non) = iv (Fr.con ns) := by
        rw [List.filter_eq_self.mpr (fun _ _ => rfl)]
        unfold Fr.con
        simp [iv, List.map_reverse, Function.comp_def]
      rw [e] at h2
      exact k D H2 ((same_upd hp).free hD) ((same_upd hp).trans s2) h2
end
end W55
set_option Elab.async false
set_option linter.all false
set_option maxRecDepth 100000
set_option maxHeartbeats 2000000
/-! try with several except clauses, each with a name or without. -/
namespace TM
open PySem PySem.Spec PyProof.Rows L2
/-- a clause: its class, the slot of its name if it has one, what its suite says -/
structure Cla where
  of : Value
  slot : Option Nat
  say : Addr → Value → Option Addr → TS
def offS : Option Nat → L2.St → L2.St
  | none, σ => σ
  | some i, σ => σ.set i none
def onS : Option Nat → Addr → L2.St → L2.St
  | none, _, σ => σ
  | some i, a, σ => σ.set i (some (.ref a))
def endsS (o : Option Nat) (D : Ends) : Ends := { nx := fun σ H => D.nx (offS o σ) H, rt := D.rt, bk := fun σ H => D.bk (offS o σ) H, ct := fun σ H => D.ct (offS o σ) H }
/-- the first clause that fits takes it -/
def wish (K : PySem.W.Frag) (out : WX) (D : Ends) : List Cla → WX
  | [] => out
  | q :: r => fun cls d σ H => ∃ b, PySem.W.exmOne K cls q.of = some b ∧ (b = true → ∀ a, H a = none → q.say a cls d (endsS q.slot D) (onS q.slot a σ) H) ∧ (b = false → wish K out D r cls d σ H)
def Says (X : Cx) (bs : List Stmt) (say : Addr → Value → Option Addr → TS) : Prop :=
  ∀ (a : Addr) (o : Obj) (cls : Value) (d : Option Addr) (pn : List (Addr × Obj)), Zc cls d o → (∃ vs, o.data = .fields vs) → PSs (X.suite a ((a, o) :: pn)) bs (say a cls d)
inductive Fit (X : Cx) : ExceptHandler → Cla → Prop
  | bare {x : Str} {c : Value} {say : Addr → Value → Option Addr → TS} {b : Stmt} {bs : List Stmt} {p1 p2 : Pos} (hc : Names X x c) (hs : Says X (b :: bs) say) : Fit X (.ExceptHandler (some (.Name x p1)) none (b :: bs) p2) ⟨c, none, say⟩
  | named {x n : Str} {i : Nat} {c : Value} {say : Addr → Value → Option Addr → TS} {b : Stmt} {bs : List Stmt} {p1 p2 : Pos} (hN : X.N.Nodup) (hi : X.N[i]? = some n) (hl : X.env.kindOf n = some .local) (hc : Names X x c) (hs : Says X (b :: bs) say) :
      Fit X (.ExceptHandler (some (.Name x p1)) (some n) (b :: bs) p2) ⟨c, some i, say⟩
inductive Fits (X : Cx) : List ExceptHandler → List Cla → Prop
  | nil : Fits X [] []
  | cons {h : ExceptHandler} {q : Cla} {hs : List ExceptHandler} {l : List Cla} (f : Fit X h q) (r : Fits X hs l) : Fits X (h :: hs) (q :: l)
/-- an exception that flies over X's frame, with the state that it left -/
structure Held (X : Cx) (pins : List (Addr × Obj)) (σ : L2.St) (H : Hp) (cls : Value) (d : Option Addr) (a : Addr) (B : Heap) (s0 s : Shared) : Prop where
  inv : Inv X pins σ H s0
  old : ∀ b o, s0.heap.get? b = some o → b ∉ frs X.stack → B.get? b = some o
  up : s0.heap.UpToSlots s.heap
  fly : HandSPX.FlyingZ B (X.env :: X.outer) a (Zc cls d) s.heap
  os : s.os = s0.os
  bare : AllBare s.gens
  free : H a = none
section
variable {X : Cx} {pins : List (Addr × Obj)} {σ : L2.St} {H : Hp} {D : Ends} {out : WX} {cls : Value} {d : Option Addr} {a : Addr} {B : Heap} {s0 s : Shared}
theorem Held.now (h : Held X pins σ H cls d a B s0 s) : Inv X pins σ H s := h.inv.landed h.old h.fly.1 h.up h.os h.bare
theorem Held.pinned (h : Held X pins σ H cls d a B s0 s) (hf : X.env.frame = some X.env.locals) : ∃ o : Obj, s.heap.get? a = some o ∧ Zc cls d o ∧ (∃ vs, o.data = .fields vs) ∧ Inv (X.suite a ((a, o) :: (X.pn ++ pins))) [] σ H s := by
  obtain ⟨o, vs, ea, z, ed⟩ := h.fly.there
  have out_ : a ∉ frs (X.env :: X.outer) := fun hm => by
    obtain ⟨_, o', e', nf⟩ := h.fly.2.2.1.mem hm
    rw [ea] at e'
    cases e'
    exact nf _ ed
  have n1 : a ≠ X.env.locals := fun z => out_ (List.mem_filterMap.mpr ⟨X.env, List.mem_cons_self, by rw [hf, z]⟩)
  have n2 : a ∉ X.fs := fun hm => by
    obtain ⟨e, he, q⟩ := List.mem_filterMap.mp hm
    exact out_ (List.mem_filterMap.mpr ⟨e, List.mem_cons_of_mem _ he, q⟩)
  exact ⟨o, ea, z, ⟨vs, ed⟩, h.now.suite ea ed h.free n1 n2⟩
/-- the clause's class is named, and held against the exception's -/
theorem Held.asked (h : Held X pins σ H cls d a B s0 s) (hf : X.env.frame = some X.env.locals) {x : Str} {c : Value} {b : Bool} {p : Pos} {Q : Bool → Shared → Prop} {E : Value → Shared → Prop} (hc : Names X x c) (eb : PySem.W.exmOne X.K cls c = some b)
    {G : Value → Sem Bool} (hG : ∀ {Q' : Bool → Shared → Prop}, Q' b s → wpAny (model X.prog X.w) (X.A.mark (some (.ref a))) (G c) Q' E s) (k : Q b s) :
    wpAny (model X.prog X.w) (X.A.mark (some (.ref a))) (eval (.Name x p) X.env >>= G) Q E s := by
  obtain ⟨o, ea, z, ed, S⟩ := h.pinned hf
  refine wpAny_bind ?_
  obtain ⟨g1, g2, m | ⟨m, v, nn⟩⟩ := hc
  · exact ld_glob (X := X.suite a ((a, o) :: (X.pn ++ pins))) S g1 m (hG k) g2
  · exact ld_blt (X := X.suite a ((a, o) :: (X.pn ++ pins))) S g1 m v (hG k) nn g2
theorem Held.pass (h : Held X pins σ H cls d a B s0 s) (hs : X.stack = X.env :: X.outer) (hf : X.env.frame = some X.env.locals) (tk : Takes X out) (w : out cls d σ H) : wpAny (model X.prog X.w) X.A (handleBy (.ref a) X.env []) (SP X pins D) X.xe s := by
  obtain ⟨_, _, _, oe, vs, T, oT, ts', he, hz, hd, h1, _⟩ := id h.fly
  refine wpAny_handleBy_nil ?_
  unfold PySem.passOn
  refine wpAny_bind (wpAny_field he hd h1 ?_)
  rw [if_neg (show ¬ ((Value.ref T == Value.none) = true) from by simp)]
  have last : wpAny (model X.prog X.w) X.A (setFlight (.ref a) X.env.frame) (fun _ s4 => wpAny (model X.prog X.w) X.A (throw (.ref a) : Sem Flow) (SP X pins D) X.xe s4) X.xe s := by
    rw [hf]
    exact HandSPX.setFlight_upZ h.fly fun h4 hh4 up4 => wpAny_throw (tk _ _ ⟨a, B, s0, pins, σ, H, cls, d, rfl, h.inv, h.old, h.up.trans up4, .inr (.inr (by rw [hs]; exact hh4)), h.free, h.os, h.bare, w⟩)
  first
    | exact wpAny_bind (wpAny_pure (wpAny_bind last))
    | exact wpAny_bind last
theorem Held.goes (h : Held X pins σ H cls d a B s0 s) (hs : X.stack = X.env :: X.outer) (hf : X.env.frame = some X.env.locals) (tk : Takes X out) {hds : List ExceptHandler} {l : List Cla} (fs : Fits X hds l) (w : wish X.K out D l cls d σ H) :
    wpAny (model X.prog X.w) X.A (handleBy (.ref a) X.env hds) (SP X pins D) X.xe s := by
  induction fs with
  | nil => exact h.pass hs hf tk w
  | @cons hd q hds l f r ih =>
    obtain ⟨b, eb, yes, no⟩ := w
    obtain ⟨o, ea, z, ed, S⟩ := h.pinned hf
    have look : PySem.W.Looks (model X.prog X.w) s.heap (typeOf (.ref a)) cls := fun A Q E s' k q => wpAny_typeOf_ref (k _ _ ea) (by rw [z.1]; exact q)
    have lm := PySem.W.exm_one (M := model X.prog X.w) h.now.kIn look eb
    have named : ∀ {x : Str} {c : Value} {p : Pos} {Q : Value → Shared → Prop} {E : Value → Shared → Prop}, Names X x c → Q c s → wpAny (model X.prog X.w) (X.A.mark (some (.ref a))) (eval (.Name x p) X.env) Q E s := fun {x c p Q E} hc k => by
      obtain ⟨g1, g2, m | ⟨m, v, nn⟩⟩ := hc
      · exact ld_glob (X := X.suite a ((a, o) :: (X.pn ++ pins))) S g1 m k g2
      · exact ld_blt (X := X.suite a ((a, o) :: (X.pn ++ pins))) S g1 m v k nn g2
    cases f with
    | bare hc say =>
      refine wpAny_handleBy_cons (codeAny_handlers_test (named hc (lm.here ?_))) (by intro q; cases q)
      cases b with
      | false => exact ih (no rfl)
      | true =>
        refine codeAny_handlers_suite (HandSPX.lands_againZ h.fly fun h4 fl4 up4 => ?_)
        have h' : Held X pins σ H cls d a B s0 { s with heap := h4 } := ⟨h.inv, h.old, h.up.trans up4, fl4, h.os, h.bare, h.free⟩
        obtain ⟨o4, _, z4, ed4, S4⟩ := h'.pinned hf
        refine wpAny_mono ((say a o4 cls d (X.pn ++ pins) z4 ed4).run [] _ _ H _ S4 (yes rfl a h.free)) (fun f s6 hsp => ?_) (fun _ _ z => False.elim z)
        have ok := h.inv.ok
        cases f with
        | next => obtain ⟨σ6, H6, S6, q6⟩ := hsp; exact ⟨_, _, S6.unsuite ok, q6⟩
        | brk => obtain ⟨σ6, H6, S6, q6⟩ := hsp; exact ⟨_, _, S6.unsuite ok, q6⟩
        | cont => obtain ⟨σ6, H6, S6, q6⟩ := hsp; exact ⟨_, _, S6.unsuite ok, q6⟩
        | ret u => obtain ⟨v6, σ6, H6, S6, r6, q6⟩ := hsp; exact ⟨_, _, _, S6.unsuite ok, r6, q6⟩
    | @named x n i c say0 b0 bs p1 p2 hN hi hl hc say =>
      refine wpAny_handleBy_cons (codeAny_handlers_test (named hc (lm.here ?_))) (by intro q; cases q)
      cases b with
      | false => exact ih (no rfl)
      | true =>
        refine codeAny_handlers_suite_as (HandSPX.lands_againZ h.fly fun h4 fl4 up4 => ?_)
        have h' : Held X pins σ H cls d a B s0 { s with heap := h4 } := ⟨h.inv, h.old, h.up.trans up4, fl4, h.os, h.bare, h.free⟩
        obtain ⟨o4, _, z4, ed4, S4⟩ := h'.pinned hf
        refine store_ok (X := X.suite a ((a, o4) :: (X.pn ++ pins))) (v := .ref a) S4 hN hi (.inl hl) rfl (fun s5 S5 => ?_) (.inr hl)
        refine wpAny_mono ((say a o4 cls d (X.pn ++ pins) z4 ed4).run [] s5 _ H _ S5 (yes rfl a h.free)) (fun f s6 hsp => ?_) (fun _ _ z => False.elim z)
        have ok := h.inv.ok
        have end_ : ∀ {σ6 : L2.St} {H6 : Hp} {Q : Shared → Prop}, Inv (X.suite a ((a, o4) :: (X.pn ++ pins))) [] σ6 H6 s6 → (∀ s7, Inv X pins (σ6.set i none) H6 s7 → Q s7) →
            wpAny (model X.prog X.w) X.A (do bindName X.env n .none; unbindBehindTheSuite X.env n p2) (fun _ s7 => Q s7) X.xe s6 := fun {σ6 H6 Q} S6 hq => gone_ok (S6.unsuite ok) hN hi hl hq
        cases f with
        | next => obtain ⟨σ6, H6, S6, q6⟩ := hsp; exact end_ S6 fun s7 J7 => ⟨_, _, J7, q6⟩
        | brk => obtain ⟨σ6, H6, S6, q6⟩ := hsp; exact end_ S6 fun s7 J7 => ⟨_, _, J7, q6⟩
        | cont => obtain ⟨σ6, H6, S6, q6⟩ := hsp; exact end_ S6 fun s7 J7 => ⟨_, _, J7, q6⟩
        | ret u => obtain ⟨v6, σ6, H6, S6, r6, q6⟩ := hsp; exact end_ S6 fun s7 J7 => ⟨_, _, _, J7, r6, q6⟩
end
section
variable {X : Cx} {body : List Stmt} {h0 : ExceptHandler} {hds : List ExceptHandler} {l : List Cla} {pos : Pos} {tb : WX → TS} {out : WX}
theorem ps_try_ms (hs : X.stack = X.env :: X.outer) (hf : X.env.frame = some X.env.locals) (tk : Takes X out)
    (hb : ∀ (W : WX) (pn : List (Addr × Obj)) (xe : Value → Shared → Prop), Takes (X.tr pn xe) W → PassesOwn (model X.prog X.w) X.A X.env xe → PSs (X.tr pn xe) body (tb W))
    (fs : Fits X (h0 :: hds) l) : PS X (.Try body (h0 :: hds) [] [] pos) (fun D σ H => tb (wish X.K out D l) D σ H) := by
  refine ⟨fun pins s σ H D I h => ?_⟩
  have ok := I.ok
  have hfr : X.A.frames = some (X.env :: X.outer) := by rw [ok.frames, hs]
  refine wpAny_Try_except (wpAny_mono ((hb (wish X.K out D l) (X.pn ++ pins) (fun e s₁ => wpAny (model X.prog X.w) X.A (noteFrame e X.env) (fun _ s₂ => wpAny (model X.prog X.w) X.A (setFlight e none) (fun _ s₃ =>
    wpAny (model X.prog X.w) X.A (handleBy e X.env (h0 :: hds)) (SP X pins D) X.xe s₃) X.xe s₂) X.xe s₁) (fun u s' xx => ?_) PassesOwn.looking).run [] s σ H D (I.toTry _) h) (fun f s1 hsp => ?_) (fun e s1 he => he))
  · obtain ⟨a, B, s0, pins', σ', H', cls, d, rfl, J', old, up, sky, free, os, bare, w⟩ := xx
    have sky' : Sky B (X.env :: X.outer) a (Zc cls d) X.env.locals s'.heap := by rw [← hs]; exact sky
    exact Sky.land Zc.steady hfr hf sky' fun h3 fl3 up3 => Held.goes (s := { s' with heap := h3 }) ⟨J'.ofTry ok, old, up.trans up3, fl3, os, bare, free⟩ hs hf tk fs w
  · cases f with
    | next => obtain ⟨σ', H', J', q⟩ := hsp; exact wpAny_execs_nil ⟨σ', H', J'.ofTry ok, q⟩
    | brk => obtain ⟨σ', H', J', q⟩ := hsp; exact ⟨σ', H', J'.ofTry ok, q⟩
    | cont => obtain ⟨σ', H', J', q⟩ := hsp; exact ⟨σ', H', J'.ofTry ok, q⟩
    | ret u => obtain ⟨v, σ', H', J', r, q⟩ := hsp; exact ⟨v, σ', H', J'.ofTry ok, r, q⟩
end
end TM
set_option Elab.async false
set_option linter.all false
set_option maxRecDepth 100000
set_option maxHeartbeats 2000000
/-! (a, b, ..) = a list of that length. -/
namespace UL
open PySem PySem.Spec PyProof PyProof.Rows L2
section
variable {prog : Program} {w : World} {A : Around} {E : Value → Shared → Prop}
theorem drawn {it l : Addr} {items : Array Value} (ne : l ≠ it) : ∀ (n i : Nat) (s : Shared) (Q : List Value → Shared → Prop), s.heap.IsListIter it l i → s.heap.IsList l items → i + n = items.size →
    (∀ h', h'.IsListIter it l (i + n) → h'.IsList l items → Heap.SameBut it s.heap h' → Q (items.toList.drop i) { s with heap := h' }) → wpAny (model prog w) A (draw (.ref it) n) Q E s
  | 0, i, s, Q, hit, hl, e, k => by
    have ed : items.toList.drop i = [] := List.drop_eq_nil_of_le (by simp; omega)
    have := k s.heap hit hl (Heap.SameBut.refl ..)
    rw [ed] at this
    exact wpAny_pure this
  | n + 1, i, s, Q, hit, hl, e, k => by
    have lt : i < items.size := by omega
    show wpAny _ _ (pyNext (.ref it) >>= _) Q E s
    refine wpAny_bind (wpAny_pyNext_list_item hit hl (x := items[i]) (by simp [lt]) fun h1 hit1 s1 => ?_)
    refine wpAny_bind (wpAny_holding (drawn ne n (i + 1) _ _ hit1 (hl.extBut s1.extBut ne) (by omega) fun h2 hit2 hl2 s2 => wpAny_pure ?_))
    have := k h2 (by rw [show i + (n + 1) = i + 1 + n by omega]; exact hit2) hl2 (s1.trans s2)
    rw [List.drop_eq_getElem_cons (by simpa using lt)] at this
    exact this
theorem unpacked {l : Addr} {items : Array Value} {s : Shared} {Q : List Value → Shared → Prop} (hh : A.handled = none) (hl : s.heap.IsList l items)
    (k : ∀ h', Heap.ExtBut s.heap.objs.size s.heap h' → Q items.toList { s with heap := h' }) : wpAny (model prog w) A (unpackItems (.ref l) items.size none) Q E s := by
  have ne : l ≠ s.heap.objs.size := by
    obtain ⟨o, ho, _⟩ := id hl
    exact Nat.ne_of_lt (Heap.lt_size ho)
  unfold unpackItems notIterableAtAll
  refine wpAny_bind (wpAny_bind (wpAny_specialOf hl.typeIs slot_list_iter.lookup ?_))
  refine wpAny_pure ?_
  simp only [Bool.false_eq_true, if_false]
  refine wpAny_bind (wpAny_holding (wpAny_pyIter_list hl ?_))
  refine wpAny_bind (wpAny_holding (drawn ne items.size 0 _ _ ⟨_, Heap.get?_push_size _ rfl, rfl, rfl⟩ (hl.push _) (by omega) fun h1 hit1 hl1 s1 => ?_))
  rw [List.drop_zero, if_neg (by simp)]
  refine wpAny_bind (wpAny_holding (wpAny_pyNext_list_end hh hit1 hl1 (by simp) fun h2 e2 => ?_))
  simp only [Option.isSome_none, Bool.false_eq_true, if_false]
  exact wpAny_pure (k h2 fun b o hb e => e2 b o hb (s1.extBut b o hb (Heap.get?_push_of_some _ e)))
end
section
variable {X : Cx} {pos : Pos}
/-- (a, b, ..) = a list or a tuple of that length -/
def gEither (K : PySem.W.Frag) (n : Nat) (t : TGs) : TG := fun v σ H Q => ∃ a xs, v = .ref a ∧ (SqL K H a xs ∨ SqT K H a xs) ∧ xs.length = n ∧ t xs σ H Q
theorem pg_either {es : List Expr} {k : Nat} {t : TGs} {n : Nat} (hc : X.calm = true) (h : PGs X es t)
    (hn : (assignEach es X.env).length = n := by rfl) (hst : (assignEach es X.env).findIdx? (·.1) = none := by rfl) : PG X (.Tuple es k pos) (gEither X.K n t) := by
  refine ⟨fun pins s σ H v u Q I r hw => ?_⟩
  obtain ⟨a, xs, e1, hq, hl, hw⟩ := hw
  rcases hq with hq | hq
  · subst e1
    cases r
    obtain ⟨its, rv, ht⟩ : ∃ its : List Value, Vals xs its ∧ s.heap.IsList a its.toArray := by
      obtain ⟨its, rv, ⟨o, n, e, hcl, _, hdt⟩, _⟩ := I.list hq
      exact ⟨its, rv, o, e, hcl, n, hdt⟩
    rw [assign_Tuple]
    refine wpAny_bind (wpAny_standAt ?_)
    unfold unpack
    have e2 : (assignEach es X.env).length = its.toArray.size := by simp [hn, ← hl, rv.length]
    rw [e2, hst]
    refine wpAny_bind (wpAny_holding (unpacked (I.ok.hd hc) ht fun h' hx => ?_))
    have I1 : Inv X pins σ H { s with heap := h' } := I.kept (t' := s.toks) fun b o e => hx b o (Nat.ne_of_lt (Heap.lt_size e)) e
    exact h.run pins _ σ H xs _ Q I1 (by simpa using rv) hw
  · exact (pg_tup hc h hn hst).run pins s σ H v u Q I r ⟨a, xs, e1, hq, hl, hw⟩
end
end UL
set_option Elab.async false
set_option linter.all false
set_option maxRecDepth 100000
set_option maxHeartbeats 2000000
/-! xs.extend(t), t a tuple. -/
namespace XT
open PySem PySem.Spec PyProof PyProof.Rows L2
theorem meets_tup (l : Addr) (items : Array Value) (n : Nat) (b : Addr) (items2 : Array Value) (n2 : Nat) (d2 : Option Addr) (sl2 : Array (Option Value)) (h0 : ¬(!items.isEmpty && Builtin.List.listTooLong (items.size + items2.size)) = true) (h1 : items.size ≤ sizeLine) (h2 : items.size + items2.size ≤ sizeLine + 1) :
    Meets (Builtin.«list.extend» ⟨[.ref l, .ref b], []⟩) (fun _ R s => s.heap.get? l = some { cls := .type "list", dict := none, data := .seq items n, slots := #[] } ∧ s.heap.get? b = some { cls := .type "tuple", dict := d2, data := .seq items2 n2, slots := sl2 } ∧
      R (.ok (.ret Value.none)) { s with heap := s.heap.update l (Obj.mapSeq fun x => x ++ items2), toks := s.toks }) :=
  .of_wp fun prog w A R s h => by
    obtain ⟨hp, g, d, tk, os⟩ := s
    obtain ⟨hl, hb, h⟩ := h
    have e2 : (items ++ items2).size ≤ sizeLine + 1 := by rw [Array.size_append]; exact h2
    wp_walk using (wpAny_updateSeq hl rfl (hz := h1) (_hz' := e2)), wpAny_loadPart' hl, wpAny_loadPart' hb
    exact ⟨_, rfl, h⟩
section
variable {X : Cx}
def rExtT (K : PySem.W.Frag) : V → List V → Hp → VK → Prop := fun x vs H Q => ∃ l b xs zs, x = .ref l ∧ vs = [.ref b] ∧ H l = some (.lst xs) ∧ SqT K H b zs ∧ xs.length + zs.length ≤ sizeLine ∧ Q .non (upd H l (.lst (xs ++ zs)))
theorem mt_extT : MtM X "list.extend" (rExtT X.K) := by
  intro pins s σ H x vs v us Q I rx rv h
  obtain ⟨l, b, xs, zs, rfl, rfl, hH, hB, hz, q⟩ := h
  cases rx
  obtain ⟨u, rfl, ru⟩ := rv.one
  cases ru
  obtain ⟨z, its, n, r, hl, e⟩ := I.lstM hH
  obtain ⟨its2, r2, ⟨o2, e2, c2, n2, d2⟩, z2⟩ := I.tuple hB
  obtain ⟨oc, od, dt, sl⟩ := o2
  dsimp only at c2 d2
  subst c2 d2
  have hl2 := r2.length
  have hsz : its.toArray.size + its2.toArray.size ≤ sizeLine := by rw [List.size_toArray, List.size_toArray]; omega
  have hlong : ¬ (!its.toArray.isEmpty && Builtin.List.listTooLong (its.toArray.size + its2.toArray.size)) = true := by
    rw [notLongL hsz, Bool.and_false]
    exact Bool.false_ne_true
  refine call_meets F.slot_list_extend ⟨_, e, rfl⟩ F.entry_list_extend (F.args_list_extend_2 _ _)
    (meets_tup l its.toArray n b its2.toArray n2 od sl hlong (by rw [List.size_toArray]; omega) (by omega)) ⟨e, e2, ?_⟩
  refine ⟨.non, _, I.lset (its' := its ++ its2) hH e (by simp) (r.append r2) ?_, rfl, q⟩
  rw [List.length_append]
  omega
end
end XT
set_option Elab.async false
set_option linter.all false
set_option maxHeartbeats 1000000
/-! Squares among rows of letters: a commutator is no square of anything but nothing (Wicks; Schützenberger; Lyndon). -/
namespace Fr
theorem Sm.to {p u v q X Y : List Int} (h : Sm u v) (e1 : X = p ++ u ++ q) (e2 : Y = p ++ v ++ q) : Sm X Y := by
  rw [e1, e2]
  exact Sm.mid h
theorem Sm.offR {p q a : List Int} (h : Sm (p ++ a) (q ++ a)) : Sm p q := by
  have h1 : ∀ r : List Int, Sm r (r ++ a ++ Fr.con a) := fun r => by
    have := ((Sm.refl r).app (sm_con a)).symm
    simpa using this
  exact (h1 p).trans ((h.app (Sm.refl (Fr.con a))).trans (h1 q).symm)
theorem Sm.offL {p q a : List Int} (h : Sm (a ++ p) (a ++ q)) : Sm p q := by
  have h1 : ∀ r : List Int, Sm r (Fr.con a ++ (a ++ r)) := fun r => by
    have := ((sm_con' a).app (Sm.refl r)).symm
    simpa using this
  exact (h1 p).trans (((Sm.refl (Fr.con a)).app h).trans (h1 q).symm)
theorem act_len : ∀ (xs s : List Int), (act s xs).length ≤ s.length + xs.length
  | [], s => by simp [act_nil]
  | a :: t, s => by
    rw [act_cons]
    have h := act_len t (push s a)
    have h2 : (push s a).length ≤ s.length + 1 := by
      cases s with
      | nil => simp [push]
      | cons b u =>
        show (if b = -a then u else a :: b :: u).length ≤ (b :: u).length + 1
        by_cases hb : b = -a
        · rw [if_pos hb]; simp; omega
        · rw [if_neg hb]; simp
    simp only [List.length_cons]
    omega
theorem shr_le (xs : List Int) : (shr xs).length ≤ xs.length := by
  unfold shr
  rw [List.length_reverse]
  have := act_len xs []
  simpa using this
/-- the word of three words and their contraries -/
def fm (x y z : List Int) : List Int := x ++ y ++ z ++ con x ++ con y ++ con z
theorem fm_length (x y z : List Int) : (fm x y z).length = 2 * (x.length + y.length + z.length) := by
  unfold fm
  simp only [List.length_append, con_length]
  omega
theorem fm_rot (x y z : List Int) : Trn (fm x y z) (fm y z (con x)) := by
  refine ⟨x, y ++ z ++ con x ++ con y ++ con z, ?_, ?_⟩
  · unfold fm; simp
  · unfold fm; simp [con_con]
theorem NZ.fm {x y z : List Int} (h1 : NZ x) (h2 : NZ y) (h3 : NZ z) : NZ (fm x y z) := ((((h1.app h2).app h3).app h1.con).app h2.con).app h3.con
theorem sm_fm {x y z x2 y2 z2 : List Int} (h1 : Sm x x2) (h2 : Sm y y2) (h3 : Sm z z2) : Sm (fm x y z) (fm x2 y2 z2) := ((((h1.app h2).app h3).app h1.con).app h2.con).app h3.con
def Jn (b r : List Int) : Prop := ∀ p q, b.getLast? = some p → r.head? = some q → p ≠ -q
/-- shorter, with the same ring -/
def Less (x y z : List Int) : Prop := ∃ a b c, NZ a ∧ NZ b ∧ NZ c ∧ Rd a ∧ Rd b ∧ Rd c ∧ a.length + b.length + c.length < x.length + y.length + z.length ∧ Trn (rnd (fm x y z)) (rnd (fm a b c))
theorem Less.rot {x y z : List Int} (n1 : NZ x) (n2 : NZ y) (n3 : NZ z) (h : Less y z (con x)) : Less x y z := by
  obtain ⟨a, b, c, h1, h2, h3, r1, r2, r3, hl, ht⟩ := h
  rw [con_length] at hl
  exact ⟨a, b, c, h1, h2, h3, r1, r2, r3, by omega, (rnd_turned (n1.fm n2 n3) (fm_rot x y z)).trans ht⟩
theorem rd_left {xs ys : List Int} (h : Rd (xs ++ ys)) : Rd xs := (rd_append.1 h).1
theorem rd_right {xs ys : List Int} (h : Rd (xs ++ ys)) : Rd ys := (rd_append.1 h).2.1
theorem last_split {b : List Int} {p : Int} (h : b.getLast? = some p) : ∃ b1, b = b1 ++ [p] := by
  have hn : b ≠ [] := by rintro rfl; simp at h
  refine ⟨b.dropLast, ?_⟩
  rw [List.getLast?_eq_some_getLast hn] at h
  have := List.dropLast_concat_getLast hn
  rw [Option.some.inj h] at this
  exact this.symm
theorem less_of {x y z a b c : List Int} (n1 : NZ x) (n2 : NZ y) (n3 : NZ z) (m1 : NZ a) (m2 : NZ b) (m3 : NZ c) (hs : Sm (fm x y z) (fm a b c)) (hl : a.length + b.length + c.length < x.length + y.length + z.length) : Less x y z := by
  refine ⟨shr a, shr b, shr c, m1.shr, m2.shr, m3.shr, rd_shr _, rd_shr _, rd_shr _, ?_, ?_⟩
  · have := shr_le a; have := shr_le b; have := shr_le c; omega
  · rw [rnd_sm (hs.trans (sm_fm (sm_shr a) (sm_shr b) (sm_shr c)).symm)]
    exact Trn.refl _
/-- where the first word ends with the contrary of what comes, it can be told shorter -/
theorem less_first {x y z : List Int} (n1 : NZ x) (n2 : NZ y) (n3 : NZ z) (h : ¬ Jn x (y ++ z ++ con x ++ con y ++ con z)) : Less x y z := by
  unfold Jn at h
  simp only [Classical.not_forall] at h
  obtain ⟨p, q, hp, hq, hpq⟩ := h
  have hpq : p = -q := Classical.not_not.mp hpq
  obtain ⟨x1, rfl⟩ := last_split hp
  have hx1 : NZ x1 := n1.left
  have hp0 : NZ [p] := n1.right
  have hq0 : p ≠ 0 := hp0 p (by simp)
  have hnp : NZ [-p] := fun a ha => by simp at ha; omega
  cases y with
  | cons b y1 =>
    have hb : b = -p := by simp at hq; omega
    subst hb
    have hy1 : NZ y1 := fun a ha => n2 a (List.mem_cons_of_mem _ ha)
    refine less_of n1 n2 n3 hx1 hy1 (n3.app hnp) ?_ (by simp; omega)
    -- x1 p -p y1 z -p x1' y1' p z'
    refine Sm.to (p := x1) (u := [p, -p]) (v := []) (q := y1 ++ z ++ [-p] ++ con x1 ++ con y1 ++ [p] ++ con z) (Sm.out p) ?_ ?_
    · unfold fm; simp [con_append, con_cons, con_nil]
    · unfold fm; simp [con_append, con_cons, con_nil]
  | nil =>
    cases z with
    | cons b z1 =>
      have hb : b = -p := by simp at hq; omega
      subst hb
      have hz1 : NZ z1 := fun a ha => n3 a (List.mem_cons_of_mem _ ha)
      refine less_of n1 n2 n3 hx1 hz1 hnp ?_ (by simp; omega)
      refine Sm.to (p := x1) (u := [p, -p]) (v := []) (q := z1 ++ [-p] ++ con x1 ++ con z1 ++ [p]) (Sm.out p) ?_ ?_
      · unfold fm; simp [con_append, con_cons, con_nil]
      · unfold fm; simp [con_append, con_cons, con_nil]
    | nil =>
      refine less_of (a := []) (b := []) (c := []) n1 n2 n3 (fun a h => nomatch h) (fun a h => nomatch h) (fun a h => nomatch h) ?_ (by simp)
      have e1 : fm (x1 ++ [p]) [] [] = (x1 ++ [p]) ++ con (x1 ++ [p]) := by unfold fm; simp [con_nil]
      have e2 : fm [] [] [] = ([] : List Int) := rfl
      rw [e1, e2]
      exact sm_con _
theorem Jn.head {b r s : List Int} (h : Jn b (r ++ s)) : Jn b r := fun p q h1 h2 => h p q h1 (by
  cases r with
  | nil => simp at h2
  | cons c r => simpa using h2)
/-- no way to tell it shorter: it is short round -/
theorem cy_or_less {x y z : List Int} (n1 : NZ x) (n2 : NZ y) (n3 : NZ z) (r1 : Rd x) (r2 : Rd y) (r3 : Rd z) : Cy (fm x y z) ∨ Less x y z := by
  by_cases j1 : Jn x (y ++ z ++ con x ++ con y ++ con z)
  case neg => exact .inr (less_first n1 n2 n3 j1)
  by_cases j2 : Jn y (z ++ con x ++ con y ++ con z ++ con (con x))
  case neg => exact .inr ((less_first n2 n3 n1.con j2).rot n1 n2 n3)
  by_cases j3 : Jn z (con x ++ con y ++ con z ++ con (con x) ++ con (con y))
  case neg => exact .inr (((less_first n3 n1.con n2.con j3).rot n2 n3 n1.con).rot n1 n2 n3)
  by_cases j4 : Jn (con x) (con y ++ con z ++ con (con x) ++ con (con y) ++ con (con z))
  case neg => exact .inr ((((less_first n1.con n2.con n3.con j4).rot n3 n1.con n2.con).rot n2 n3 n1.con).rot n1 n2 n3)
  by_cases j5 : Jn (con y) (con z ++ con (con x) ++ con (con y) ++ con (con z) ++ con (con (con x)))
  case neg => exact .inr (((((less_first n2.con n3.con n1.con.con j5).rot n1.con n2.con n3.con).rot n3 n1.con n2.con).rot n2 n3 n1.con).rot n1 n2 n3)
  by_cases j6 : Jn (con z) (con (con x) ++ con (con y) ++ con (con z) ++ con (con (con x)) ++ con (con (con y)))
  case neg => exact .inr ((((((less_first n3.con n1.con.con n2.con.con j6).rot n2.con n3.con n1.con.con).rot n1.con n2.con n3.con).rot n3 n1.con n2.con).rot n2 n3 n1.con).rot n1 n2 n3)
  left
  simp only [con_con, List.append_assoc] at j1 j2 j3 j4 j5 j6
  constructor
  · have e : fm x y z = x ++ (y ++ (z ++ (con x ++ (con y ++ con z)))) := by unfold fm; simp
    rw [e]
    have k2 : Jn y (z ++ (con x ++ (con y ++ con z))) := Jn.head (s := x) (by simpa using j2)
    have k3 : Jn z (con x ++ (con y ++ con z)) := Jn.head (s := x ++ y) (by simpa using j3)
    have k4 : Jn (con x) (con y ++ con z) := Jn.head (s := x ++ (y ++ z)) (by simpa using j4)
    have k5 : Jn (con y) (con z) := Jn.head (s := x ++ (y ++ (z ++ con x))) (by simpa using j5)
    exact rd_append.2 ⟨r1, rd_append.2 ⟨r2, rd_append.2 ⟨r3, rd_append.2 ⟨rd_con.2 r1, rd_append.2 ⟨rd_con.2 r2, rd_con.2 r3, k5⟩, k4⟩, k3⟩, k2⟩, j1⟩
  · intro a b ha hb
    intro hab
    -- the last part that is not empty, and what comes first
    have fin : ∀ (l r : List Int), fm x y z = l ++ r → l ≠ [] → r ≠ [] → Jn r l → False := fun l r e hl hr j => by
      rw [e] at ha hb
      have h1 : l.head? = some a := by
        cases l with
        | nil => exact absurd rfl hl
        | cons c l => simpa using ha
      have h2 : r.getLast? = some b := by
        rw [List.getLast?_append] at hb
        cases h : r.getLast? with
        | none => rw [List.getLast?_eq_none_iff] at h; exact absurd h hr
        | some c => rw [h] at hb; simpa using hb
      exact j b a h2 h1 (by omega)
    have conn : ∀ {u : List Int}, u ≠ [] → con u ≠ [] := fun {u} h e => by
      have := congrArg List.length e
      rw [con_length] at this
      exact h (List.length_eq_zero_iff.mp (by simpa using this))
    by_cases hz : z = []
    · subst hz
      by_cases hy : y = []
      · subst hy
        by_cases hx : x = []
        · subst hx
          simp [fm, con_nil] at ha
        · obtain ⟨p, hp⟩ : ∃ p, x.getLast? = some p := by
            cases h : x.getLast? with
            | none => rw [List.getLast?_eq_none_iff] at h; exact absurd h hx
            | some p => exact ⟨p, rfl⟩
          refine j1 p (-p) hp ?_ (by omega)
          simp [con_nil, con_head, hp]
      · refine fin (x ++ (y ++ con x)) (con y) (by unfold fm; simp [con_nil]) (by simp [hy]) (conn hy) ?_
        simpa [con_nil] using j5
    · refine fin (x ++ (y ++ (z ++ (con x ++ con y)))) (con z) (by unfold fm; simp) (by simp [hz]) (conn hz) ?_
      simpa using j6
/-- Wicks: what is left of an exchange, shortened round, is x y z x' y' z', turned -/
theorem wicks : ∀ (n : Nat) (x y z : List Int), x.length + y.length + z.length ≤ n → NZ x → NZ y → NZ z → Rd x → Rd y → Rd z → ∃ a b c, NZ a ∧ NZ b ∧ NZ c ∧ Cy (fm a b c) ∧ Trn (rnd (fm x y z)) (fm a b c)
  | n, x, y, z, hn, n1, n2, n3, r1, r2, r3 => by
    rcases cy_or_less n1 n2 n3 r1 r2 r3 with c | ⟨a, b, c, h1, h2, h3, q1, q2, q3, hl, ht⟩
    · refine ⟨x, y, z, n1, n2, n3, c, ?_⟩
      rw [(rnd_iff (n1.fm n2 n3)).2 c]
      exact Trn.refl _
    · match n with
      | 0 => omega
      | n + 1 =>
        obtain ⟨a2, b2, c2, g1, g2, g3, gc, gt⟩ := wicks n a b c (by omega) h1 h2 h3 q1 q2 q3
        exact ⟨a2, b2, c2, g1, g2, g3, gc, ht.trans gt⟩
theorem wicks_of {u v : List Int} (n1 : NZ u) (n2 : NZ v) : ∃ a b c, NZ a ∧ NZ b ∧ NZ c ∧ Cy (fm a b c) ∧ Trn (rnd (u ++ v ++ con u ++ con v)) (fm a b c) := by
  obtain ⟨a, b, c, h1, h2, h3, hc, ht⟩ := wicks _ (shr u) (shr v) [] (Nat.le_refl _) n1.shr n2.shr (fun a h => nomatch h) (rd_shr _) (rd_shr _) trivial
  refine ⟨a, b, c, h1, h2, h3, hc, ?_⟩
  have e : Sm (u ++ v ++ con u ++ con v) (fm (shr u) (shr v) []) := by
    have := (sm_fm (sm_shr u) (sm_shr v) (Sm.refl [])).symm
    have e2 : fm u v [] = u ++ v ++ con u ++ con v := by unfold fm; simp [con_nil]
    rw [e2] at this
    exact this
  rw [rnd_sm e]
  exact ht
theorem rep_two (w : List Int) : rep 2 w = w ++ w := by simp [rep]
/-- a square, shortened -/
theorem sq_parts {xs : List Int} (nz : NZ xs) : ∃ u w, shr xs = u ++ w ++ con u ∧ Cy w ∧ (w = [] → u = []) ∧ shr (xs ++ xs) = u ++ (w ++ w) ++ con u ∧ Cy (w ++ w) ∧ rnd (xs ++ xs) = w ++ w := by
  obtain ⟨u, w, e, c, z⟩ := parted (shr xs) nz.shr (rd_shr xs)
  have h := shr_core e c z 1
  have c2 := cy_rep c 2
  rw [rep_two] at c2
  have h2 : shr (xs ++ xs) = u ++ (w ++ w) ++ con u := by
    have e2 : rep (1 + 1) xs = xs ++ xs := rep_two xs
    have e3 : rep (1 + 1) w = w ++ w := rep_two w
    rw [e2, e3] at h
    exact h
  refine ⟨u, w, e, c, z, h2, c2, ?_⟩
  unfold rnd
  rw [h2]
  refine ends_eq c2 fun hw => z ?_
  exact (List.append_eq_nil_iff.mp hw).1
theorem sq_nil {xs : List Int} (nz : NZ xs) (h : Sm (xs ++ xs) []) : Sm xs [] := by
  obtain ⟨u, w, e, c, z, h2, c2, h3⟩ := sq_parts nz
  have : shr (xs ++ xs) = [] := shr_eq h trivial
  rw [h2] at this
  obtain ⟨h4, _⟩ := List.append_eq_nil_iff.mp this
  obtain ⟨hu, hw⟩ := List.append_eq_nil_iff.mp h4
  have hw2 := (List.append_eq_nil_iff.mp hw).1
  subst hu hw2
  have := sm_shr xs
  rw [e] at this
  simpa [con_nil] using this.symm
theorem con_self {a : List Int} (nz : NZ a) (r : Rd a) (h : a = con a) : a = [] := by
  have s : Sm (a ++ a) [] := by
    have := sm_con a
    rw [← h] at this
    exact this
  have := sq_nil nz s
  have h2 := shr_eq this trivial
  rw [shr_short r] at h2
  exact h2
/-- round by a half the same -/
theorem half_of {r d e : List Int} (h : Trn (r ++ r) (d ++ e)) (hd : d.length = r.length) (he : e.length = r.length) : d = e := by
  obtain ⟨p, q, e1, e2⟩ := h
  rcases Nat.le_total p.length r.length with hp | hp
  · obtain ⟨t, rfl⟩ : ∃ t, r = p ++ t := by
      have := congrArg (List.take p.length) e1
      rw [List.take_append_of_le_length hp, List.take_left] at this
      refine ⟨r.drop p.length, ?_⟩
      rw [← this]
      have h2 := List.take_append_drop p.length r
      rw [← this] at h2
      have l : (List.take p.length r).length = p.length := by rw [List.length_take]; omega
      simp only [List.length_take] at h2 ⊢
      have e3 : min p.length r.length = p.length := by omega
      rw [← e3] at h2 ⊢
      simpa using (List.take_append_drop _ r).symm
    have hq : q = t ++ (p ++ t) := by
      rw [List.append_assoc] at e1
      exact (List.append_cancel_left e1).symm
    rw [hq] at e2
    have e3 : d ++ e = (t ++ p) ++ (t ++ p) := by rw [e2]; simp
    have l1 : d.length = (t ++ p).length := by rw [hd]; simp; omega
    obtain ⟨a1, a2⟩ := List.append_inj e3 l1
    rw [a1, a2]
  · obtain ⟨t, rfl⟩ : ∃ t, p = r ++ t := by
      have := congrArg (List.take r.length) e1
      rw [List.take_left, List.take_append_of_le_length hp] at this
      exact ⟨p.drop r.length, by
        have h2 := List.take_append_drop r.length p
        rw [← this] at h2
        exact h2.symm⟩
    rw [List.append_assoc] at e1
    have hr := List.append_cancel_left e1
    subst hr
    have e3 : d ++ e = (q ++ t) ++ (q ++ t) := by rw [e2]; simp
    have l1 : d.length = (q ++ t).length := by rw [hd]; simp; omega
    obtain ⟨a1, a2⟩ := List.append_inj e3 l1
    rw [a1, a2]
/-- an exchange that is a square is nothing -/
theorem exch_sq {b u v : List Int} (nb : NZ b) (nu : NZ u) (nv : NZ v) (h : Sm (b ++ b) (u ++ v ++ con u ++ con v)) : Sm b [] := by
  obtain ⟨g, w, e, c, z, h2, c2, h3⟩ := sq_parts nb
  obtain ⟨x, y, t, n1, n2, n3, hc, ht⟩ := wicks_of nu nv
  rw [← rnd_sm h, h3] at ht
  have hl : w.length = x.length + y.length + t.length := by
    obtain ⟨p, q, e1, e2⟩ := ht
    have l1 := congrArg List.length e1
    have l2 := congrArg List.length e2
    rw [fm_length] at l2
    simp only [List.length_append] at l1 l2
    omega
  have ef : fm x y t = (x ++ y ++ t) ++ (con x ++ con y ++ con t) := by unfold fm; simp
  rw [ef] at ht hc
  have hh := half_of ht (by simp only [List.length_append]; omega) (by simp only [List.length_append, con_length]; omega)
  obtain ⟨h5, ht3⟩ := List.append_inj hh (by simp only [List.length_append, con_length])
  obtain ⟨hx, hy⟩ := List.append_inj h5 (con_length x).symm
  have rd := rd_left hc.1
  have ex := con_self n1 (rd_left (rd_left rd)) hx
  have ey := con_self n2 (rd_right (rd_left rd)) hy
  have et := con_self n3 (rd_right rd) ht3
  subst ex ey et
  have hw : w = [] := List.length_eq_zero_iff.mp (by simpa using hl)
  have hg := z hw
  subst hw hg
  have := sm_shr b
  rw [e] at this
  simpa [con_nil] using this.symm
/-- x x y y is a square only if x and y go past one another -/
theorem lyndon {x y z : List Int} (nx : NZ x) (ny : NZ y) (nz : NZ z) (h : Sm (x ++ x ++ y ++ y) (z ++ z)) : Sm z (x ++ y) ∧ Sm (x ++ y) (y ++ x) := by
  have na : NZ (x ++ y) := nx.app ny
  have nb : NZ (z ++ con (x ++ y)) := nz.app na.con
  -- b = z a', z = b a
  have hz : Sm z ((z ++ con (x ++ y)) ++ (x ++ y)) := by
    have := ((Sm.refl z).app (sm_con' (x ++ y))).symm
    simpa using this
  obtain ⟨a, ha⟩ : ∃ a, a = x ++ y := ⟨_, rfl⟩
  obtain ⟨b, hb⟩ : ∃ b, b = z ++ con (x ++ y) := ⟨_, rfl⟩
  rw [← ha] at na
  rw [← hb] at nb hz
  rw [← ha] at hz
  have hy : Sm y (con x ++ a) := by
    rw [ha]
    have := ((sm_con' x).app (Sm.refl y)).symm
    simpa using this
  -- x a x' a = b a b a
  have h1 : Sm (x ++ a ++ con x ++ a) (b ++ a ++ b ++ a) := by
    have e1 : Sm (x ++ a ++ con x ++ a) (x ++ x ++ y ++ y) := by
      have := (Sm.refl (x ++ a)).app hy.symm
      rw [ha] at this ⊢
      simpa using this
    have e2 : Sm (z ++ z) (b ++ a ++ b ++ a) := by
      have := hz.app hz
      simpa using this
    exact e1.trans (h.trans e2)
  have h2 : Sm (x ++ a ++ con x) (b ++ a ++ b) := h1.offR
  have h3 : Sm (b ++ b) (con a ++ (con b ++ x) ++ con (con a) ++ con (con b ++ x)) := by
    have s1 : Sm (con a ++ (con b ++ x) ++ con (con a) ++ con (con b ++ x)) (con a ++ con b ++ (b ++ a ++ b) ++ b) := by
      refine Sm.to (p := con a ++ con b) (q := b) h2 ?_ rfl
      simp [con_append, con_con]
    have s2 : Sm (con a ++ con b ++ (b ++ a ++ b) ++ b) (con a ++ (a ++ b) ++ b) := Sm.to (p := con a) (u := con b ++ b) (v := []) (q := a ++ b ++ b) (sm_con' b) (by simp) (by simp)
    have s3 : Sm (con a ++ (a ++ b) ++ b) (b ++ b) := Sm.to (p := []) (u := con a ++ a) (v := []) (q := b ++ b) (sm_con' a) (by simp) (by simp)
    exact ((s1.trans s2).trans s3).symm
  have h4 := exch_sq nb na.con (nb.con.app nx) h3
  have h5 : Sm z a := hz.trans (by simpa using h4.app (Sm.refl a))
  refine ⟨by rw [← ha]; exact h5, ?_⟩
  have h6 : Sm (x ++ x ++ y ++ y) (a ++ a) := h.trans (h5.app h5)
  rw [ha] at h6
  have e : x ++ x ++ y ++ y = x ++ ((x ++ y) ++ y) := by simp
  have e2 : (x ++ y) ++ (x ++ y) = x ++ ((y ++ x) ++ y) := by simp
  rw [e, e2] at h6
  exact h6.offL.offR
theorem past_sq {x y : List Int} (h : Sm (x ++ y) (y ++ x)) : Sm (x ++ x ++ y ++ y) ((x ++ y) ++ (x ++ y)) :=
  Sm.to (p := x) (q := y) h (by simp) (by simp)
/-- one square root -/
theorem root_one {a b : List Int} (na : NZ a) (nb : NZ b) (h : Sm (a ++ a) (b ++ b)) : Sm a b := by
  obtain ⟨u, w, e, c, z, h2, c2, h3⟩ := sq_parts na
  obtain ⟨u', w', e', c', z', h2', c2', h3'⟩ := sq_parts nb
  have hw : w ++ w = w' ++ w' := by rw [← h3, ← h3', rnd_sm h]
  have hl : w.length = w'.length := by
    have := congrArg List.length hw
    simp only [List.length_append] at this
    omega
  obtain ⟨ew, _⟩ := List.append_inj hw hl
  subst ew
  have hs : u ++ (w ++ w) ++ con u = u' ++ (w ++ w) ++ con u' := by rw [← h2, ← h2', shr_of_sm h]
  have hl2 : u.length = u'.length := by
    have := congrArg List.length hs
    simp only [List.length_append, con_length] at this
    omega
  obtain ⟨h5, _⟩ := List.append_inj hs (by simp only [List.length_append]; omega)
  obtain ⟨eu, _⟩ := List.append_inj h5 hl2
  subst eu
  exact sm_of_shr (e.trans e'.symm)
/-! ### the root of a square -/
/-- what stands around the ring, shortened -/
def side (xs : List Int) : List Int := (shr xs).take (((shr xs).length - (rnd xs).length) / 2)
theorem side_parts {xs : List Int} (nz : NZ xs) : shr xs = side xs ++ rnd xs ++ con (side xs) ∧ (rnd xs = [] → side xs = []) := by
  obtain ⟨u, w, e, c, z⟩ := parted (shr xs) nz.shr (rd_shr xs)
  have er : rnd xs = w := by unfold rnd; rw [e, ends_eq c z]
  have es : side xs = u := by
    unfold side
    rw [er, e]
    have : ((u ++ w ++ con u).length - w.length) / 2 = u.length := by
      simp only [List.length_append, con_length]
      omega
    rw [this, List.append_assoc, List.take_left]
  rw [er, es]
  exact ⟨e, z⟩
def halfR (xs : List Int) : List Int := (rnd xs).take ((rnd xs).length / 2)
def root? (xs : List Int) : Option (List Int) := if rnd xs = halfR xs ++ halfR xs then some (side xs ++ halfR xs ++ con (side xs)) else none
theorem root_some {xs z : List Int} (nz : NZ xs) (h : root? xs = some z) : rnd xs = halfR xs ++ halfR xs ∧ z = side xs ++ halfR xs ++ con (side xs) ∧ Rd z ∧ Sm (z ++ z) xs ∧ shr xs = side xs ++ (halfR xs ++ halfR xs) ++ con (side xs) := by
  unfold root? at h
  split at h
  · rename_i hr
    have hz := (Option.some.inj h).symm
    obtain ⟨e, k⟩ := side_parts nz
    have e2 := e
    rw [hr] at e2
    refine ⟨hr, hz, ?_, ?_, e2⟩
    · have r := rd_shr xs
      rw [e2] at r
      rw [hz]
      by_cases h0 : halfR xs = []
      · have : side xs = [] := k (by rw [hr, h0]; rfl)
        rw [this, h0]
        trivial
      · have e3 : side xs ++ (halfR xs ++ halfR xs) ++ con (side xs) = (side xs ++ halfR xs) ++ (halfR xs ++ con (side xs)) := by simp
        rw [e3] at r
        obtain ⟨r1, r2, j⟩ := rd_append.1 r
        obtain ⟨r3, r4, j2⟩ := rd_append.1 r2
        refine rd_append.2 ⟨r1, r4, fun a b ha hb => j2 a b ?_ hb⟩
        rw [List.getLast?_append] at ha
        cases hl : (halfR xs).getLast? with
        | none => rw [List.getLast?_eq_none_iff] at hl; exact absurd hl h0
        | some c => rw [hl] at ha; simpa using ha
    · rw [hz]
      have s : Sm ((side xs ++ halfR xs) ++ (con (side xs) ++ side xs) ++ (halfR xs ++ con (side xs))) ((side xs ++ halfR xs) ++ [] ++ (halfR xs ++ con (side xs))) := Sm.mid (sm_con' _)
      have s2 := sm_shr xs
      rw [e2] at s2
      refine Sm.trans ?_ s2
      simpa using s
  · cases h
theorem root_none {xs : List Int} (h : root? xs = none) {z : List Int} (nz : NZ z) : ¬ Sm (z ++ z) xs := fun s => by
  obtain ⟨u, w, e, c, k, h2, c2, h3⟩ := sq_parts nz
  have er : rnd xs = w ++ w := by rw [← rnd_sm s, h3]
  have eh : halfR xs = w := by
    unfold halfR
    rw [er]
    have : (w ++ w).length / 2 = w.length := by simp only [List.length_append]; omega
    rw [this, List.take_left]
  unfold root? at h
  rw [if_pos (by rw [eh]; exact er)] at h
  cases h
theorem root_is {xs z t : List Int} (nz : NZ xs) (h : root? xs = some z) (nt : NZ t) (s : Sm (t ++ t) xs) : z = shr t := by
  obtain ⟨_, e, r, s2, _⟩ := root_some nz h
  have nzz : NZ z := by
    intro a ha
    rw [e] at ha
    have h1 := (side_parts nz).1
    have mem : a ∈ shr xs ∨ -a ∈ shr xs := by
      rw [h1]
      rcases List.mem_append.mp ha with q | q
      · rcases List.mem_append.mp q with q | q
        · exact .inl (by simp [q])
        · exact .inl (by
            have : a ∈ rnd xs := List.mem_of_mem_take q
            simp [this])
      · exact .inl (by simp [q])
    rcases mem with q | q
    · exact nz a (shr_mem q)
    · have := nz _ (shr_mem q)
      omega
  have := root_one nzz nt (s2.trans s.symm)
  rw [← shr_of_sm this, shr_short r]
end Fr
set_option Elab.async false
set_option linter.all false
set_option maxRecDepth 100000
set_option maxHeartbeats 2000000
/-! try: .. except X as n: y = n: the exception is kept by a name, asked for its class and its fields later. -/
namespace CK
open PySem PySem.Spec PyProof.Rows L2 TM
/-- at a: an exception that was caught, of the class cls, its own dict at d -/
def exk (a : Addr) (cls : Value) (d : Option Addr) : HO := .ext fun h => ∃ (oe : Obj) (vs : Array Value), h.get? a = some oe ∧ Zc cls d oe ∧ oe.data = .fields vs
theorem exk_ok {P : Program} {w : World} {H : Hp} {h : Heap} {a : Addr} {cls : Value} {d : Option Addr} {oe : Obj} {vs : Array Value} (e : h.get? a = some oe) (z : Zc cls d oe) (ed : oe.data = .fields vs) : ObjOk P w H h a (exk a cls d) :=
  ⟨⟨oe, vs, e, z, ed⟩, ⟨oe, e⟩, fun _ _ ⟨o, v, q, r⟩ k => ⟨o, v, k o q, r⟩⟩
theorem exk_at {P : Program} {w : World} {H : Hp} {h : Heap} {a : Addr} {cls : Value} {d : Option Addr} (hok : HOk P w H h) (e : H a = some (exk a cls d)) : ∃ (oe : Obj) (vs : Array Value), h.get? a = some oe ∧ Zc cls d oe ∧ oe.data = .fields vs := by
  have x : ObjOk P w H h a (.ext fun h => ∃ (oe : Obj) (vs : Array Value), h.get? a = some oe ∧ Zc cls d oe ∧ oe.data = .fields vs) := hok a _ e
  exact x.1
section
variable {X : Cx} {pins : List (Addr × Obj)} {σ : L2.St} {H : Hp} {s : Shared} {a : Addr} {cls : Value} {d : Option Addr} {oe : Obj} {vs : Array Value}
/-- an object that came up since the entry is tracked -/
theorem track (I : Inv X pins σ H s) (e : s.heap.get? a = some oe) (z : Zc cls d oe) (ed : oe.data = .fields vs) (hn : H a = none) (n0 : X.s_0.heap.get? a = none) (nL : a ≠ X.env.locals) (nP : ∀ p ∈ X.pn ++ pins, p.1 ≠ a) :
    Inv X pins σ (upd H a (exk a cls d)) s := by
  have neN : ∀ b, b ≠ a → upd H a (exk a cls d) b = H b := fun b h => upd_ne h
  have ne0 : ∀ b o, X.s_0.heap.get? b = some o → b ≠ a := fun b o q z => by
    rw [z, n0] at q
    cases q
  have nC : ∀ x c, X.env.cells.lookup x = some c → c ≠ a := fun x c q z => by
    obtain ⟨v, o, ho, hd⟩ := I.cell x c q
    rw [z, e] at ho
    cases ho
    rw [ed] at hd
    cases hd
  refine ⟨I.ok, I.os, I.bare, ⟨I.base.keep, I.base.slot, fun b o q n hx => ?_, I.base.there, fun b xs q => ?_, fun b o u q => ?_, fun b ps q => ?_⟩, I.loc, I.cell, ?_, fun x c q => ?_, fun p hp => ?_, HOk.laidN I.hok (fun _ _ q => q) hn (exk_ok e z ed), I.len⟩
  · rw [neN b (ne0 b o q)]
    exact I.base.free b o q n hx
  · have q2 := I.base.tups b xs q
    rw [neN b (ne_of_none q2 hn)]
    exact q2
  · have q2 := I.base.frzs b o u q
    rw [neN b (ne_of_none q2 hn)]
    exact q2
  · obtain ⟨m, q2⟩ := I.base.tbls b ps q
    exact ⟨m, by rw [neN b (ne_of_none q2 hn)]; exact q2⟩
  · rw [neN _ nL.symm]
    exact I.free
  · rw [neN c (nC x c q)]
    exact I.freeC x c q
  · obtain ⟨h1, h2, h3⟩ := I.pin p hp
    exact ⟨h1, by rw [neN p.1 (nP p hp)]; exact h2, h3⟩
end
/-- what ends a suite, the exception kept -/
def keepS (i : Nat) (a : Addr) (cls : Value) (d : Option Addr) (D : Ends) : Ends :=
  { nx := fun σ H => D.nx (σ.set i none) (upd H a (exk a cls d)), rt := fun v H => D.rt v (upd H a (exk a cls d)), bk := fun σ H => D.bk (σ.set i none) (upd H a (exk a cls d)), ct := fun σ H => D.ct (σ.set i none) (upd H a (exk a cls d)) }
def wishK (K : PySem.W.Frag) (out : WX) (D : Ends) (i : Nat) (c : Value) (say : Addr → Value → Option Addr → TS) : WX := fun cls d σ H =>
  ∃ b, PySem.W.exmOne K cls c = some b ∧ (b = true → ∀ a, H a = none → say a cls d (keepS i a cls d D) (σ.set i (some (.ref a))) H) ∧ (b = false → out cls d σ H)
section
variable {X : Cx} {pins : List (Addr × Obj)} {σ : L2.St} {H : Hp} {D : Ends} {out : WX} {cls : Value} {d : Option Addr} {a : Addr} {B : Heap} {s0 s : Shared}
theorem away (h : Held X pins σ H cls d a B s0 s) (hs : X.stack = X.env :: X.outer) : s0.heap.get? a = none := by
  obtain ⟨o, vs, ea, z, ed⟩ := h.fly.there
  have out_ : a ∉ frs X.stack := fun hm => by
    rw [hs] at hm
    obtain ⟨_, o', e', nf⟩ := h.fly.2.2.1.mem hm
    rw [ea] at e'
    cases e'
    exact nf _ ed
  cases e : s0.heap.get? a with
  | none => rfl
  | some o =>
    have := h.old a o e out_
    rw [h.fly.2.1] at this
    cases this
theorem goesK (h : Held X pins σ H cls d a B s0 s) (hs : X.stack = X.env :: X.outer) (hf : X.env.frame = some X.env.locals) (hex : X.ex = []) (tk : Takes X out) {x n : Str} {i : Nat} {c : Value} {say : Addr → Value → Option Addr → TS} {b0 : Stmt} {bs : List Stmt} {p1 p2 : Pos}
    (hN : X.N.Nodup) (hi : X.N[i]? = some n) (hl : X.env.kindOf n = some .local) (hc : Names X x c) (hsay : Says X (b0 :: bs) say) (w : wishK X.K out D i c say cls d σ H) :
    wpAny (model X.prog X.w) X.A (handleBy (.ref a) X.env [.ExceptHandler (some (.Name x p1)) (some n) (b0 :: bs) p2]) (SP X pins D) X.xe s := by
  obtain ⟨b, eb, yes, no⟩ := w
  obtain ⟨o, ea, z, ed, S⟩ := h.pinned hf
  have aw := away h hs
  have n0 : X.s_0.heap.get? a = none := by
    cases e : X.s_0.heap.get? a with
    | none => rfl
    | some o =>
      obtain ⟨o2, q⟩ := h.inv.base.there a o e (by rw [hex]; exact fun z => nomatch z)
      rw [aw] at q
      cases q
  have nP : ∀ p ∈ X.pn ++ pins, p.1 ≠ a := fun p hp q => by
    have := (h.inv.pin p hp).1
    rw [q, aw] at this
    cases this
  have look : PySem.W.Looks (model X.prog X.w) s.heap (typeOf (.ref a)) cls := fun A Q E s' k q => wpAny_typeOf_ref (k _ _ ea) (by rw [z.1]; exact q)
  have lm := PySem.W.exm_one (M := model X.prog X.w) h.now.kIn look eb
  have named : ∀ {p : Pos} {Q : Value → Shared → Prop} {E : Value → Shared → Prop}, Q c s → wpAny (model X.prog X.w) (X.A.mark (some (.ref a))) (eval (.Name x p) X.env) Q E s := fun {p Q E} k => by
    obtain ⟨g1, g2, m | ⟨m, v, nn⟩⟩ := hc
    · exact ld_glob (X := X.suite a ((a, o) :: (X.pn ++ pins))) S g1 m k g2
    · exact ld_blt (X := X.suite a ((a, o) :: (X.pn ++ pins))) S g1 m v k nn g2
  refine wpAny_handleBy_cons (codeAny_handlers_test (named (lm.here ?_))) (by intro q; cases q)
  cases b with
  | false => exact h.pass hs hf tk (no rfl)
  | true =>
    refine codeAny_handlers_suite_as (HandSPX.lands_againZ h.fly fun h4 fl4 up4 => ?_)
    have h' : Held X pins σ H cls d a B s0 { s with heap := h4 } := ⟨h.inv, h.old, h.up.trans up4, fl4, h.os, h.bare, h.free⟩
    obtain ⟨o4, _, z4, ed4, S4⟩ := h'.pinned hf
    refine store_ok (X := X.suite a ((a, o4) :: (X.pn ++ pins))) (v := .ref a) S4 hN hi (.inl hl) rfl (fun s5 S5 => ?_) (.inr hl)
    refine wpAny_mono ((hsay a o4 cls d (X.pn ++ pins) z4 ed4).run [] s5 _ H _ S5 (yes rfl a h.free)) (fun f s6 hsp => ?_) (fun _ _ z => False.elim z)
    have ok := h.inv.ok
    have end_ : ∀ {σ6 : L2.St} {H6 : Hp} {Q : Shared → Prop}, Inv (X.suite a ((a, o4) :: (X.pn ++ pins))) [] σ6 H6 s6 → (∀ s7, Inv X pins (σ6.set i none) (upd H6 a (exk a cls d)) s7 → Q s7) →
        wpAny (model X.prog X.w) X.A (do bindName X.env n .none; unbindBehindTheSuite X.env n p2) (fun _ s7 => Q s7) X.xe s6 := fun {σ6 H6 Q} S6 hq => by
      obtain ⟨g1, g2, g3, g4, g5⟩ := S6.pin (a, o4) (List.mem_append_left _ List.mem_cons_self)
      obtain ⟨vs4, ed5⟩ := ed4
      exact gone_ok (track (S6.unsuite ok) g1 z4 ed5 g2 n0 g3 nP) hN hi hl hq
    cases f with
    | next => obtain ⟨σ6, H6, S6, q6⟩ := hsp; exact end_ S6 fun s7 J7 => ⟨_, _, J7, q6⟩
    | brk => obtain ⟨σ6, H6, S6, q6⟩ := hsp; exact end_ S6 fun s7 J7 => ⟨_, _, J7, q6⟩
    | cont => obtain ⟨σ6, H6, S6, q6⟩ := hsp; exact end_ S6 fun s7 J7 => ⟨_, _, J7, q6⟩
    | ret u => obtain ⟨v6, σ6, H6, S6, r6, q6⟩ := hsp; exact end_ S6 fun s7 J7 => ⟨_, _, _, J7, r6, q6⟩
end
section
variable {X : Cx} {body : List Stmt} {pos : Pos} {tb : WX → TS} {out : WX} {x n : Str} {i : Nat} {c : Value} {say : Addr → Value → Option Addr → TS} {b0 : Stmt} {bs : List Stmt} {p1 p2 : Pos}
theorem ps_try_keep (hs : X.stack = X.env :: X.outer) (hf : X.env.frame = some X.env.locals) (hex : X.ex = []) (tk : Takes X out)
    (hb : ∀ (W : WX) (pn : List (Addr × Obj)) (xe : Value → Shared → Prop), Takes (X.tr pn xe) W → PassesOwn (model X.prog X.w) X.A X.env xe → PSs (X.tr pn xe) body (tb W))
    (hN : X.N.Nodup) (hi : X.N[i]? = some n) (hl : X.env.kindOf n = some .local) (hc : Names X x c) (hsay : Says X (b0 :: bs) say) :
    PS X (.Try body [.ExceptHandler (some (.Name x p1)) (some n) (b0 :: bs) p2] [] [] pos) (fun D σ H => tb (wishK X.K out D i c say) D σ H) := by
  refine ⟨fun pins s σ H D I h => ?_⟩
  have ok := I.ok
  have hfr : X.A.frames = some (X.env :: X.outer) := by rw [ok.frames, hs]
  refine wpAny_Try_except (wpAny_mono ((hb (wishK X.K out D i c say) (X.pn ++ pins) (fun e s₁ => wpAny (model X.prog X.w) X.A (noteFrame e X.env) (fun _ s₂ => wpAny (model X.prog X.w) X.A (setFlight e none) (fun _ s₃ =>
    wpAny (model X.prog X.w) X.A (handleBy e X.env [.ExceptHandler (some (.Name x p1)) (some n) (b0 :: bs) p2]) (SP X pins D) X.xe s₃) X.xe s₂) X.xe s₁) (fun u s' xx => ?_) PassesOwn.looking).run [] s σ H D (I.toTry _) h) (fun f s1 hsp => ?_) (fun e s1 he => he))
  · obtain ⟨a, B, s0, pins', σ', H', cls, d, rfl, J', old, up, sky, free, os, bare, w⟩ := xx
    have sky' : Sky B (X.env :: X.outer) a (Zc cls d) X.env.locals s'.heap := by rw [← hs]; exact sky
    exact Sky.land Zc.steady hfr hf sky' fun h3 fl3 up3 => goesK (s := { s' with heap := h3 }) ⟨J'.ofTry ok, old, up.trans up3, fl3, os, bare, free⟩ hs hf hex tk hN hi hl hc hsay w
  · cases f with
    | next => obtain ⟨σ', H', J', q⟩ := hsp; exact wpAny_execs_nil ⟨σ', H', J'.ofTry ok, q⟩
    | brk => obtain ⟨σ', H', J', q⟩ := hsp; exact ⟨σ', H', J'.ofTry ok, q⟩
    | cont => obtain ⟨σ', H', J', q⟩ := hsp; exact ⟨σ', H', J'.ofTry ok, q⟩
    | ret u => obtain ⟨v, σ', H', J', r, q⟩ := hsp; exact ⟨v, σ', H', J'.ofTry ok, r, q⟩
end
/-! ### the class of an exception that has a dict of its own -/
section
open PySem.W PySem.Calls
variable {prog : Program} {w : World} {A : Around} {E : Value → Shared → Prop} {s : Shared} {K : Frag} {x D : Addr} {ox : Obj} {odo : Option Obj}
theorem clsD {Q : Option Value → Shared → Prop} (C : ExcC K D) (bnd : findObj K D odo "__class__" = some (.bind (.builtin "getset_descriptor.__get__") (.builtin "object.__class__"))) (X : K.In s.heap) (I : InstAt s.heap x ox D odo) (h : Q (some (.ref D)) { s with toks := s.toks + 1 }) :
    wpAny (model prog w) A (getAttr? (.ref x) "__class__") Q E s := by
  obtain ⟨hh, gs, dr, tk, ost⟩ := s
  have lT := I.type (M := model prog w)
  have lA := looks_findIn (M := model prog w) X C.hg
  have lB := looks_findIn (M := model prog w) X C.hk
  have lO := looks_find (M := model prog w) X I bnd
  have isB : Looks (model prog w) hh (isInstance (.ref x) (.type "BaseException")) true := lT.andThen (looks_subIn X C.hs)
  have n2 : (Value.builtin "BaseException.__getattribute__" == .builtin "object.__getattribute__") = false := by
    decide +kernel
  have n1 : (onTheHeap (Value.ref D) && Value.builtin "BaseException.__getattribute__" == .builtin "object.__getattribute__") = false := by
    rw [n2]
    rfl
  unfold getAttr? getAttrBy? getAttrBy
  refine wpAny_bind (wpAny_mkText ?_)
  refine wpAny_bind (wpAny_attempt (wpAny_holding ?_))
  refine wpAny_bind (lT.at (wpAny_bind (lA.at ?_)))
  show wpAny _ _ (if (onTheHeap (Value.ref D) && Value.builtin "BaseException.__getattribute__" == Value.builtin "object.__getattribute__") = true then _ else _) _ _ _
  rw [n1, if_neg (by decide)]
  unfold getAttrByItsOwn hookBefore
  refine wpAny_bind ?_
  rw [if_pos (by rfl)]
  refine lB.at (wpAny_bind (wpAny_attempt (wpAny_holding ?_)))
  unfold callGetattribute
  rw [if_neg (show ¬ (false && onTheHeap (Value.builtin "BaseException.__getattribute__")) = true by decide)]
  unfold boundAndCalled
  rw [PySem.F.excAttr_ValueError.ga.bind (.ref x)]
  refine wpAny_bind (wpAny_pure ?_)
  show wpAny _ _ (call (.builtin "BaseException.__getattribute__") [.ref x, .str "__class__" tk]) _ _ _
  refine wpAny_call (codeAny_call_builtin PySem.F.excAttr_ValueError.ga.plain PySem.F.entry_bexc_ga ?_)
  refine @check_slot (model prog w) _ _ ⟨hh, gs, dr, tk + 1, ost⟩ "BaseException.__getattribute__" "BaseException" "__getattribute__" (.ref x) [.str "__class__" tk] [] _ (by decide +kernel) (by decide +kernel) isB (PySem.F.args_bexc_ga (.ref x) (.str "__class__" tk)) ?_
  unfold Builtin.«object.__getattribute__»
  refine wpAny_bind (wpAny_of_eq (a := ((Value.ref x : Value), [Value.str "__class__" tk])) (by first | rfl | (simp only [slotArgs]; rfl)) ?_)
  refine wpAny_bind (wpAny_pure (wpAny_bind (lT.at (wpAny_bind (lO.at ?_)))))
  show wpAny _ _ (holding [Value.builtin "object.__class__"] (call (.builtin "getset_descriptor.__get__") [.builtin "object.__class__", .ref x, .ref D]) >>= ret) _ _ _
  refine wpAny_bind (wpAny_holding (wpAny_call (class_get (s := ⟨hh, gs, dr, tk + 1, ost⟩) X I C.hm (wpAny_pure ?_))))
  show wpAny _ _ (handedOut (.ref D)) _ _ _
  rw [handedOut_of (v := .ref D) rfl]
  first
    | exact wpAny_pure (wpAny_pure h)
    | exact wpAny_pure (wpAny_bind (wpAny_pure (wpAny_pure h)))
    | exact wpAny_pure h
theorem kitD {od : Obj} (C : ExcC K D) : KitX K (.ref x) (.ref D) (fun h => InstAt h x ox D (some od)) where
  ty := fun _ _ _ I => I.type
  it := fun _ _ X _ => by
    obtain ⟨cd, hc, _⟩ := any_some C.hd
    unfold clsIn at hc
    split at hc
    · rename_i c1 d1 cd1 sl1 ho
      intro A' Q' E' s' k q
      unfold isType loadHead
      exact wpAny_bind (wpAny_loadPart (k _ _ (X _ _ ho)) (wpAny_pure q))
    · cases hc
  ne := fun h tp dd its n sl X htp => by
    obtain ⟨cd, hc, _⟩ := any_some C.hd
    refine Bool.eq_false_iff.mpr fun q => ?_
    have e : D = tp := Value.ref.inj (beq_iff_eq.mp q)
    subst e
    unfold clsIn at hc
    split at hc
    · rename_i c1 d1 cd1 sl1 ho
      cases (X _ _ ho).symm.trans htp
    · cases hc
  ca := fun X I k => clsD C (findObj_data (by obtain ⟨cd, hc, _⟩ := any_some C.hd; rw [hc] <;> rfl) C.ha C.hn C.ht) X I k
end
section
variable {X : Cx}
/-! ### asked later -/
/-- isinstance(x, c), x any value or an exception that was kept -/
def rIsC (K : PySem.W.Frag) : List V → Hp → VK → Prop := fun xs H Q => rIsi K xs H Q ∨ ∃ (a D dd : Addr) (fs : List (Str × V)) (c : V) (cv : Value) (b : Bool), xs = [.ref a, c] ∧ H a = some (exk a (.ref D) (some dd)) ∧ H dd = some (.xd fs) ∧ ExcC K D ∧ (∀ u, RelV c u → u = cv) ∧ PySem.W.kitOne K (.ref D) cv = some b ∧ Q (.bl b) H
theorem call_isC : CallR X (.builtin "isinstance") (rIsC X.K) := by
  intro pins s σ H xs us Q I r h
  rcases h with h | ⟨a, D, dd, fs, c, cv, b, rfl, ha, hdd, C, hcv, e, q⟩
  · exact call_isi pins s σ H xs us Q I r h
  · cases r with
    | cons rx rr =>
      cases rr with
      | cons rt rr =>
        cases rr
        cases rx
        have ec := hcv _ rt
        subst ec
        obtain ⟨oe, vs, hget, hz, hv⟩ := exk_at I.hok ha
        obtain ⟨mA, hns, hr⟩ := (show ObjOk X.prog X.w H s.heap dd (.xd fs) from I.hok dd _ hdd)
        obtain ⟨od, ho, hl⟩ := lookIn_ns hns
        have J : PySem.W.InstAt s.heap a oe D (some od) := ⟨hget, hz.1, by unfold PySem.W.notCls; rw [hv] <;> rfl, by rw [hz.2]; exact ho⟩
        exact PySem.W.kia_one (kitD C) I.kIn J e (fun z => nomatch z) fun tk => ⟨.bl b, H, I.tok tk, rfl, q⟩
/-- y.f, y an exception that was kept -/
def tKf (C : Addr) (f : Str) (te : TE) : TE := fun σ H Q => te σ H fun x H1 => ∃ (a dd : Addr) (fs : List (Str × V)) (v : V), x = .ref a ∧ H1 a = some (exk a (.ref C) (some dd)) ∧ H1 dd = some (.xd fs) ∧ fs.lookup f = some v ∧ Q v H1
theorem pe_kf {C : Addr} {e : Expr} {te : TE} {pos : Pos} {f : Str} (T : XfC X.K C) (hno : PySem.W.findIn X.K (.ref C) f = some none) (he : PE X e te) (hb : attributeBase e f X.env (eval e X.env) = eval e X.env := by rfl) :
    PE X (.Attribute e f pos) (tKf C f te) := by
  refine ⟨fun pins s σ H Q I h => ?_⟩
  refine attr_of hb (thn (he.run pins s σ H _ I h) fun u s1 hh => ?_)
  obtain ⟨x, H1, I1, rx, a, dd, fs, v, ex, hA, ea, l, q⟩ := hh
  subst ex
  obtain rfl : u = Value.ref a := rx
  obtain ⟨oe, vs, ha, hz, hd⟩ := exk_at I1.hok hA
  have hx : ObjOk X.prog X.w H1 s1.heap dd (.xd fs) := I1.hok dd _ ea
  obtain ⟨mA, hns, hr⟩ := hx
  obtain ⟨od, ho, hl⟩ := lookIn_ns hns
  obtain ⟨u, hu, ru⟩ := RelO.some_of (v := v) (o := mA f) (by rw [← l]; exact hr f)
  have J : PySem.W.InstAt s1.heap a oe C (some od) := ⟨ha, hz.1, by unfold PySem.W.notCls; rw [hd] <;> rfl, by rw [hz.2]; exact ho⟩
  exact HandSPX.exc_get I1.kIn J T.ga T.gg T.exC (PySem.W.findObj_own T.hdC hno rfl (by rw [hl, hu])) (handed_of ru) ⟨v, H1, I1.tok _, ru, q⟩
end
end CK
set_option Elab.async false
set_option linter.all false
set_option maxRecDepth 100000
set_option maxHeartbeats 1000000
namespace W55
open PySem L2 PySem.Spec PyProof.Rows WR
abbrev sSides : Stmt := top 11
abbrev sAsSq : Stmt := top 33
abbrev sNeed2 : Stmt := top 35
abbrev sPast : Stmt := top 36
abbrev sInitB : Stmt := inClass (top 3) 0
inductive Odd (K : PySem.W.Frag) (C : Addr) (H : Hp) : V → Value → Prop
  | typ {x : V} {t : String} (h : Typ H x t) : Odd K C H x (.type t)
  | word {p : Addr} {ns : List Int} (h : WordAt K C H p ns) : Odd K C H (.ref p) (.ref C)
  | lst {a : Addr} {xs : List V} (h : SqL K H a xs) : Odd K C H (.ref a) (.type "list")
  | tup {a : Addr} {xs : List V} (h : SqT K H a xs) : Odd K C H (.ref a) (.type "tuple")
theorem Odd.same {K : PySem.W.Frag} {C : Addr} {H H' : Hp} {x : V} {t : Value} (h : Odd K C H x t) (s : Same H H') : Odd K C H' x t := by
  cases h with
  | typ h => exact .typ (h.same s)
  | word h => exact .word (h.same s)
  | lst h => exact .lst (s.seq h)
  | tup h => exact .tup (WR.Same.seqT s h)
theorem Odd.tyx {K : PySem.W.Frag} {mg : Str → Option Value} {C : Addr} {H : Hp} {x : V} {t : Value} (h : Odd K C H x t) (T : TxW K mg C) : TyX K H x t := by
  cases h with
  | typ h => exact h.ty
  | word h => exact h.tyx T
  | lst h => exact SqL.tyx h
  | tup h => exact SqT.tyx h
def IsW (K : PySem.W.Frag) (C : Addr) (H : Hp) (x : V) (b : Bool) : Prop := ∃ t, Odd K C H x t ∧ PySem.W.kitOne K t (.ref C) = some b
section
variable {K : PySem.W.Frag} {C : Addr} {H H' : Hp} {x : V} {b : Bool}
theorem IsW.same (h : IsW K C H x b) (s : Same H H') : IsW K C H' x b := by
  obtain ⟨t, h1, h2⟩ := h
  exact ⟨t, h1.same s, h2⟩
end
def spI1 (C : Addr) : Sp := fun vs H Q _ => ∃ (a : Addr) (v : V), vs = [.ref a, v] ∧ H a = some (exo a C none) ∧ ∀ dx, H dx = none → dx ≠ a → Q .non (L2.upd (L2.upd H dx (exd dx [("part", v)])) a (exo a C (some dx)))
structure ErrC (P : Program) (w : World) (K : PySem.W.Frag) (mg : Str → Option Value) (base : Heap) (C : Addr) (x : Str) (ps : List Str) (sp : Sp) : Prop where
  oex : OexC K C
  ini : ∃ (fI : Addr) (fd : FuncData), PySem.W.findIn K (.ref C) "__init__" = some (some (.ref fI)) ∧ PySem.W.typeIn K (.ref fI) = some (.type "function") ∧ FnOk P w K mg base CX0 1 fI fd ps sp ∧ Binds K fd ps []
  g : mg x = some (.ref C)
  xf : XfC K C
  te : PySem.W.exmOne K (.ref C) (.ref C) = some true
section
variable {P : Program} {w : World} {K : PySem.W.Frag} {mg : Str → Option Value} {base : Heap}
theorem scInitB : FnScope ["self", "part"] ["self", "part"] (defScope sInitB) := ⟨rfl, rfl, rfl, by decide +kernel, rfl, by decide +kernel, by decide +kernel⟩
theorem ok_initB {C f : Addr} {fd : FuncData} (F : Fun K "__init__" "BadWord.__init__" sInitB f fd) (O : OexC K C) (n1 : PySem.W.findIn K (.ref C) "part" = some none) : FnOk P w K mg base CX0 1 f fd ["self", "part"] (spI1 C) := by
  refine F.ok scInitB (fun vs H Q E h => ?_) (fun cdv A outer s H vs Q E hr h => ?_)
  · obtain ⟨a, v, rfl, _⟩ := h
    rfl
  · obtain ⟨a, v, rfl, hA, k⟩ := h
    refine ⟨_, pss_one (ps_ost (pv 0) (pv 1)), ?_⟩
    exact ⟨_, rfl, _, rfl, a, C, rfl, O, n1, .inl ⟨hA, fun dx h1 h2 => k dx h1 h2⟩⟩
end
theorem heap1 {H : Hp} {a d : Addr} {e1 e2 e3 o : HO} (ha : H a = none) (hd : d ≠ a) : L2.upd (del (L2.upd (L2.upd (L2.upd H a e1) d e2) a e3) a) d o = L2.upd H d o := by
  funext b
  by_cases h1 : b = d
  · subst h1
    rw [upd_same, upd_same]
  · rw [upd_ne h1, upd_ne h1]
    by_cases h2 : b = a
    · subst h2
      rw [del_same, ha]
    · rw [del_ne h2, upd_ne h2, upd_ne h1, upd_ne h2]
theorem mk1 {C : Addr} {H : Hp} {v : V} {Q : XK} (k : ∀ d, H d = none → Q (.ref C) (some d) (L2.upd H d (.xd [("part", v)]))) : ∀ a, H a = none → spI1 C [.ref a, v] (L2.upd H a (exo a C none))
    (fun z H2 => z = .non ∧ ∃ (d : Addr) (fs : List (Str × V)), H2 a = some (exo a C (some d)) ∧ H2 d = some (exd d fs) ∧ H d = none ∧ Q (.ref C) (some d) (L2.upd (del H2 a) d (.xd fs))) (fun _ _ _ => False) := by
  intro a ha
  refine ⟨a, v, rfl, upd_same, fun dx h1 h2 => ⟨rfl, dx, _, upd_same, by rw [upd_ne h2, upd_same], by rw [upd_ne h2] at h1; exact h1, ?_⟩⟩
  rw [heap1 ha h2]
  exact k dx (by rw [upd_ne h2] at h1; exact h1)
abbrev BadW (CB : Addr) (E : XK) (H : Hp) (z : Str) : Prop := ∀ H1, Same H H1 → ∀ d, H1 d = none → E (.ref CB) (some d) (L2.upd H1 d (.xd [(("part" : Str), .str z)]))
structure CalX (P : Program) (w : World) (K : PySem.W.Frag) (mg : Str → Option Value) (base : Heap) (x : Str) (k : Nat) (ps : List Str) (sp : Sp) : Prop where
  ex : ∃ (f : Addr) (fd : FuncData), FnOk P w K mg base (L2.CX P w) k f fd ps sp ∧ mg x = some (.ref f) ∧ PySem.W.keepIn K (.ref f) = true ∧ Binds K fd ps []
section
variable {X : Cx} {x : Str} {k j : Nat} {ps : List Str} {sp : Sp} {p pos : Pos} {e : Expr} {es : List Expr} {t : TA} {E : XK}
theorem pe_calX (C : CalX X.prog X.w X.K X.mg X.base x k ps sp) (hr : Room j X.A) (hkj : k ≤ j) (hx : Passes (L2.CX X.prog X.w) X E) (hg : Gl X x) (ha : PA X (e :: es) t) (hdb : (x == ("__debug__" : Str)) = false := by decide)
    (he : starEach (e :: es) X.env = (false, eval e X.env) :: starEach es X.env := by rfl) (hpl : (backTo pos (starEach es X.env)).any (·.1) = false := by rfl) :
    PE X (.Call (.Name x p) (e :: es) [] pos) (tCall sp [] E t) := by
  obtain ⟨f, fd, F, hm, hk, hb⟩ := C.ex
  exact pe_call F (hr.mono hkj) hg hm hk hb .nil hx ha hdb he hpl
theorem passF : Passes (L2.CX X.prog X.w) X (fun _ _ _ => False) := fun pins σ H s e s' I c => by
  obtain ⟨a, B, H', cls, d, rfl, fl, hok, ub, na, os, ag, hE⟩ := c
  exact hE.elim
end
structure MethW (P : Program) (w : World) (K : PySem.W.Frag) (mg : Str → Option Value) (base : Heap) (C : Addr) (m : Str) (ps : List Str) (sp : Sp) : Prop where
  ex : ∃ (f : Addr) (fd : FuncData), Meth K C m f ∧ FnOk P w K mg base CX0 6 f fd ps sp ∧ Binds K fd ps []
section
variable {X : Cx} {C : Addr} {o e : Expr} {es : List Expr} {ta : TE} {t : TA} {m : Str} {ps : List Str} {sp : Sp} {apos pos : Pos} {j : Nat}
theorem pe_w0 {pl : Sem Bool} (M : MethW X.prog X.w X.K X.mg X.base C m ps sp) (c : Cls X.K C) (hr : Room j X.A) (hj : 6 ≤ j) (he : PE X o ta)
    (ht : eval (.Call (.Attribute o m apos) [] [] pos) X.env = (do
      let ov ← eval o X.env
      standAt apos.atName
      let (f, first) ← holding [ov] (getMethod ov m pl)
      callWith pos f first (backTo pos (starEach [] X.env)) (backToKw pos (keywordEach [] X.env))) := by rfl) :
    PE X (.Call (.Attribute o m apos) [] [] pos) (tMeth C m sp [] E0 ta tNil) := by
  obtain ⟨f, fd, hm, F, hb⟩ := M.ex
  exact pe_meth0 he c hm F (hr.mono hj) hb .nil pass0 ht
theorem pe_w1 {pl : Sem Bool} (M : MethW X.prog X.w X.K X.mg X.base C m ps sp) (c : Cls X.K C) (hr : Room j X.A) (hj : 6 ≤ j) (he : PE X o ta) (ha : PA X (e :: es) t)
    (hst : starEach (e :: es) X.env = (false, eval e X.env) :: starEach es X.env := by rfl) (hpl : (backTo pos (starEach es X.env)).any (·.1) = false := by rfl)
    (ht : eval (.Call (.Attribute o m apos) (e :: es) [] pos) X.env = (do
      let ov ← eval o X.env
      standAt apos.atName
      let (f, first) ← holding [ov] (getMethod ov m pl)
      callWith pos f first (backTo pos (starEach (e :: es) X.env)) (backToKw pos (keywordEach [] X.env))) := by rfl) :
    PE X (.Call (.Attribute o m apos) (e :: es) [] pos) (tMeth C m sp [] E0 ta t) := by
  obtain ⟨f, fd, hm, F, hb⟩ := M.ex
  exact pe_meth he c hm F (hr.mono hj) hb .nil pass0 ha hst hpl ht
end
theorem WordAt.at {K : PySem.W.Frag} {C : Addr} {H : Hp} {p : Addr} {ns : List Int} (h : WordAt K C H p ns) {m : Str} (h1 : ¬ m = "letters") (h2 : ¬ m = "length") (h3 : ¬ m = "kinds") (h4 : ¬ m = "is_short") (h5 : ¬ m = "is_short_round") :
    ∃ dx fs, H p = some (.ins C dx fs) ∧ fs.lookup m = none := by
  obtain ⟨dx, tl, tk, ks, h, _⟩ := h
  exact ⟨dx, _, h, wf_no h1 h2 h3 h4 h5⟩
theorem nm1 : ¬ (("contrary" : Str) = "letters") ∧ ¬ (("contrary" : Str) = "length") ∧ ¬ (("contrary" : Str) = "kinds") ∧ ¬ (("contrary" : Str) = "is_short") ∧ ¬ (("contrary" : Str) = "is_short_round") := by decide +kernel
theorem nm2 : ¬ (("shortened" : Str) = "letters") ∧ ¬ (("shortened" : Str) = "length") ∧ ¬ (("shortened" : Str) = "kinds") ∧ ¬ (("shortened" : Str) = "is_short") ∧ ¬ (("shortened" : Str) = "is_short_round") := by decide +kernel
theorem nm4 : ¬ (("then" : Str) = "letters") ∧ ¬ (("then" : Str) = "length") ∧ ¬ (("then" : Str) = "kinds") ∧ ¬ (("then" : Str) = "is_short") ∧ ¬ (("then" : Str) = "is_short_round") := by decide +kernel
theorem nm5 : ¬ (("times" : Str) = "letters") ∧ ¬ (("times" : Str) = "length") ∧ ¬ (("times" : Str) = "kinds") ∧ ¬ (("times" : Str) = "is_short") ∧ ¬ (("times" : Str) = "is_short_round") := by decide +kernel
theorem WordAt.no {K : PySem.W.Frag} {C : Addr} {H : Hp} {p : Addr} {ns : List Int} (h : WordAt K C H p ns) {m : Str} (n : ¬ m = "letters" ∧ ¬ m = "length" ∧ ¬ m = "kinds" ∧ ¬ m = "is_short" ∧ ¬ m = "is_short_round") :
    ∃ dx fs, H p = some (.ins C dx fs) ∧ fs.lookup m = none := h.at n.1 n.2.1 n.2.2.1 n.2.2.2.1 n.2.2.2.2
theorem WordAt.drew {K : PySem.W.Frag} {C : Addr} {H H' : Hp} {p a c : Addr} {n : Nat} {ns : List Int} (h : WordAt K C H p ns) (hH : HandAt H a c n) {m : Nat} (d : Drew a c m H H') : WordAt K C H' p ns := by
  have keep : ∀ {q : Addr} {xs : List V}, SqT K H q xs → SqT K H' q xs := by
    intro q xs h
    obtain ⟨cs, i, r, hA, _⟩ := hH
    rcases h with h | h
    · left
      rcases h with h | ⟨o, h⟩
      · exact .inl (d.2 _ _ (fun z => by rw [z, hA] at h; cases h) h)
      · exact .inr ⟨o, d.2 _ _ (fun z => by rw [z, hA] at h; cases h) h⟩
    · exact .inr h
  obtain ⟨dx, tl, tk, ks, h1, h2, h3, h4⟩ := h
  refine ⟨dx, tl, tk, ks, d.2 _ _ (fun z => ?_) h1, keep h2, keep h3, h4⟩
  obtain ⟨cs, i, r, hA, _⟩ := hH
  rw [z, hA] at h1
  cases h1
theorem make_at {K : PySem.W.Frag} {C : Addr} {H1 : Hp} {q x dx : Addr} {ms : List Int} {G : Hp → Prop} {E : XK} (nx : H1 x = none) (ndx : H1 dx = none) (hq : SqE K H1 q (iv ms)) (hlen : ms.length ≤ 500) (hl : Lts ms) (k : ∀ H', Same H1 H' → WordAt K C H' x ms → G H') :
    spInit K C [.ref x, .ref q] (L2.upd (L2.upd H1 dx (.own x)) x (.ins C dx [])) (fun v H2 => v = .non ∧ G H2) E := by
  have s0 : Same H1 (L2.upd (L2.upd H1 dx (.own x)) x (.ins C dx [])) := fun b o e => by
    rw [upd_ne (ne_of_none e nx), upd_ne (ne_of_none e ndx)]
    exact e
  exact ⟨H1, x, dx, q, ms, rfl, s0, nx, upd_same, hq, hlen, hl, fun H' s' W' => ⟨rfl, k H' s' W'⟩⟩
theorem eqvL_ints (ns ms : List Int) : PyData.eqv (.list (ns.map .int)) (.list (ms.map .int)) = decide (ns = ms) := by
  show PyData.eqvAll _ _ = _
  exact eqvAll_ints ns ms
theorem no_ne {b : Bool} {A B : Prop} (h : b = true) (k : B) : if (!b) = true then A else B := by rw [h]; exact iteF k
def spNeedWX (K : PySem.W.Frag) (C CB : Addr) : Sp := fun vs H Q E => ∃ (x : V) (b : Bool) (z : Str), vs = [x, .str z] ∧ IsW K C H x b ∧ (b = true → Q .non H) ∧ (b = false → BadW CB E H z)
def spSides (K : PySem.W.Frag) : Sp := fun vs H Q _ => ∃ (a : Addr) (ns : List Int), vs = [.ref a] ∧ SqT K H a (iv ns) ∧ ns.length ≤ 1000 ∧ Fr.NZ ns ∧
  ∀ p H', Same H H' → ∀ q r, SqT K H' p [.ref q, .ref r] → SqT K H' q (iv (ns.take ((ns.length - (Fr.rnd ns).length) / 2))) → SqT K H' r (iv (Fr.rnd ns)) → Q (.ref p) H'
def spAsSq (K : PySem.W.Frag) (C CB : Addr) : Sp := fun vs H Q E => ∃ x : V, vs = [x] ∧
  ((IsW K C H x false ∧ BadW CB E H "word") ∨
    ∃ (a : Addr) (ns : List Int), x = .ref a ∧ WordAt K C H a ns ∧ ns.length ≤ 500 ∧ Lts ns ∧ (∀ z, Fr.root? ns = some z → NewW K C H Q z) ∧ (Fr.root? ns = none → ∀ H', Same H H' → Q .non H'))
def spNeed2 (K : PySem.W.Frag) (C : Addr) : Sp := fun vs H Q _ => ∃ (p q : Addr) (ns ms : List Int), vs = [.ref p, .ref q] ∧ WordAt K C H p ns ∧ WordAt K C H q ms ∧ Q .non H
def spPast (K : PySem.W.Frag) (C : Addr) : Sp := fun vs H Q _ => ∃ (p q : Addr) (ns ms : List Int), vs = [.ref p, .ref q] ∧ WordAt K C H p ns ∧ WordAt K C H q ms ∧ ns.length + ms.length ≤ 1000 ∧
  ∀ H', Same H H' → Q (.bl (decide (Fr.shr (ns ++ ms) = Fr.shr (ms ++ ns)))) H'
theorem side_le (ns : List Int) : (Fr.side ns).length ≤ ns.length := by
  unfold Fr.side
  rw [List.length_take]
  have := shr_len ns
  omega
theorem half_nat (n : Nat) : ((n : Int)) / 2 = ((n / 2 : Nat) : Int) := by omega
theorem cut_to {ns : List Int} {j : Nat} (h : j ≤ ns.length) : cutV (iv ns) none (some (j : Int)) = iv (ns.take j) := by
  have e : cutV (iv ns) none (some (j : Int)) = cutV (iv ns) (some ((0 : Nat) : Int)) (some (j : Int)) := by
    unfold cutV
    have a : HT.sIx (iv ns).length 0 none = 0 := rfl
    have b : HT.sIx (iv ns).length 0 (some ((0 : Nat) : Int)) = 0 := by
      unfold HT.sIx
      simp
    rw [a, b]
  rw [e, cut_nat (Nat.zero_le _) (by rw [List.length_map]; exact h), List.drop_zero, Nat.sub_zero, ← List.map_take]
theorem WordAt.isW {K : PySem.W.Frag} {C : Addr} {H : Hp} {p : Addr} {ns : List Int} (h : WordAt K C H p ns) : IsW K C H (.ref p) true := ⟨_, .word h, kit_self C⟩
section
variable {P : Program} {w : World} {K : PySem.W.Frag} {mg : Str → Option Value} {base : Heap} {C CB : Addr}
theorem ok_needWX {f : Addr} {fd : FuncData} (F : Fun K "need_word" "need_word" sNeedW f fd) (T : TxW K mg C) (EB : ErrC P w K mg base CB "BadWord" ["self", "part"] (spI1 CB)) :
    FnOk P w K mg base (L2.CX P w) 3 f fd ["value", "part"] (spNeedWX K C CB) := by
  refine F.okX scNeedW (fun vs H Q E h => ?_) (fun cdv A outer s H vs Q E hr h => ?_)
  · obtain ⟨x, b, z, rfl, _⟩ := h
    rfl
  · obtain ⟨x, b, z, rfl, ⟨t, hO, hk⟩, k1, k2⟩ := h
    obtain ⟨fI, fdI, iC, tI, FI, bI⟩ := EB.ini
    refine ⟨_, pss_one (ps_if (pt_not (pt_val (pe_callB call_isi (by rfl) T.isin (by decide +kernel) (pa_cons (pv 0) (pa_cons (pe_glob (v := .ref C) (by rfl) T.mgW rfl) pa_nil))))) (pss_one (ps_raise rfl (takes_of rfl rfl rfl rfl) (pmk_oex (dvs := []) EB.oex iC tI FI (hr.mono (by decide)) bI .nil pass0 (by rfl) EB.g (pa_cons (pv 1) pa_nil)))) pss_nil), ?_⟩
    refine ⟨_, rfl, _, _, _, _, _, rfl, .own C, hO.tyx T, hk, _, rfl, ?_⟩
    cases b with
    | true => exact iteF (k1 rfl)
    | false => exact iteT ⟨_, rfl, by show 1 ≤ 1000; decide, mk1 (Q := fun cls d H' => E cls d H') fun d hd => k2 rfl H (fun _ _ e => e) d hd⟩
theorem scSides : FnScope ["letters", "ring"] ["letters"] (defScope sSides) := ⟨rfl, rfl, rfl, by decide +kernel, rfl, by decide +kernel, by decide +kernel⟩
theorem ok_sides {f : Addr} {fd : FuncData} (F : Fun K "ends_and_ring" "ends_and_ring" sSides f fd) (TA : TxA mg) (GR : Cal P w K mg base "rounded_letters" 2 ["letters"] (spRnd K)) : FnOk P w K mg base CX0 3 f fd ["letters"] (spSides K) := by
  refine F.ok scSides (fun vs H Q E h => ?_) (fun cdv A outer s H vs Q E hr h => ?_)
  · obtain ⟨a, ns, rfl, _⟩ := h
    rfl
  · obtain ⟨a, ns, rfl, hS, hlen, nz, k⟩ := h
    refine ⟨_, pss_cons (ps_set (i := 1) scSides.nd rfl (Or.inl rfl) (pe_cal GR hr (by decide) (by rfl) (pa_cons (pv 0) pa_nil)))
      (pss_one (ps_ret (pe_tup (pa_cons (pe_slice sl_tupU (pv 0) po_none (po_some (pe_op op_fdiv (pe_op op_sub (pe_callB call_len_seq (by rfl) TA.len PySem.boot_len (pa_cons (pv 0) pa_nil)) (pe_callB call_len_seq (by rfl) TA.len PySem.boot_len (pa_cons (pv 1) pa_nil))) pe_int))) (pa_cons (pv 1) pa_nil))))), ?_⟩
    refine ⟨_, rfl, a, ns, rfl, .inr hS, hlen, nz, fun p H1 s1 hp => ?_⟩
    have hS1 := WR.Same.seqT s1 hS
    refine ⟨_, rfl, _, rfl, a, _, rfl, .inr hS1, _, rfl, p, _, rfl, .inr hp, _, _, rfl, rfl, _, _, rfl, rfl, ⟨by decide, by decide⟩, _, rfl, a, _, rfl, hS1, fun q H2 s2 hq => ?_⟩
    have hle : (Fr.rnd ns).length ≤ ns.length := by
      obtain ⟨u, e⟩ := rnd_sub nz
      have h1 := shr_len ns
      rw [e, whole_len] at h1
      omega
    have e1 : (((iv ns).length : Int) - ((iv (Fr.rnd ns)).length : Int)) / 2 = (((ns.length - (Fr.rnd ns).length) / 2 : Nat) : Int) := by
      rw [List.length_map, List.length_map, ← half_nat]
      omega
    rw [e1, cut_to (by omega)] at hq
    refine ⟨_, rfl, (by show 2 ≤ sizeLine; decide), fun t ht => ?_⟩
    have st := same_upd (o := .tup [.ref q, .ref p]) ht
    exact k t _ ((s1.trans s2).trans st) q p (SqT.of upd_same) (WR.Same.seqT st hq) (WR.Same.seqT (s2.trans st) hp)
theorem scAsSq : FnScope ["word", "ends", "ring", "half"] ["word"] (defScope sAsSq) := ⟨rfl, rfl, rfl, by decide +kernel, rfl, by decide +kernel, by decide +kernel⟩
theorem ok_asSq {f : Addr} {fd : FuncData} (F : Fun K "as_square" "as_square" sAsSq f fd) (TA : TxA mg) (T : TxW K mg C) (M : MkW P w K mg base C) (GN : CalX P w K mg base "need_word" 3 ["value", "part"] (spNeedWX K C CB)) (GS : Cal P w K mg base "shortened_letters" 1 ["letters"] (spShr K)) (GE : Cal P w K mg base "ends_and_ring" 3 ["letters"] (spSides K)) (GC : Cal P w K mg base "contrary_letters" 1 ["letters"] (spCon K)) :
    FnOk P w K mg base (L2.CX P w) 7 f fd ["word"] (spAsSq K C CB) := by
  refine F.okX scAsSq (fun vs H Q E h => ?_) (fun cdv A outer s H vs Q E hr h => ?_)
  · obtain ⟨x, rfl, _⟩ := h
    rfl
  · obtain ⟨x, rfl, h⟩ := h
    refine ⟨_, pss_cons (ps_expr (pe_calX GN hr (by decide) (passes_call (takes_of rfl rfl rfl rfl) (fun _ _ _ _ h => h)) (by rfl) (pa_cons (pv 0) (pa_cons pe_str pa_nil))))
      (pss_cons (ps_asg (pe_cal GE hr (by decide) (by rfl) (pa_cons (pe_cal GS hr (by decide) (by rfl) (pa_cons (pe_fld (pv 0) rfl) pa_nil)) pa_nil)) (pg_tup (n := 2) rfl (pgs_cons (pg_name (i := 1) scAsSq.nd rfl (Or.inl rfl)) (pgs_cons (pg_name (i := 2) scAsSq.nd rfl (Or.inl rfl)) pgs_nil))))
      (pss_cons (ps_set (i := 3) scAsSq.nd rfl (Or.inl rfl) (pe_op op_fdiv (pe_callB call_len_seq (by rfl) TA.len PySem.boot_len (pa_cons (pv 2) pa_nil)) pe_int))
      (pss_cons (ps_if (pt_cmpR (op_neD hr.units) (pv 2) (pe_op op_repU (pe_slice sl_tupU (pv 2) po_none (po_some (pv 3))) pe_int) (nomark _)) (pss_one (ps_ret pe_non)) pss_nil)
      (pss_one (ps_ret (pe_word M T hr (by decide) (by rfl) (pa_cons (pe_op op_catU (pe_op op_catU (pv 1) (pe_slice sl_tupU (pv 2) po_none (po_some (pv 3)))) (pe_cal GC hr (by decide) (by rfl) (pa_cons (pv 1) pa_nil))) pa_nil))))))), ?_⟩
    rcases h with ⟨hR, kb⟩ | ⟨a, ns, rfl, hW, hl, hL, k1, k2⟩
    · exact ⟨_, rfl, x, false, _, rfl, hR, (fun z => Bool.noConfusion z), fun _ => kb⟩
    · refine ⟨_, rfl, .ref a, true, _, rfl, hW.isW, fun _ => ?_, fun z => Bool.noConfusion z⟩
      obtain ⟨dx, tl, tk, ks, w1, w2, _⟩ := id hW
      refine ⟨_, rfl, a, C, dx, _, _, rfl, w1, T.cl, T.nL, wf_letters, tl, ns, rfl, .inr w2, by omega, fun p1 H1 s1 h1 => ?_⟩
      have n1 := shr_len ns
      have er : Fr.rnd (Fr.shr ns) = Fr.rnd ns := by
        unfold Fr.rnd
        rw [Fr.shr_shr]
      refine ⟨p1, Fr.shr ns, rfl, h1, by omega, hL.nz.shr, fun p2 H2 s2 q r hp hq hr2 => ?_⟩
      rw [er] at hq hr2
      have eSide : (Fr.shr ns).take (((Fr.shr ns).length - (Fr.rnd ns).length) / 2) = Fr.side ns := rfl
      rw [eSide] at hq
      obtain ⟨hparts, _⟩ := Fr.side_parts hL.nz
      have hlen := congrArg List.length hparts
      rw [whole_len] at hlen
      refine ⟨p2, _, rfl, hp, rfl, _, _, rfl, _, _, rfl, rfl, ?_⟩
      have hhalf : (Fr.rnd ns).length / 2 ≤ (Fr.rnd ns).length := Nat.div_le_self _ _
      refine ⟨_, rfl, r, _, rfl, .inr hr2, _, _, rfl, rfl, ⟨by decide, by decide⟩, ?_⟩
      have eh : (((iv (Fr.rnd ns)).length : Nat) : Int) / 2 = (((Fr.rnd ns).length / 2 : Nat) : Int) := by
        rw [List.length_map, half_nat]
      dsimp only
      rw [eh]
      refine ⟨_, rfl, _, rfl, _, rfl, _, rfl, r, _, rfl, hr2, fun p3 H3 s3 h3 => ?_⟩
      rw [cut_to hhalf] at h3
      have eHalf : (Fr.rnd ns).take ((Fr.rnd ns).length / 2) = Fr.halfR ns := rfl
      rw [eHalf] at h3
      have nH : (Fr.halfR ns).length = (Fr.rnd ns).length / 2 := by
        rw [← eHalf, List.length_take]
        omega
      refine ⟨p3, 2, _, rfl, rfl, h3, by decide, by decide, by rw [List.length_map]; omega, fun p4 H4 s4 h4 => ?_⟩
      have e4 : (List.replicate ((2 : Int)).toNat (iv (Fr.halfR ns))).flatten = iv (Fr.halfR ns ++ Fr.halfR ns) := by
        show (List.replicate 2 _).flatten = _
        rw [rep_flat]
        simp [Fr.rep]
      rw [e4] at h4
      have s34 := s3.trans s4
      have hr4 := WR.Same.seqT s34 hr2
      refine ⟨_, _, .tup hr4 (dp_iv _), .tup h4 (dp_iv _), shaped_ints _, shaped_ints _, _, rfl, ?_⟩
      rw [eqv_ints]
      cases e : Fr.root? ns with
      | none =>
        have hne : ¬ Fr.rnd ns = Fr.halfR ns ++ Fr.halfR ns := fun q => by
          unfold Fr.root? at e
          rw [if_pos q] at e
          cases e
        rw [decide_eq_false hne]
        exact iteT (k2 e _ ((s1.trans s2).trans s34))
      | some z =>
        obtain ⟨hq2, hz, _⟩ := Fr.root_some hL.nz e
        rw [decide_eq_true hq2]
        refine iteF ?_
        have hq4 := WR.Same.seqT s34 hq
        refine ⟨_, rfl, _, rfl, _, rfl, _, rfl, r, _, rfl, hr4, fun p5 H5 s5 h5 => ?_⟩
        rw [cut_to hhalf, eHalf] at h5
        refine ⟨q, p5, _, _, rfl, rfl, WR.Same.seqT s5 hq4, h5, Evl.sz_of (by simp only [List.length_map]; omega), fun p6 H6 s6 h6 => ?_⟩
        refine ⟨_, rfl, q, _, rfl, WR.Same.seqT (s5.trans s6) hq4, by have := side_le ns; omega, fun p7 H7 s7 h7 => ?_⟩
        refine ⟨p6, p7, _, _, rfl, rfl, WR.Same.seqT s7 h6, h7, Evl.sz_of (by simp only [List.length_append, List.length_map, Fr.con_length]; omega), fun p8 H8 s8 h8 => ?_⟩
        have ez : iv (Fr.side ns) ++ iv (Fr.halfR ns) ++ iv (Fr.con (Fr.side ns)) = iv z := by
          rw [hz]
          simp [iv]
        rw [ez] at h8
        have hzl : z.length ≤ 500 := by
          rw [hz, whole_len]
          omega
        have hzL : Lts z := by
          have hs : Lts (Fr.side ns) := fun x hx => hL.shr x (List.mem_of_mem_take hx)
          have hh : Lts (Fr.halfR ns) := fun x hx => hL.rnd x (List.mem_of_mem_take hx)
          rw [hz]
          exact (hs.app hh).app hs.con
        exact make_word (.inr h8) hzl hzL fun x H' s' W => k1 z e x H' ((((((s1.trans s2).trans s34).trans s5).trans s6).trans s7).trans s8 |>.trans s') W
theorem scNeed2 : FnScope ["one", "other"] ["one", "other"] (defScope sNeed2) := ⟨rfl, rfl, rfl, by decide +kernel, rfl, by decide +kernel, by decide +kernel⟩
theorem ok_need2 {f : Addr} {fd : FuncData} (F : Fun K "need_two_words" "need_two_words" sNeed2 f fd) (GN : Cal P w K mg base "need_word" 1 ["value", "part"] (spNeedW K C)) : FnOk P w K mg base CX0 2 f fd ["one", "other"] (spNeed2 K C) := by
  refine F.ok scNeed2 (fun vs H Q E h => ?_) (fun cdv A outer s H vs Q E hr h => ?_)
  · obtain ⟨p, q, ns, ms, rfl, _⟩ := h
    rfl
  · obtain ⟨p, q, ns, ms, rfl, h1, h2, k⟩ := h
    refine ⟨_, pss_cons (ps_expr (pe_cal GN hr (by decide) (by rfl) (pa_cons (pv 0) (pa_cons pe_str pa_nil)))) (pss_one (ps_expr (pe_cal GN hr (by decide) (by rfl) (pa_cons (pv 1) (pa_cons pe_str pa_nil))))), ?_⟩
    exact ⟨_, rfl, p, _, ns, rfl, h1, _, rfl, q, _, ms, rfl, h2, k⟩
theorem scPast : FnScope ["one", "other", "here", "there"] ["one", "other"] (defScope sPast) := ⟨rfl, rfl, rfl, by decide +kernel, rfl, by decide +kernel, by decide +kernel⟩
theorem ok_past {f : Addr} {fd : FuncData} (F : Fun K "go_past" "go_past" sPast f fd) (T : TxW K mg C) (GN : Cal P w K mg base "need_two_words" 2 ["one", "other"] (spNeed2 K C)) (GS : Cal P w K mg base "shortened_letters" 1 ["letters"] (spShr K)) : FnOk P w K mg base CX0 3 f fd ["one", "other"] (spPast K C) := by
  refine F.ok scPast (fun vs H Q E h => ?_) (fun cdv A outer s H vs Q E hr h => ?_)
  · obtain ⟨p, q, ns, ms, rfl, _⟩ := h
    rfl
  · obtain ⟨p, q, ns, ms, rfl, h1, h2, hl, k⟩ := h
    refine ⟨_, pss_cons (ps_expr (pe_cal GN hr (by decide) (by rfl) (pa_cons (pv 0) (pa_cons (pv 1) pa_nil))))
      (pss_cons (ps_par (i := 2) (j := 3) (by rfl) scPast.nd rfl rfl (by decide) rfl rfl (pa_cons (pe_fld (pv 0) rfl) (pa_cons (pe_fld (pv 1) rfl) pa_nil)) (by rfl))
      (pss_one (ps_ret (pe_cmpR (op_eqD hr.units) (pe_cal GS hr (by decide) (by rfl) (pa_cons (pe_op op_catU (pv 2) (pv 3)) pa_nil)) (pe_cal GS hr (by decide) (by rfl) (pa_cons (pe_op op_catU (pv 3) (pv 2)) pa_nil)) (nomark _))))), ?_⟩
    refine ⟨_, rfl, _, rfl, p, q, ns, ms, rfl, h1, h2, ?_⟩
    obtain ⟨dx, tl, tk, ks, w1, w2, _⟩ := id h1
    obtain ⟨dy, ul, uk, us, y1, y2, _⟩ := id h2
    refine ⟨_, rfl, p, C, dx, _, _, rfl, w1, T.cl, T.nL, wf_letters, _, rfl, q, C, dy, _, _, rfl, y1, T.cl, T.nL, wf_letters, _, _, rfl, ?_⟩
    refine ⟨_, rfl, _, rfl, tl, ul, _, _, rfl, rfl, w2, y2, Evl.sz_of (by simp only [List.length_map]; omega), fun p1 H1 s1 g1 => ?_⟩
    have e1 : iv ns ++ iv ms = iv (ns ++ ms) := by simp [iv]
    rw [e1] at g1
    refine ⟨p1, _, rfl, .inr g1, by rw [List.length_append]; exact hl, fun p2 H2 s2 g2 => ?_⟩
    have s12 := s1.trans s2
    refine ⟨_, rfl, _, rfl, ul, tl, _, _, rfl, rfl, WR.Same.seqT s12 y2, WR.Same.seqT s12 w2, Evl.sz_of (by simp only [List.length_map]; omega), fun p3 H3 s3 g3 => ?_⟩
    have e3 : iv ms ++ iv ns = iv (ms ++ ns) := by simp [iv]
    rw [e3] at g3
    refine ⟨p3, _, rfl, .inr g3, by rw [List.length_append]; omega, fun p4 H4 s4 g4 => ?_⟩
    refine ⟨_, _, .tup (WR.Same.seqT (s3.trans s4) g2) (dp_iv _), .tup g4 (dp_iv _), shaped_ints _, shaped_ints _, ?_⟩
    rw [eqv_ints]
    exact k H4 ((s12.trans s3).trans s4)
end

end W55
set_option Elab.async false
set_option linter.all false
set_option maxRecDepth 100000
set_option maxHeartbeats 1000000
namespace W55
open PySem L2 PySem.Spec PyProof.Rows WR
abbrev sShL : Stmt := top 41
abbrev sWord : Stmt := top 43
def spShL : Sp := fun vs H Q _ => ∃ (p : Addr) (ns : List Int), vs = [.ref p] ∧ H p = some (.lst (iv ns)) ∧ ns.length ≤ 1000 ∧ NewL H Q (Fr.shr ns)
theorem eq_nil (ns : List Int) : PyData.eqv (.list (ns.map .int)) (.list []) = decide (ns = []) := by cases ns <;> rfl
section
variable {P : Program} {w : World} {K : PySem.W.Frag} {mg : Str → Option Value} {base : Heap}
abbrev nShL : List Str := ["_law_letters", "_law_found", "_law_letter"]
theorem scShL : FnScope nShL ["_law_letters"] (defScope sShL) := ⟨rfl, rfl, rfl, by decide +kernel, rfl, by decide +kernel, by decide +kernel⟩
theorem ok_shL {f : Addr} {fd : FuncData} (F : Fun K "_law_short" "_law_short" sShL f fd) : FnOk P w K mg base CX0 1 f fd ["_law_letters"] spShL := by
  refine F.ok scShL (fun vs H Q E h => ?_) (fun cdv A outer s H vs Q E hr h => ?_)
  · obtain ⟨a, ns, rfl, _⟩ := h
    rfl
  · obtain ⟨a, ns, rfl, hS, hlen, k⟩ := h
    refine ⟨_, pss_cons (ps_set (i := 1) scShL.nd rfl (Or.inl rfl) (pe_lst pa_nil))
      (pss_cons (ps_for PassesOwn.never rfl (pi_list (pv 0)) (pg_name (i := 2) scShL.nd rfl (Or.inl rfl))
        (pss_one (ps_if (PW.pt (pw_and (pt_cmpR (op_neD hr.units) (pv 1) (pe_lst pa_nil) (nomark _)) (pw_and1 (pt_cmpR op_eq (pe_ix ix_list (pv 1) (pe_un un_neg pe_int) (fun _ _ => rfl)) (pe_un un_neg (pv 2)) (nomark _)))))
          (pss_one (ps_expr (pe_bm0 PySem.F.plainAttrs_list PySem.F.slot_list_pop PySem.F.type_list_pop mt_pop (pv 1))))
          (pss_one (ps_expr (pe_bm PySem.F.plainAttrs_list PySem.F.slot_list_append PySem.F.type_list_append mt_append (pv 1) (pa_cons (pv 2) pa_nil)))))))
      (pss_one (ps_ret (pv 1)))), ?_⟩
    refine ⟨Nat.zero_le _, fun l hl => ?_⟩
    refine ⟨_, rfl, a, rfl, ⟨_, SqL.of ((same_upd (o := HO.lst []) hl) _ _ hS)⟩, for_list (K := K) (a := a) (xs := iv ns) (fun i σ H1 => ∃ v : Option V, σ = [some (.ref a), some (.ref l), v] ∧ Same H H1 ∧ H1 l = some (.lst (iv (Fr.act [] (ns.take i)).reverse)))
      ⟨none, rfl, same_upd hl, by rw [upd_same]; rfl⟩ (fun i σ H1 _ ⟨_, _, s, _⟩ => SqL.of (s _ _ hS)) ?_ ?_⟩
    · rintro i y σ H1 hi ⟨v, rfl, sm, hL⟩
      obtain ⟨x, hx, rfl⟩ : ∃ x, ns[i]? = some x ∧ y = V.int x := by
        rw [List.getElem?_map] at hi
        cases e : ns[i]? with
        | none => rw [e] at hi; cases hi
        | some x => rw [e] at hi; exact ⟨x, rfl, (Option.some.inj hi).symm⟩
      have hi2 : i < ns.length := (List.getElem?_eq_some_iff.mp hx).1
      have nx := act_take hx
      have hsz : (Fr.act [] (ns.take i)).length ≤ 1000 := by
        have := act_len (ns.take i) []
        rw [List.length_take] at this
        simp at this
        omega
      -- the empty list that it is held against
      refine ⟨_, rfl, Nat.zero_le _, fun p hp => ?_⟩
      have s1 := same_upd (o := HO.lst []) hp
      have hL1 := s1 _ _ hL
      have sm1 := sm.trans s1
      have put : ∀ xs, Same H (L2.upd (L2.upd H1 p (.lst [])) l (.lst xs)) := fun xs b o e => by
        rw [upd_ne (ne_of_none e hl)]
        exact sm1 b o e
      refine ⟨.list ((Fr.act [] (ns.take i)).reverse.map PyData.int), .list [], .lst (SqL.of hL1) (dpInts _), .lst (SqL.of upd_same) .nil, PySem.W.ke_shaped_ints _, rfl, _, rfl, ?_⟩
      rw [eq_nil]
      obtain ⟨H2, e2⟩ : ∃ H2, H2 = L2.upd H1 p (.lst []) := ⟨_, rfl⟩
      rw [← e2] at hL1 put ⊢
      cases est : Fr.act [] (ns.take i) with
      | nil =>
        rw [est] at hL1 nx
        refine iteF' (by rfl) ?_
        refine iteF ?_
        refine ⟨_, rfl, .inl ⟨rfl, _, SqL.of hL1⟩, _, rfl, l, _, _, rfl, rfl, hL1, Evl.sz_lt (by simp), ?_⟩
        refine ⟨_, rfl, put _, ?_⟩
        rw [upd_same, nx]
        rfl
      | cons b t =>
        rw [est] at hL1 nx hsz
        have eL : iv (b :: t).reverse = iv t.reverse ++ [V.int b] := by simp [iv]
        refine iteT' (by simp) ?_
        refine ⟨_, rfl, _, rfl, l, _, _, _, rfl, rfl, SqL.of hL1, (by rw [eL]; exact atI_last _ _), _, rfl, x, rfl, rfl, _, rfl, ?_⟩
        refine ite2 (fun hb => ?_) (fun hb => ?_)
        · have eb : b = -x := by
            have := of_decide_eq_true hb
            injection this
          refine ⟨_, rfl, .inl ⟨rfl, _, SqL.of hL1⟩, l, _, V.int b, rfl, rfl, hL1, (by rw [eL]; simp), ?_⟩
          refine ⟨_, rfl, put _, ?_⟩
          rw [upd_same, nx]
          have : Fr.push (b :: t) x = t := by simp [Fr.push, eb]
          rw [this, eL, List.dropLast_concat]
        · have eb : ¬ b = -x := fun e => hb (decide_eq_true (by rw [e]))
          refine ⟨_, rfl, .inl ⟨rfl, _, SqL.of hL1⟩, _, rfl, l, _, _, rfl, rfl, hL1, Evl.sz_lt (by simp [iv] at hsz ⊢; omega), ?_⟩
          refine ⟨_, rfl, put _, ?_⟩
          rw [upd_same, nx]
          have : Fr.push (b :: t) x = x :: b :: t := by simp [Fr.push, eb]
          rw [this]
          simp [iv]
    · rintro σ H1 ⟨v, rfl, sm, hL⟩
      rw [List.take_of_length_le (by simp)] at hL
      exact ⟨_, rfl, k l H1 hl sm hL⟩
def spWord : Sp := fun vs H Q _ => ∃ (a c : Addr) (m k n : Nat), vs = [.ref a, .int (m : Int), .int (k : Int)] ∧ HandAt H a c n ∧ m ≤ 24 ∧ n ≤ 9000 ∧ 1 ≤ k ∧ k ≤ 26 ∧
  ∀ p H' ls, H p = none → Drew a c (n + 1 + 2 * m) H H' → H' p = some (.lst (iv ls)) → ls.length ≤ m → (∀ x ∈ ls, 1 ≤ x.natAbs ∧ x.natAbs ≤ k) → Q (.ref p) H'
abbrev nWord : List Str := ["_law_pen_here", "_law_most", "_law_kinds", "_law_found", "_law_at", "_law_kind"]
theorem scWord : FnScope nWord ["_law_pen_here", "_law_most", "_law_kinds"] (defScope sWord) := ⟨rfl, rfl, rfl, by decide +kernel, rfl, by decide +kernel, by decide +kernel⟩
theorem ok_word {f : Addr} {fd : FuncData} (F : Fun K "_law_word" "_law_word" sWord f fd) (GT : Cal P w K mg base "_law_draw" 1 ["_law_pen_here", "_law_many"] spTake) (GP : Cal P w K mg base "_law_pick" 2 ["_law_pen_here", "_law_some"] spPick) (T : TxN mg) : FnOk P w K mg base CX0 3 f fd ["_law_pen_here", "_law_most", "_law_kinds"] spWord := by
  refine F.ok scWord (fun vs H Q E h => ?_) (fun cdv A outer s H vs Q E hr h => ?_)
  · obtain ⟨a, c, m, k, n, rfl, _⟩ := h
    rfl
  · obtain ⟨a, c, m, k, n, rfl, hH, hm, hn, k1, k26, kq⟩ := h
    refine ⟨_, pss_cons (ps_set (i := 3) scWord.nd rfl (Or.inl rfl) (pe_lst pa_nil))
      (pss_cons (ps_for PassesOwn.never rfl (pi_range1 (by rfl) T.range (pa_cons (pe_cal GT hr (by decide) (by rfl) (pa_cons (pv 0) (pa_cons (pe_op op_add (pv 1) pe_int) pa_nil))) pa_nil)) (pg_name (i := 4) scWord.nd rfl (Or.inl rfl))
        (pss_cons (ps_set (i := 5) scWord.nd rfl (Or.inl rfl) (pe_op op_add pe_int (pe_cal GT hr (by decide) (by rfl) (pa_cons (pv 0) (pa_cons (pv 2) pa_nil)))))
        (pss_one (ps_expr (pe_bm PySem.F.plainAttrs_list PySem.F.slot_list_append PySem.F.type_list_append mt_append (pv 3) (pa_cons (pe_cal GP hr (by decide) (by rfl) (pa_cons (pv 0) (pa_cons (pe_lst (pa_cons (pv 5) (pa_cons (pe_un un_neg (pv 5)) pa_nil))) pa_nil))) pa_nil))))))
      (pss_one (ps_ret (pv 3)))), ?_⟩
    refine ⟨Nat.zero_le _, fun l hl => ?_⟩
    have hla := hH.ne hl
    have hlc := hH.neC hl
    have d0 := (Drew.refl hH).new (o := HO.lst []) hl
    refine ⟨_, rfl, _, rfl, _, _, rfl, rfl, a, c, ((m : Nat) : Int) + 1, n, rfl, d0.1, by omega, by omega, ?_, fun H1 d q0 q1 hH1 hK1 => ?_⟩
    · have : (((m : Nat) : Int) + 1).natAbs ≤ 25 := by omega
      exact Nat.lt_of_le_of_lt this (by decide)
    have d1 : Drew a c (n + 1) H H1 := ⟨hH1, d0.2.trans hK1⟩
    have hL1 := hK1 _ _ hla upd_same
    have big : d ≤ 25 := by omega
    refine ⟨d, rfl, by omega, by omega, ?_⟩
    have em : d.toNat ≤ m := by omega
    refine for_range (lo := 0) (n := d.toNat) (fun i σ H' => ∃ v1 v2 ls, σ = [some (.ref a), some (.int (m : Int)), some (.int (k : Int)), some (.ref l), v1, v2] ∧ Drew a c (n + 1 + 2 * i) H H' ∧ H' l = some (.lst (iv ls)) ∧ ls.length = i ∧ ∀ x ∈ ls, 1 ≤ x.natAbs ∧ x.natAbs ≤ k)
      ⟨none, none, [], rfl, d1, hL1, rfl, fun _ h => nomatch h⟩ ?_ ?_
    · rintro i σ H1 hi ⟨v1, v2, ls, rfl, d1, hL, hlen, hk⟩
      refine ⟨_, rfl, _, rfl, a, c, _, n + 1 + 2 * i, rfl, d1.1, by omega, by omega, ?_, fun H2 q q0 q1 hH2 hK2 => ?_⟩
      · have : (((k : Nat) : Int)).natAbs ≤ 26 := by omega
        exact Nat.lt_of_le_of_lt this (by decide)
      have d2 : Drew a c (n + 1 + 2 * i + 1) H H2 := ⟨hH2, d1.2.trans hK2⟩
      have hL2 := hK2 _ _ hla hL
      refine ⟨_, _, rfl, rfl, ?_⟩
      refine ⟨_, rfl, .inl ⟨rfl, _, SqL.of hL2⟩, _, rfl, _, rfl, _, rfl, _, rfl, (by show 2 ≤ sizeLine; decide), fun p hp => ?_⟩
      have d3 := d2.new (o := .lst [.int (1 + q), .int (-(1 + q))]) hp
      have hL3 := same_upd (o := .lst [.int (1 + q), .int (-(1 + q))]) hp _ _ hL2
      refine ⟨a, c, p, _, n + 1 + 2 * i + 1, rfl, d3.1, by omega, hH2.ne hp, upd_same, by show 0 < 2; decide, by show 2 ≤ 1000; decide, fun v hv H4 d4 => ?_⟩
      have d5 : Drew a c (n + 1 + 2 * i + 1 + 1) H H4 := d3.trans d4
      have hL4 := d4.2 _ _ hla hL3
      obtain ⟨z, rfl, hz⟩ : ∃ z : Int, v = .int z ∧ z.natAbs = (1 + q).natAbs := by
        simp only [List.mem_cons, List.mem_nil_iff, or_false] at hv
        rcases hv with rfl | rfl
        · exact ⟨_, rfl, rfl⟩
        · exact ⟨_, rfl, Int.natAbs_neg _⟩
      refine ⟨l, _, _, rfl, rfl, hL4, Evl.sz_lt (by simp; omega), _, _, ls ++ [z], rfl, d5.put hl hla hlc, by rw [upd_same]; simp [iv], by simp [hlen], fun x hx => ?_⟩
      rcases List.mem_append.mp hx with h | h
      · exact hk x h
      · rw [List.mem_singleton.mp h, hz]
        omega
    · rintro σ H1 ⟨v1, v2, ls, rfl, d1, hL, hlen, hk⟩
      exact ⟨_, rfl, kq l H1 ls hl (d1.mono (by omega)) hL (by omega) hk⟩

end
end W55
set_option Elab.async false
set_option linter.all false
set_option maxRecDepth 100000
set_option maxHeartbeats 1000000
namespace W55
open PySem L2 PySem.Spec PyProof.Rows WR
abbrev sDue : Stmt := top 45
/-! ### what a word may be the square of -/
def midOf (L : List Int) (e : Nat) : List Int := (L.drop e).take (L.length - e - e)
def cand (L : List Int) (e : Nat) : List Int := L.take e ++ (midOf L e).take ((midOf L e).length / 2) ++ L.drop (L.length - e)
theorem mid_sub {L : List Int} {e : Nat} {x : Int} (h : x ∈ midOf L e) : x ∈ L := List.mem_of_mem_drop (List.mem_of_mem_take h)
theorem cand_sub {L : List Int} {e : Nat} {x : Int} (h : x ∈ cand L e) : x ∈ L := by
  unfold cand at h
  rcases List.mem_append.mp h with h | h
  · rcases List.mem_append.mp h with h | h
    · exact List.mem_of_mem_take h
    · exact mid_sub (List.mem_of_mem_take h)
  · exact List.mem_of_mem_drop h
theorem mid_len {L : List Int} {e : Nat} : (midOf L e).length ≤ L.length := by
  unfold midOf
  rw [List.length_take, List.length_drop]
  omega
theorem cand_len {L : List Int} {e : Nat} (h : 2 * e ≤ L.length) : (cand L e).length ≤ L.length := by
  unfold cand
  rw [List.length_append, List.length_append, List.length_take, List.length_take, List.length_drop]
  have : (midOf L e).length ≤ L.length - e - e := by
    unfold midOf
    rw [List.length_take]
    omega
  omega
theorem cand_none {ns : List Int} {e : Nat} (nz : Fr.NZ ns) (h : Fr.root? ns = none) (h2 : Fr.shr (cand (Fr.shr ns) e ++ cand (Fr.shr ns) e) = Fr.shr ns) : False :=
  Fr.root_none h (z := cand (Fr.shr ns) e) (fun x hx => nz.shr x (cand_sub hx)) (Fr.sm_of_shr h2)
theorem cand_some {ns z : List Int} {e : Nat} (nz : Fr.NZ ns) (h : Fr.root? ns = some z) (h1 : Fr.shr (cand (Fr.shr ns) e) = cand (Fr.shr ns) e) (h2 : Fr.shr (cand (Fr.shr ns) e ++ cand (Fr.shr ns) e) = Fr.shr ns) : cand (Fr.shr ns) e = z := by
  rw [Fr.root_is nz h (t := cand (Fr.shr ns) e) (fun x hx => nz.shr x (cand_sub hx)) (Fr.sm_of_shr h2), h1]
theorem cand_at {ns z : List Int} (nz : Fr.NZ ns) (h : Fr.root? ns = some z) : cand (Fr.shr ns) (Fr.side ns).length = z ∧ Fr.shr z = z ∧ Fr.shr (z ++ z) = Fr.shr ns ∧ 2 * (Fr.side ns).length ≤ (Fr.shr ns).length := by
  obtain ⟨_, hz, rz, sz, hp⟩ := Fr.root_some nz h
  refine ⟨?_, Fr.shr_short rz, Fr.shr_of_sm sz, by rw [hp, whole_len]; omega⟩
  generalize Fr.side ns = u at hz hp ⊢
  generalize Fr.halfR ns = m at hz hp ⊢
  rw [hp, hz]
  have hL : (u ++ (m ++ m) ++ Fr.con u).length = 2 * u.length + (m ++ m).length := whole_len _ _
  have hm : midOf (u ++ (m ++ m) ++ Fr.con u) u.length = m ++ m := by
    unfold midOf
    rw [hL]
    have : 2 * u.length + (m ++ m).length - u.length - u.length = (m ++ m).length := by omega
    rw [this]
    exact whole_cut _ _
  unfold cand
  rw [hm, hL]
  have e1 : (u ++ (m ++ m) ++ Fr.con u).take u.length = u := by
    rw [List.append_assoc, List.take_left]
  have e2 : (u ++ (m ++ m) ++ Fr.con u).drop (2 * u.length + (m ++ m).length - u.length) = Fr.con u := by
    have : 2 * u.length + (m ++ m).length - u.length = (u ++ (m ++ m)).length := by simp only [List.length_append]; omega
    rw [this, List.drop_left]
  have e3 : (m ++ m).take ((m ++ m).length / 2) = m := by
    have : (m ++ m).length / 2 = m.length := by rw [List.length_append]; omega
    rw [this, List.take_left]
  rw [e1, e2, e3]
theorem cut_from {ns : List Int} {j : Nat} (h : j ≤ ns.length) : cutV (iv ns) (some (j : Int)) none = iv (ns.drop j) := by
  have e : cutV (iv ns) (some (j : Int)) none = cutV (iv ns) (some (j : Int)) (some ((ns.length : Nat) : Int)) := by
    unfold cutV
    have a : HT.sIx (iv ns).length (iv ns).length none = (iv ns).length := rfl
    have b : HT.sIx (iv ns).length (iv ns).length (some ((ns.length : Nat) : Int)) = (iv ns).length := by
      unfold HT.sIx
      simp
      try omega
    rw [a, b]
  rw [e, cut_nat (by rw [List.length_map]; exact h) (by rw [List.length_map]; exact Nat.le_refl _), ← List.map_drop, ← List.map_take, List.take_of_length_le (by rw [List.length_drop]; exact Nat.le_refl _)]
theorem cut_mid {L : List Int} {e : Nat} (h : 2 * e ≤ L.length) : cutV (iv L) (some (e : Int)) (some (((iv L).length : Int) - (e : Int))) = iv (midOf L e) := by
  have e1 : ((iv L).length : Int) - (e : Int) = ((L.length - e : Nat) : Int) := by rw [List.length_map]; omega
  rw [e1, cut_nat (by rw [List.length_map]; omega) (by rw [List.length_map]; omega), ← List.map_drop, ← List.map_take]
  rfl
theorem eqvLL (xs ys : List Int) : PyData.eqv (.list (xs.map .int)) (.list (ys.map .int)) = decide (xs = ys) := by
  show PyData.eqvAll _ _ = _
  exact eqvAll_ints xs ys
theorem shapedL (ns : List Int) : SeqAt.shaped (.list (ns.map .int)) = true := PySem.W.ke_shaped_ints ns
theorem shapedLL (ts : List (List Int)) : SeqAt.shaped (.list (ts.map fun t => PyData.list (t.map .int))) = true := by
  have lay : ∀ ts : List (List Int), PyData.canLayAll0 (ts.map fun t => PyData.list (t.map .int)) = true ∧ PyData.depthAll (ts.map fun t => PyData.list (t.map .int)) ≤ 1 := by
    intro ts
    induction ts with
    | nil => exact ⟨rfl, by simp [PyData.depthAll]⟩
    | cons t r ih =>
      obtain ⟨h1, h2⟩ := ih
      obtain ⟨h3, h4⟩ := lay_ints t
      refine ⟨by simp [PyData.canLayAll0, PyData.canLay0, h1, h3], ?_⟩
      simp only [List.map_cons, PyData.depthAll, PyData.depth, h4]
      omega
  obtain ⟨h1, h2⟩ := lay ts
  simp [SeqAt.shaped, PyData.canLay0, PyData.depth, h1]
  omega
/-- what was found until now -/
def FoundAt (H : Hp) (l : Addr) (ns : List Int) (i : Nat) : Prop :=
  ∃ (F : List V) (ts : List (List Int)), H l = some (.lst F) ∧ (Fr.root? ns = none → F = [] ∧ ts = []) ∧
    (∀ z, Fr.root? ns = some z → (i ≤ (Fr.side ns).length ∧ F = [] ∧ ts = []) ∨ ∃ q, F = [.ref q] ∧ ts = [z] ∧ H q = some (.lst (iv z)))
theorem FoundAt.same {H H' : Hp} {l : Addr} {ns : List Int} {i : Nat} (h : FoundAt H l ns i) (s : Same H H') : FoundAt H' l ns i := by
  obtain ⟨F, ts, h1, h2, h3⟩ := h
  refine ⟨F, ts, s _ _ h1, h2, fun z e => ?_⟩
  rcases h3 z e with h | ⟨q, a, b, c⟩
  · exact .inl h
  · exact .inr ⟨q, a, b, s _ _ c⟩
theorem FoundAt.dp {K : PySem.W.Frag} {H : Hp} {l : Addr} {ns : List Int} {i : Nat} (h : FoundAt H l ns i) : ∃ ts : List (List Int), Dp K H (.ref l) (.list (ts.map fun t => PyData.list (t.map .int))) ∧
    (Fr.root? ns = none → ts = [] ∧ H l = some (.lst [])) ∧ (∀ z, Fr.root? ns = some z → (i ≤ (Fr.side ns).length ∧ ts = [] ∧ H l = some (.lst [])) ∨ (ts = [z] ∧ ∃ q, H l = some (.lst [.ref q]) ∧ H q = some (.lst (iv z)))) := by
  obtain ⟨F, ts, h1, h2, h3⟩ := h
  refine ⟨ts, ?_, fun e => ⟨(h2 e).2, by rw [h1, (h2 e).1]⟩, fun z e => ?_⟩
  · cases e : Fr.root? ns with
    | none =>
      obtain ⟨rfl, rfl⟩ := h2 e
      exact .lst (SqL.of h1) .nil
    | some z =>
      rcases h3 z e with ⟨_, rfl, rfl⟩ | ⟨q, rfl, rfl, h4⟩
      · exact .lst (SqL.of h1) .nil
      · exact .lst (SqL.of h1) (.cons (.lst (SqL.of h4) (dp_iv _)) .nil)
  · rcases h3 z e with ⟨a, rfl, b⟩ | ⟨q, rfl, b, h4⟩
    · exact .inl ⟨a, b, h1⟩
    · exact .inr ⟨b, q, h1, h4⟩
theorem cut_half (M : List Int) : cutV (iv M) none (some (((iv M).length : Int) / 2)) = iv (M.take (M.length / 2)) := by
  have e : ((iv M).length : Int) / 2 = ((M.length / 2 : Nat) : Int) := by rw [List.length_map]; omega
  rw [e, cut_to (by omega)]
theorem cut_rest {L : List Int} {e : Nat} (h : e ≤ L.length) : cutV (iv L) (some (((iv L).length : Int) - (e : Int))) none = iv (L.drop (L.length - e)) := by
  have e1 : ((iv L).length : Int) - (e : Int) = ((L.length - e : Nat) : Int) := by rw [List.length_map]; omega
  rw [e1, cut_from (by omega)]
theorem FoundAt.skip {H : Hp} {l : Addr} {ns : List Int} {i : Nat} (h : FoundAt H l ns i) (k : ∀ z, Fr.root? ns = some z → i ≠ (Fr.side ns).length) : FoundAt H l ns (i + 1) := by
  obtain ⟨F, ts, h1, h2, h3⟩ := h
  refine ⟨F, ts, h1, h2, fun z e => ?_⟩
  rcases h3 z e with ⟨a, b⟩ | h
  · exact .inl ⟨by have := k z e; omega, b⟩
  · exact .inr h
theorem FoundAt.has {H : Hp} {l : Addr} {ns : List Int} {i : Nat} {v : V} {r : List V} (h : FoundAt H l ns i) (e : H l = some (.lst (v :: r))) : FoundAt H l ns (i + 1) := by
  obtain ⟨F, ts, h1, h2, h3⟩ := h
  refine ⟨F, ts, h1, h2, fun z q => ?_⟩
  rcases h3 z q with ⟨a, b, _⟩ | h
  · rw [h1, b] at e
    injection e with e
    injection e with e
    cases e
  · exact .inr h
/-- all of what a word may be the square of -/
def DueAt (H : Hp) (l : Addr) (ns : List Int) : Prop := (Fr.root? ns = none → H l = some (.lst [])) ∧ ∀ z, Fr.root? ns = some z → ∃ q, H l = some (.lst [.ref q]) ∧ H q = some (.lst (iv z))
def spDue : Sp := fun vs H Q _ => ∃ (p : Addr) (ns : List Int), vs = [.ref p] ∧ H p = some (.lst (iv ns)) ∧ ns.length ≤ 300 ∧ Fr.NZ ns ∧ ∀ l H', H l = none → Same H H' → DueAt H' l ns → Q (.ref l) H'
theorem units65 {j : Nat} {A : Around} (hr : Room j A) (hj : 1 ≤ j) : A.units + 65 < cLine := by have := hr.un; omega
abbrev nDue : List Str := ["_law_letters", "_law_short_here", "_law_found", "_law_edge", "_law_middle", "_law_half", "_law_one"]
section
variable {P : Program} {w : World} {K : PySem.W.Frag} {mg : Str → Option Value} {base : Heap}
theorem scDue : FnScope nDue ["_law_letters"] (defScope sDue) := ⟨rfl, rfl, rfl, by decide +kernel, rfl, by decide +kernel, by decide +kernel⟩
theorem ok_due {f : Addr} {fd : FuncData} (F : Fun K "_law_due" "_law_due" sDue f fd) (GS : Cal P w K mg base "_law_short" 1 ["_law_letters"] spShL) (TA : TxA mg) (T : TxN mg) : FnOk P w K mg base CX0 2 f fd ["_law_letters"] spDue := by
  refine F.ok scDue (fun vs H Q E h => ?_) (fun cdv A outer s H vs Q E hr h => ?_)
  · obtain ⟨a, ns, rfl, _⟩ := h
    rfl
  · obtain ⟨a, ns, rfl, hS, hlen, nz, k⟩ := h
    refine ⟨_, pss_cons (ps_par (i := 1) (j := 2) (by rfl) scDue.nd rfl rfl (by decide) rfl rfl (pa_cons (pe_cal GS hr (by decide) (by rfl) (pa_cons (pv 0) pa_nil)) (pa_cons (pe_lst pa_nil) pa_nil)) (by rfl))
      (pss_cons (ps_for PassesOwn.never rfl (pi_range1 (by rfl) T.range (pa_cons (pe_op op_add (pe_op op_fdiv (pe_callB call_len_seq (by rfl) TA.len PySem.boot_len (pa_cons (pv 1) pa_nil)) pe_int) pe_int) pa_nil)) (pg_name (i := 3) scDue.nd rfl (Or.inl rfl))
        (pss_cons (ps_set (i := 4) scDue.nd rfl (Or.inl rfl) (pe_slice sl_list (pv 1) (po_some (pv 3)) (po_some (pe_op op_sub (pe_callB call_len_seq (by rfl) TA.len PySem.boot_len (pa_cons (pv 1) pa_nil)) (pv 3)))))
        (pss_cons (ps_set (i := 5) scDue.nd rfl (Or.inl rfl) (pe_slice sl_list (pv 4) po_none (po_some (pe_op op_fdiv (pe_callB call_len_seq (by rfl) TA.len PySem.boot_len (pa_cons (pv 4) pa_nil)) pe_int))))
        (pss_cons (ps_set (i := 6) scDue.nd rfl (Or.inl rfl) (pe_op op_cat (pe_op op_cat (pe_slice sl_list (pv 1) po_none (po_some (pv 3))) (pv 5)) (pe_slice sl_list (pv 1) (po_some (pe_op op_sub (pe_callB call_len_seq (by rfl) TA.len PySem.boot_len (pa_cons (pv 1) pa_nil)) (pv 3))) po_none)))
        (pss_one (ps_if (PW.pt (pw_and (pt_cmpR (op_eqD hr.units) (pe_cal GS hr (by decide) (by rfl) (pa_cons (pv 6) pa_nil)) (pv 6) (nomark _)) (pw_and (pt_cmpR (op_eqD hr.units) (pe_cal GS hr (by decide) (by rfl) (pa_cons (pe_op op_cat (pv 6) (pv 6)) pa_nil)) (pv 1) (nomark _)) (pw_and1 (pt_cmpR (op_notInD (units65 hr (by decide))) (pv 6) (pv 2) (by rfl))))))
          (pss_one (ps_expr (pe_bm PySem.F.plainAttrs_list PySem.F.slot_list_append PySem.F.type_list_append mt_append (pv 2) (pa_cons (pv 6) pa_nil)))) pss_nil))))))
      (pss_one (ps_ret (pv 2)))), ?_⟩
    have nsh := shr_len ns
    refine ⟨_, rfl, a, ns, rfl, hS, by omega, fun p0 H1 hp0 s1 h1 => ?_⟩
    refine ⟨Nat.zero_le _, fun l hl => ⟨_, _, rfl, ?_⟩⟩
    have sl0 := same_upd (o := HO.lst []) hl
    have hl0 : H l = none := s1.free hl
    have npl : p0 ≠ l := ne_of_none h1 hl
    obtain ⟨L, eL⟩ : ∃ L, L = Fr.shr ns := ⟨_, rfl⟩
    rw [← eL] at h1 nsh
    have e0 : ((iv L).length : Int) / 2 + 1 = ((L.length / 2 + 1 : Nat) : Int) := by rw [List.length_map]; omega
    refine ⟨_, rfl, p0, _, rfl, .inl (SqL.of (sl0 _ _ h1)), _, _, rfl, rfl, ⟨by decide, by decide⟩, _, _, rfl, rfl, ((L.length / 2 + 1 : Nat) : Int), congrArg (fun z => [V.int z]) e0, by omega, by omega, ?_⟩
    refine for_range (lo := 0) (n := ((L.length / 2 + 1 : Nat) : Int).toNat) (fun i σ H' => ∃ v3 v4 v5 v6 : Option V, σ = [some (.ref a), some (.ref p0), some (.ref l), v3, v4, v5, v6] ∧ Same H H' ∧ H' p0 = some (.lst (iv L)) ∧ FoundAt H' l ns i)
      ⟨none, none, none, none, rfl, s1.trans sl0, sl0 _ _ h1, [], [], upd_same, fun _ => ⟨rfl, rfl⟩, fun _ _ => .inl ⟨Nat.zero_le _, rfl, rfl⟩⟩ ?_ ?_
    · rintro i σ H2 hi ⟨v3, v4, v5, v6, rfl, sm, hL, hF⟩
      rw [Int.toNat_natCast] at hi
      have e00 : (0 : Int) + (i : Nat) = (i : Int) := by omega
      rw [e00]
      have h2i : 2 * i ≤ L.length := by omega
      -- middle
      refine ⟨_, rfl, _, rfl, _, rfl, _, rfl, p0, _, rfl, .inl (SqL.of hL), _, rfl, _, _, rfl, rfl, _, rfl, p0, _, rfl, SqL.of hL, fun p hp => ?_⟩
      obtain ⟨H3, e3⟩ : ∃ H3, H3 = L2.upd H2 p (.lst (cutV (iv L) (some (i : Int)) (some (((iv L).length : Int) - (i : Int))))) := ⟨_, rfl⟩
      rw [← e3]
      have s3 : Same H2 H3 := by rw [e3]; exact same_upd hp
      have g3 : H3 p = some (.lst (iv (midOf L i))) := by rw [e3, upd_same, cut_mid h2i]
      -- half
      refine ⟨_, rfl, _, rfl, p, _, rfl, .inl (SqL.of g3), _, _, rfl, rfl, ⟨by decide, by decide⟩, _, rfl, p, _, rfl, SqL.of g3, fun q hq => ?_⟩
      obtain ⟨H4, e4⟩ : ∃ H4, H4 = L2.upd H3 q (.lst (cutV (iv (midOf L i)) none (some (((iv (midOf L i)).length : Int) / 2)))) := ⟨_, rfl⟩
      rw [← e4]
      have s4 : Same H3 H4 := by rw [e4]; exact same_upd hq
      have g4 : H4 q = some (.lst (iv ((midOf L i).take ((midOf L i).length / 2)))) := by rw [e4, upd_same, cut_half]
      have hL4 := (s3.trans s4) _ _ hL
      have nm := mid_len (L := L) (e := i)
      -- one
      refine ⟨_, rfl, _, rfl, _, rfl, p0, _, rfl, SqL.of hL4, fun q1 hq1 => ?_⟩
      obtain ⟨H5, e5⟩ : ∃ H5, H5 = L2.upd H4 q1 (.lst (cutV (iv L) none (some (i : Int)))) := ⟨_, rfl⟩
      rw [← e5]
      have s5 : Same H4 H5 := by rw [e5]; exact same_upd hq1
      have g5 : H5 q1 = some (.lst (iv (L.take i))) := by rw [e5, upd_same, cut_to (by omega)]
      refine ⟨_, rfl, q1, q, _, _, rfl, rfl, g5, s5 _ _ g4, Evl.sz_of (by simp only [List.length_map, List.length_take]; omega), fun q2 hq2 => ?_⟩
      obtain ⟨H6, e6⟩ : ∃ H6, H6 = L2.upd H5 q2 (.lst (iv (L.take i) ++ iv ((midOf L i).take ((midOf L i).length / 2)))) := ⟨_, rfl⟩
      rw [← e6]
      have s6 : Same H5 H6 := by rw [e6]; exact same_upd hq2
      have g6 : H6 q2 = some (.lst (iv (L.take i) ++ iv ((midOf L i).take ((midOf L i).length / 2)))) := by rw [e6, upd_same]
      have hL6 := (s5.trans s6) _ _ hL4
      refine ⟨_, rfl, _, rfl, p0, _, rfl, .inl (SqL.of hL6), _, rfl, _, _, rfl, rfl, _, rfl, p0, _, rfl, SqL.of hL6, fun q3 hq3 => ?_⟩
      obtain ⟨H7, e7⟩ : ∃ H7, H7 = L2.upd H6 q3 (.lst (cutV (iv L) (some (((iv L).length : Int) - (i : Int))) none)) := ⟨_, rfl⟩
      rw [← e7]
      have s7 : Same H6 H7 := by rw [e7]; exact same_upd hq3
      have g7 : H7 q3 = some (.lst (iv (L.drop (L.length - i)))) := by rw [e7, upd_same, cut_rest (by omega)]
      refine ⟨q2, q3, _, _, rfl, rfl, s7 _ _ g6, g7, Evl.sz_of (by simp only [List.length_append, List.length_map, List.length_take, List.length_drop]; omega), fun q4 hq4 => ?_⟩
      obtain ⟨H8, e8⟩ : ∃ H8, H8 = L2.upd H7 q4 (.lst (iv (L.take i) ++ iv ((midOf L i).take ((midOf L i).length / 2)) ++ iv (L.drop (L.length - i)))) := ⟨_, rfl⟩
      rw [← e8]
      have s8 : Same H7 H8 := by rw [e8]; exact same_upd hq4
      have nc := cand_len (L := L) (e := i) h2i
      obtain ⟨c, ec⟩ : ∃ c, c = cand L i := ⟨_, rfl⟩
      rw [← ec] at nc
      have g8 : H8 q4 = some (.lst (iv c)) := by
        rw [e8, upd_same, ec]
        simp [cand, iv]
      have nql : q4 ≠ l := by
        obtain ⟨F, ts, hx, _⟩ := hF.same ((((s3.trans s4).trans s5).trans s6).trans s7)
        exact (ne_of_none hx hq4).symm
      have s28 : Same H2 H8 := ((((s3.trans s4).trans s5).trans s6).trans s7).trans s8
      have sm8 := sm.trans s28
      have hL8 := s28 _ _ hL
      have hF8 := hF.same s28
      clear s3 s4 s5 s6 s7 s8 g3 g4 g5 g6 g7 e3 e4 e5 e6 e7 e8 hq1 hq2 hq3 hq4 hp hq hL4 hL6
      have cOut : ¬ (Fr.shr c = c ∧ Fr.shr (c ++ c) = L) → ∀ z, Fr.root? ns = some z → i ≠ (Fr.side ns).length := by
        intro hn z hz he
        obtain ⟨c1, c2, c3, _⟩ := cand_at nz hz
        rw [← he, ← eL, ← ec] at c1
        rw [← c1] at c2 c3
        exact hn ⟨c2, by rw [eL]; exact c3⟩
      -- the tests
      refine ⟨_, rfl, q4, c, rfl, g8, by omega, fun q5 H9 hq5 s9 g9 => ?_⟩
      refine ⟨_, rfl, _, _, .lst (SqL.of g9) (dp_iv _), .lst (SqL.of (s9 _ _ g8)) (dp_iv _), shapedL _, shapedL _, _, rfl, ?_⟩
      rw [eqvLL]
      refine ite2 (fun hc1 => ?_) (fun hc1 => ?_)
      · have hc1 := of_decide_eq_true hc1
        refine ⟨_, rfl, _, rfl, q4, q4, _, _, rfl, rfl, s9 _ _ g8, s9 _ _ g8, Evl.sz_of (by simp only [List.length_map]; omega), fun q6 hq6 => ?_⟩
        obtain ⟨H10, e10⟩ : ∃ H10, H10 = L2.upd H9 q6 (.lst (iv c ++ iv c)) := ⟨_, rfl⟩
        rw [← e10]
        have s10 : Same H9 H10 := by rw [e10]; exact same_upd hq6
        have g10 : H10 q6 = some (.lst (iv (c ++ c))) := by
          rw [e10, upd_same]
          simp [iv]
        refine ⟨q6, c ++ c, rfl, g10, by rw [List.length_append]; omega, fun q7 H11 hq7 s11 g11 => ?_⟩
        have sA := (s9.trans s10).trans s11
        refine ⟨_, rfl, _, _, .lst (SqL.of g11) (dp_iv _), .lst (SqL.of (sA _ _ hL8)) (dp_iv _), shapedL _, shapedL _, _, rfl, ?_⟩
        rw [eqvLL]
        refine ite2 (fun hc2 => ?_) (fun hc2 => ?_)
        · have hc2 := of_decide_eq_true hc2
          have hFA := hF8.same sA
          obtain ⟨ts, hD, f1, f2⟩ := hFA.dp (K := K)
          refine ⟨_, rfl, _, rfl, _, _, .lst (SqL.of (sA _ _ g8)) (dp_iv _), hD, shapedL _, shapedLL _, _, rfl, ?_⟩
          have hsome : ∃ z, Fr.root? ns = some z ∧ c = z := by
            cases e : Fr.root? ns with
            | none =>
              rw [ec, eL] at hc2
              exact (cand_none nz e hc2).elim
            | some z =>
              rw [ec, eL] at hc1 hc2
              exact ⟨z, rfl, by rw [ec, eL]; exact cand_some nz e hc1 hc2⟩
          obtain ⟨z, hz, rfl⟩ := hsome
          rcases f2 c hz with ⟨f3, rfl, f4⟩ | ⟨rfl, qz, f4, f5⟩
          · refine iteT' (by rfl) ?_
            refine ⟨_, rfl, .inl ⟨rfl, _, SqL.of f4⟩, _, rfl, l, _, _, rfl, rfl, f4, Evl.sz_lt (by show 0 < 100000; decide), ?_⟩
            have hlH : ∀ b o, H b = some o → b ≠ l := fun b o e => ne_of_none e hl0
            refine ⟨_, _, _, _, rfl, fun b o e => ?_, ?_, [.ref q4], [c], ?_, ?_, ?_⟩
            · rw [upd_ne (ne_of_none e hl0)]
              exact (sm8.trans sA) _ _ e
            · rw [upd_ne npl]
              exact sA _ _ hL8
            · rw [upd_same]
              rfl
            · intro e
              rw [hz] at e
              cases e
            · intro z2 e
              rw [hz] at e
              cases e
              refine .inr ⟨q4, rfl, rfl, ?_⟩
              rw [upd_ne nql]
              exact sA _ _ g8
          · refine iteF' (by simp [eqvLL]) ?_
            exact ⟨_, _, _, _, rfl, sm8.trans sA, sA _ _ hL8, hFA.has f4⟩
        · have hc2 := of_decide_eq_false (Bool.eq_false_iff.mpr hc2)
          exact ⟨_, _, _, _, rfl, sm8.trans sA, sA _ _ hL8, (hF8.same sA).skip (cOut fun z => hc2 z.2)⟩
      · have hc1 := of_decide_eq_false (Bool.eq_false_iff.mpr hc1)
        exact ⟨_, _, _, _, rfl, sm8.trans s9, s9 _ _ hL8, (hF8.same s9).skip (cOut fun z => hc1 z.1)⟩
    · rintro σ H2 ⟨v3, v4, v5, v6, rfl, sm, hL, hF⟩
      rw [Int.toNat_natCast] at hF
      obtain ⟨F, ts, h1, h2, h3⟩ := hF
      refine ⟨_, rfl, k l H2 hl0 sm ⟨fun e => by rw [h1, (h2 e).1], fun z e => ?_⟩⟩
      rcases h3 z e with ⟨a1, _⟩ | ⟨q, a1, _, a3⟩
      · obtain ⟨_, _, _, c4⟩ := cand_at nz e
        rw [← eL] at c4
        omega
      · exact ⟨q, by rw [h1, a1], a3⟩
end
end W55
set_option Elab.async false
set_option linter.all false
set_option maxRecDepth 100000
set_option maxHeartbeats 1000000
namespace W55
open PySem L2 PySem.Spec PyProof.Rows WR
abbrev sTold : Stmt := top 46
structure CalKX (P : Program) (w : World) (K : PySem.W.Frag) (mg : Str → Option Value) (base : Heap) (x : Str) (k : Nat) (ps ks : List Str) (gV : List V → List V) (sp : Sp) : Prop where
  ex : ∃ (f : Addr) (fd : FuncData) (g : List Value → List Value), FnOk P w K mg base (L2.CX P w) k f fd ps sp ∧ mg x = some (.ref f) ∧ PySem.W.keepIn K (.ref f) = true ∧ KBn K fd ps 0 ks (fun _ ws => g ws) (fun _ zs => gV zs)
def tCalKX (sp : Sp) (gV : List V → List V) (m : Nat) (tk : TA) : TE := fun σ H Q => tk σ H fun zs H2 => zs.length = m ∧ sp (gV zs) H2 Q (fun _ _ _ => False)
section
variable {X : Cx} {x : Str} {k j : Nat} {ps ks : List Str} {gV : List V → List V} {sp : Sp} {p pos : Pos} {kws : List Keyword} {tk : TA}
theorem pe_calKX (C : CalKX X.prog X.w X.K X.mg X.base x k ps ks gV sp) (hr : Room j X.A) (hkj : k ≤ j) (hg : Gl X x) (hkw : PK X kws tk) (hall : (backToKw pos (keywordEach kws X.env)).all (·.1.isSome) = true := by rfl)
    (hks : (backToKw pos (keywordEach kws X.env)).filterMap (·.1) = ks := by rfl) (hdb : (x == ("__debug__" : Str)) = false := by decide) (hpl : ((backTo pos (starEach [] X.env)).any (·.1) || (backToKw pos (keywordEach kws X.env)).any (·.1.isNone)) = false := by rfl) :
    PE X (.Call (.Name x p) [] kws pos) (tCalKX sp gV ks.length tk) := by
  obtain ⟨f, fd, g, F, hm, hk, hb⟩ := C.ex
  refine ⟨fun pins s σ H Q I h => ?_⟩
  refine wpAny_Call_Name_kw (ld_glob I hg hm ?_ hdb)
  refine PySem.W.callWith_KW0 (h₀ := X.base) I.ok.mod.kin hk hall ?_ hpl
  refine thn (hkw.run pos pins s σ H _ I h) fun ws s2 ⟨zs, H2, I2, rz, lz, q2⟩ => ⟨I2.kIn, ?_⟩
  rw [hks]
  have r2 := hb.rel (vs := []) (us := []) .nil rz
  have hl : ws.length = ks.length := by rw [← rz.length, lz]
  refine wpAny_call (codeAny_mono ((F.mono hkj).run X.A X.stack s2 H2 ⟨[], ks.zip ws⟩ (g ws) (gV zs) Q (fun _ _ _ => False) hr I2.env0 (hb.to s2 [] ws I2.kIn rfl hl) r2 q2) fun r s' hq => ?_)
  cases r with
  | error e => exact passF pins σ H2 s2 e s' I2 hq
  | ok fl =>
    cases fl with
    | ret u => exact I2.after hq
    | next => exact False.elim hq
    | brk => exact False.elim hq
    | cont => exact False.elim hq
end
structure AllQ (P : Program) (w : World) (K : PySem.W.Frag) (mg : Str → Option Value) (base : Heap) (C CB : Addr) : Prop where
  asq : CalX P w K mg base "as_square" 7 ["word"] (spAsSq K C CB)
  asqK : CalKX P w K mg base "as_square" 7 ["word"] ["word"] id (spAsSq K C CB)
  past : Cal P w K mg base "go_past" 3 ["one", "other"] (spPast K C)
  sht : MethW P w K mg base C "shortened" ["self"] (spOne K C Fr.shr)
  thn : MethW P w K mg base C "then" ["self", "other"] (spThen K C)
  tms : MethW P w K mg base C "times" ["self", "number"] (spTimes K C)
  mkw : MkW P w K mg base C
  eq : EqW P w K mg base C
def spTold : Sp := fun vs H Q _ => ∃ (p : Addr) (ns : List Int), vs = [.ref p] ∧ H p = some (.lst (iv ns)) ∧ ns.length ≤ 300 ∧ Lts ns ∧ ∀ H', Same H H' → Q (.bl true) H'
section
variable {P : Program} {w : World} {K : PySem.W.Frag} {mg : Str → Option Value} {base : Heap} {C CB : Addr}
theorem scTold : FnScope ["_law_letters", "_law_told", "_law_due_here"] ["_law_letters"] (defScope sTold) := ⟨rfl, rfl, rfl, by decide +kernel, rfl, by decide +kernel, by decide +kernel⟩
theorem ok_told {f : Addr} {fd : FuncData} (F : Fun K "_law_told_right" "_law_told_right" sTold f fd) (T : TxW K mg C) (TN : TxN mg) (A_ : AllQ P w K mg base C CB) (GD : Cal P w K mg base "_law_due" 2 ["_law_letters"] spDue) : FnOk P w K mg base CX0 8 f fd ["_law_letters"] spTold := by
  refine F.ok scTold (fun vs H Q E h => ?_) (fun cdv A outer s H vs Q E hr h => ?_)
  · obtain ⟨a, ns, rfl, _⟩ := h
    rfl
  · obtain ⟨a, ns, rfl, hS, hlen, hl, k⟩ := h
    refine ⟨_, pss_cons (ps_par (i := 1) (j := 2) (by rfl) scTold.nd rfl rfl (by decide) rfl rfl (pa_cons (pe_calKX A_.asqK hr (by decide) (by rfl) (pk_cons (pe_word A_.mkw T hr (by decide) (by rfl) (pa_cons (pv 0) pa_nil)) pk_nil)) (pa_cons (pe_cal GD hr (by decide) (by rfl) (pa_cons (pv 0) pa_nil)) pa_nil)) (by rfl))
      (pss_cons (ps_if (pt_cmpR op_isN (pv 1) pe_non (nomark _)) (pss_one (ps_ret (pe_cmpR (op_eqD hr.units) (pv 2) (pe_lst pa_nil) (nomark _)))) pss_nil)
      (pss_one (ps_ret (pe_and (pe_callB call_isi (by rfl) T.isin (by decide +kernel) (pa_cons (pv 1) (pa_cons (pe_glob (v := .ref C) (by rfl) T.mgW rfl) pa_nil)))
        (pe_and (pe_cmpR (op_eqD hr.units) (pv 2) (pe_lst (pa_cons (pe_callTy call_list_of (by rfl) TN.list (by decide +kernel) (pa_cons (pe_fld (pv 1) rfl) pa_nil)) pa_nil)) (nomark _))
        (pe_one (pe_cmpR (op_eqW A_.eq hr (by decide)) (pe_calX A_.asq hr (by decide) passF (by rfl) (pa_cons (pe_word A_.mkw T hr (by decide) (by rfl) (pa_cons (pv 0) pa_nil)) pa_nil)) (pv 1) (nomark _)))))))), ?_⟩
    refine ⟨_, rfl, fun x dx nx ndx _ => make_at nx ndx (.inl (SqL.of hS)) (by omega) hl fun H1 s1 W1 => ?_⟩
    refine ⟨rfl, .ref x, rfl, .inr ⟨x, ns, rfl, W1, by omega, hl, fun z e => ?_, fun e H2 s2 => ?_⟩⟩
    · intro t H2 s2 W2
      have s12 := s1.trans s2
      refine ⟨_, rfl, a, ns, rfl, s12 _ _ hS, hlen, hl.nz, fun l H3 hl0 s3 hD => ⟨_, _, rfl, ?_⟩⟩
      obtain ⟨_, hD⟩ := hD
      obtain ⟨q, hD1, hD2⟩ := hD z e
      have W3 := W2.same s3
      refine ⟨_, rfl, rfl, _, rfl, iteF ?_⟩
      refine ⟨_, rfl, _, _, _, _, _, rfl, .own C, W3.tyx T, kit_self C, _, rfl, iteT ?_⟩
      obtain ⟨dx, tl, tk, ks, w1, w2, _⟩ := id W3
      refine ⟨_, rfl, _, rfl, t, C, dx, _, _, rfl, w1, T.cl, T.nL, wf_letters, tl, _, rfl, .inr w2, fun l4 hl4 => ?_⟩
      obtain ⟨H4, e4⟩ : ∃ H4, H4 = L2.upd H3 l4 (.lst (iv z)) := ⟨_, rfl⟩
      rw [← e4]
      have s4 : Same H3 H4 := by rw [e4]; exact same_upd hl4
      have g4 : H4 l4 = some (.lst (iv z)) := by rw [e4, upd_same]
      refine ⟨by show 1 ≤ sizeLine; decide, fun l5 hl5 => ?_⟩
      obtain ⟨H5, e5⟩ : ∃ H5, H5 = L2.upd H4 l5 (.lst [.ref l4]) := ⟨_, rfl⟩
      rw [← e5]
      have s5 : Same H4 H5 := by rw [e5]; exact same_upd hl5
      have g5 : H5 l5 = some (.lst [.ref l4]) := by rw [e5, upd_same]
      have s45 := s4.trans s5
      refine ⟨_, _, .lst (SqL.of (s45 _ _ hD1)) (.cons (.lst (SqL.of (s45 _ _ hD2)) (dp_iv _)) .nil), .lst (SqL.of g5) (.cons (.lst (SqL.of (s5 _ _ g4)) (dp_iv _)) .nil), shapedLL [z], shapedLL [z], _, rfl, ?_⟩
      refine iteT' (by show PyData.eqvAll _ _ = true; simp [PyData.eqvAll, eqvLL]) ?_
      have s35 := s45
      have sA := (s12.trans s3).trans s45
      refine ⟨_, rfl, fun x2 dx2 nx2 ndx2 _ => make_at nx2 ndx2 (.inl (SqL.of (sA _ _ hS))) (by omega) hl fun H6 s6 W6 => ?_⟩
      refine ⟨.ref x2, rfl, .inr ⟨x2, ns, rfl, W6, by omega, hl, fun z2 e2 => ?_, fun e2 => ?_⟩⟩
      · intro y H7 s7 W7
        rw [e] at e2
        cases e2
        refine ⟨_, rfl, y, t, z, z, rfl, rfl, W7, W3.same ((s45.trans s6).trans s7), ?_⟩
        rw [decide_eq_true rfl]
        exact k H7 ((sA.trans s6).trans s7)
      · rw [e] at e2
        cases e2
    · have s12 := s1.trans s2
      refine ⟨_, rfl, a, ns, rfl, s12 _ _ hS, hlen, hl.nz, fun l H3 hl0 s3 hD => ⟨_, _, rfl, ?_⟩⟩
      obtain ⟨hD, _⟩ := hD
      have hD := hD e
      refine ⟨_, rfl, rfl, _, rfl, iteT ?_⟩
      refine ⟨_, rfl, Nat.zero_le _, fun l4 hl4 => ?_⟩
      have s4 := same_upd (o := .lst []) hl4
      refine ⟨_, _, .lst (SqL.of (s4 _ _ hD)) .nil, .lst (SqL.of upd_same) .nil, rfl, rfl, ?_⟩
      exact k _ ((s12.trans s3).trans s4)
end
end W55
set_option Elab.async false
set_option linter.all false
set_option maxRecDepth 100000
set_option maxHeartbeats 1000000
namespace W55
open PySem L2 PySem.Spec PyProof.Rows WR
abbrev sTwo : Stmt := top 48
/-! ### squares of two words -/
theorem two_none {x y : List Int} (nx : Fr.NZ x) (ny : Fr.NZ y) (h : Fr.root? (Fr.shr (x ++ x ++ y ++ y)) = none) : decide (Fr.shr (x ++ y) = Fr.shr (y ++ x)) = false := by
  refine decide_eq_false fun e => ?_
  have s := Fr.past_sq (Fr.sm_of_shr e)
  exact Fr.root_none h (z := x ++ y) (nx.app ny) (s.symm.trans (Fr.sm_shr _).symm)
theorem two_some {x y z : List Int} (nx : Fr.NZ x) (ny : Fr.NZ y) (h : Fr.root? (Fr.shr (x ++ x ++ y ++ y)) = some z) :
    decide (Fr.shr (x ++ y) = Fr.shr (y ++ x)) = true ∧ decide (Fr.shr (z ++ x) = Fr.shr (x ++ z)) = true ∧ decide (Fr.shr (z ++ y) = Fr.shr (y ++ z)) = true ∧ z = Fr.shr (x ++ y) := by
  have nw : Fr.NZ (x ++ x ++ y ++ y) := ((nx.app nx).app ny).app ny
  obtain ⟨_, _, rz, sz, _⟩ := Fr.root_some nw.shr h
  have hz : Fr.NZ z := by
    intro a ha q
    subst q
    obtain ⟨_, e2, _, _, e3⟩ := Fr.root_some nw.shr h
    have : (0 : Int) ∈ Fr.shr (Fr.shr (x ++ x ++ y ++ y)) := by
      rw [e3]
      rw [e2] at ha
      simp only [List.mem_append] at ha ⊢
      rcases ha with (h | h) | h
      · exact .inl (.inl h)
      · exact .inl (.inr (.inl h))
      · exact .inr h
    exact nw.shr.shr 0 this rfl
  obtain ⟨l1, l2⟩ := Fr.lyndon nx ny hz ((sz.trans (Fr.sm_shr _)).symm)
  have e : Fr.shr (x ++ y) = z := Fr.shr_eq l1.symm rz
  refine ⟨decide_eq_true (Fr.shr_of_sm l2), decide_eq_true (Fr.shr_of_sm ?_), decide_eq_true (Fr.shr_of_sm ?_), e.symm⟩
  · have a : Fr.Sm (z ++ x) (x ++ y ++ x) := l1.app (Fr.Sm.refl x)
    have b : Fr.Sm (x ++ z) (x ++ (x ++ y)) := (Fr.Sm.refl x).app l1
    have c : Fr.Sm (x ++ (x ++ y)) (x ++ (y ++ x)) := (Fr.Sm.refl x).app l2
    have d := b.trans c
    rw [← List.append_assoc] at d
    exact a.trans d.symm
  · have a : Fr.Sm (z ++ y) (x ++ y ++ y) := l1.app (Fr.Sm.refl y)
    have b : Fr.Sm (y ++ z) (y ++ (x ++ y)) := (Fr.Sm.refl y).app l1
    have c : Fr.Sm (x ++ y ++ y) (y ++ x ++ y) := l2.app (Fr.Sm.refl y)
    rw [← List.append_assoc] at b
    exact (a.trans c).trans b.symm
def spTwo : Sp := fun vs H Q _ => ∃ (p q : Addr) (ns ms : List Int), vs = [.ref p, .ref q] ∧ H p = some (.lst (iv ns)) ∧ H q = some (.lst (iv ms)) ∧ ns.length ≤ 40 ∧ ms.length ≤ 40 ∧ Lts ns ∧ Lts ms ∧ ∀ H', Same H H' → Q (.bl true) H'
abbrev nTwo : List Str := ["_law_one", "_law_other", "_law_whole", "_law_told", "_law_is_past"]
section
variable {P : Program} {w : World} {K : PySem.W.Frag} {mg : Str → Option Value} {base : Heap} {C CB : Addr}
theorem scTwo : FnScope nTwo ["_law_one", "_law_other"] (defScope sTwo) := ⟨rfl, rfl, rfl, by decide +kernel, rfl, by decide +kernel, by decide +kernel⟩
theorem ok_two {f : Addr} {fd : FuncData} (F : Fun K "_law_two_right" "_law_two_right" sTwo f fd) (T : TxW K mg C) (TN : TxN mg) (A_ : AllQ P w K mg base C CB) (GS : Cal P w K mg base "_law_short" 1 ["_law_letters"] spShL) (GD : Cal P w K mg base "_law_due" 2 ["_law_letters"] spDue) : FnOk P w K mg base CX0 8 f fd ["_law_one", "_law_other"] spTwo := by
  refine F.ok scTwo (fun vs H Q E h => ?_) (fun cdv A outer s H vs Q E hr h => ?_)
  · obtain ⟨p, q, ns, ms, rfl, _⟩ := h
    rfl
  · obtain ⟨p, q, ns, ms, rfl, hp, hq, ln, lm, hn, hm, k⟩ := h
    refine ⟨_, pss_cons (ps_set (i := 2) scTwo.nd rfl (Or.inl rfl) (pe_cal GS hr (by decide) (by rfl) (pa_cons (pe_op op_cat (pe_op op_cat (pe_op op_cat (pv 0) (pv 0)) (pv 1)) (pv 1)) pa_nil)))
      (pss_cons (ps_par (i := 3) (j := 4) (by rfl) scTwo.nd rfl rfl (by decide) rfl rfl (pa_cons (pe_calX A_.asq hr (by decide) passF (by rfl) (pa_cons (pe_word A_.mkw T hr (by decide) (by rfl) (pa_cons (pv 2) pa_nil)) pa_nil)) (pa_cons (pe_cal A_.past hr (by decide) (by rfl) (pa_cons (pe_word A_.mkw T hr (by decide) (by rfl) (pa_cons (pv 0) pa_nil)) (pa_cons (pe_word A_.mkw T hr (by decide) (by rfl) (pa_cons (pv 1) pa_nil)) pa_nil))) pa_nil)) (by rfl))
      (pss_cons (ps_if (pt_cmpR op_isN (pv 3) pe_non (nomark _)) (pss_one (ps_ret (pe_and (pe_not (pv 4)) (pe_one (pe_cmpR (op_eqD hr.units) (pe_cal GD hr (by decide) (by rfl) (pa_cons (pv 2) pa_nil)) (pe_lst pa_nil) (nomark _)))))) pss_nil)
      (pss_one (ps_ret (pe_and (pv 4) (pe_and (pe_cal A_.past hr (by decide) (by rfl) (pa_cons (pv 3) (pa_cons (pe_word A_.mkw T hr (by decide) (by rfl) (pa_cons (pv 0) pa_nil)) pa_nil)))
        (pe_and (pe_cal A_.past hr (by decide) (by rfl) (pa_cons (pv 3) (pa_cons (pe_word A_.mkw T hr (by decide) (by rfl) (pa_cons (pv 1) pa_nil)) pa_nil)))
        (pe_one (pe_cmpR (op_eqD hr.units) (pe_callTy call_list_of (by rfl) TN.list (by decide +kernel) (pa_cons (pe_fld (pv 3) rfl) pa_nil)) (pe_cal GS hr (by decide) (by rfl) (pa_cons (pe_op op_cat (pv 0) (pv 1)) pa_nil)) (nomark _)))))))))), ?_⟩
    -- whole
    refine ⟨_, rfl, _, rfl, p, p, _, _, rfl, rfl, hp, hp, Evl.sz_of (by simp only [List.length_map]; omega), fun p1 hp1 => ?_⟩
    obtain ⟨H1, e1⟩ : ∃ H1, H1 = L2.upd H p1 (.lst (iv ns ++ iv ns)) := ⟨_, rfl⟩
    rw [← e1]
    have s1 : Same H H1 := by rw [e1]; exact same_upd hp1
    have g1 : H1 p1 = some (.lst (iv ns ++ iv ns)) := by rw [e1, upd_same]
    refine ⟨_, rfl, p1, q, _, _, rfl, rfl, g1, s1 _ _ hq, Evl.sz_of (by simp only [List.length_append, List.length_map]; omega), fun p2 hp2 => ?_⟩
    obtain ⟨H2, e2⟩ : ∃ H2, H2 = L2.upd H1 p2 (.lst (iv ns ++ iv ns ++ iv ms)) := ⟨_, rfl⟩
    rw [← e2]
    have s2 : Same H1 H2 := by rw [e2]; exact same_upd hp2
    have g2 : H2 p2 = some (.lst (iv ns ++ iv ns ++ iv ms)) := by rw [e2, upd_same]
    refine ⟨_, rfl, p2, q, _, _, rfl, rfl, g2, (s1.trans s2) _ _ hq, Evl.sz_of (by simp only [List.length_append, List.length_map]; omega), fun p3 hp3 => ?_⟩
    obtain ⟨H3, e3⟩ : ∃ H3, H3 = L2.upd H2 p3 (.lst (iv ns ++ iv ns ++ iv ms ++ iv ms)) := ⟨_, rfl⟩
    rw [← e3]
    have s3 : Same H2 H3 := by rw [e3]; exact same_upd hp3
    have g3 : H3 p3 = some (.lst (iv (ns ++ ns ++ ms ++ ms))) := by
      rw [e3, upd_same]
      simp [iv]
    have lw : (ns ++ ns ++ ms ++ ms).length ≤ 160 := by simp only [List.length_append]; omega
    have hw : Lts (ns ++ ns ++ ms ++ ms) := ((hn.app hn).app hm).app hm
    obtain ⟨ws, ew⟩ : ∃ ws, ws = ns ++ ns ++ ms ++ ms := ⟨_, rfl⟩
    rw [← ew] at g3 lw hw
    refine ⟨p3, ws, rfl, g3, by omega, fun l H4 hl0 s4 g4 => ?_⟩
    have sA := ((s1.trans s2).trans s3).trans s4
    have ls := shr_len ws
    -- told and past
    refine ⟨_, rfl, fun x dx nx ndx _ => make_at nx ndx (.inl (SqL.of g4)) (by omega) hw.shr fun H5 s5 W5 => ?_⟩
    have sB := sA.trans s5
    refine ⟨.ref x, rfl, .inr ⟨x, Fr.shr ws, rfl, W5, by omega, hw.shr, fun z e => ?_, fun e H6 s6 => ?_⟩⟩
    · rw [ew] at e
      obtain ⟨b1, b2, b3, b4⟩ := two_some hn.nz hm.nz e
      intro t H6 s6 W6
      have sC := sB.trans s6
      refine ⟨_, rfl, fun x1 dx1 nx1 ndx1 _ => make_at nx1 ndx1 (.inl (SqL.of (sC _ _ hp))) (by omega) hn fun H7 s7 W7 => ?_⟩
      have sD := sC.trans s7
      refine ⟨_, rfl, fun x2 dx2 nx2 ndx2 _ => make_at nx2 ndx2 (.inl (SqL.of (sD _ _ hq))) (by omega) hm fun H8 s8 W8 => ?_⟩
      refine ⟨x1, x2, ns, ms, rfl, W7.same s8, W8, by omega, fun H9 s9 => ⟨_, _, rfl, ?_⟩⟩
      rw [b1]
      have s69 := (s7.trans s8).trans s9
      have W9 := W6.same s69
      have sE := sC.trans s69
      refine ⟨_, rfl, rfl, _, rfl, iteF ?_⟩
      refine ⟨_, rfl, _, rfl, iteT ?_⟩
      have lz : z.length ≤ 500 := by
        rw [b4]
        have := shr_len (ns ++ ms)
        rw [List.length_append] at this
        omega
      have lz2 : z.length ≤ 80 := by
        rw [b4]
        have := shr_len (ns ++ ms)
        rw [List.length_append] at this
        omega
      refine ⟨_, rfl, _, rfl, fun x3 dx3 nx3 ndx3 _ => make_at nx3 ndx3 (.inl (SqL.of (sE _ _ hp))) (by omega) hn fun H10 s10 W10 => ?_⟩
      refine ⟨t, x3, z, ns, rfl, W9.same s10, W10, by omega, fun H11 s11 => ⟨_, rfl, ?_⟩⟩
      rw [b2]
      refine iteT ?_
      have sF := (sE.trans s10).trans s11
      refine ⟨_, rfl, _, rfl, fun x4 dx4 nx4 ndx4 _ => make_at nx4 ndx4 (.inl (SqL.of (sF _ _ hq))) (by omega) hm fun H12 s12 W12 => ?_⟩
      refine ⟨t, x4, z, ms, rfl, W9.same ((s10.trans s11).trans s12), W12, by omega, fun H13 s13 => ⟨_, rfl, ?_⟩⟩
      rw [b3]
      refine iteT ?_
      have s9d := ((s10.trans s11).trans s12).trans s13
      have WD := W9.same s9d
      have sG := sE.trans s9d
      obtain ⟨dx, tl, tk, ks, w1, w2, _⟩ := id WD
      refine ⟨_, rfl, t, C, dx, _, _, rfl, w1, T.cl, T.nL, wf_letters, tl, _, rfl, .inr w2, fun l4 hl4 => ?_⟩
      obtain ⟨HE, eE⟩ : ∃ HE, HE = L2.upd H13 l4 (.lst (iv z)) := ⟨_, rfl⟩
      rw [← eE]
      have s14 : Same H13 HE := by rw [eE]; exact same_upd hl4
      have g14 : HE l4 = some (.lst (iv z)) := by rw [eE, upd_same]
      have sH := sG.trans s14
      refine ⟨_, rfl, _, rfl, p, q, _, _, rfl, rfl, sH _ _ hp, sH _ _ hq, Evl.sz_of (by simp only [List.length_map]; omega), fun p5 hp5 => ?_⟩
      obtain ⟨HF, eF⟩ : ∃ HF, HF = L2.upd HE p5 (.lst (iv ns ++ iv ms)) := ⟨_, rfl⟩
      rw [← eF]
      have s15 : Same HE HF := by rw [eF]; exact same_upd hp5
      have g15 : HF p5 = some (.lst (iv (ns ++ ms))) := by
        rw [eF, upd_same]
        simp [iv]
      refine ⟨p5, ns ++ ms, rfl, g15, by rw [List.length_append]; omega, fun l6 HG hl6 s16 g16 => ?_⟩
      refine ⟨_, _, .lst (SqL.of ((s15.trans s16) _ _ g14)) (dp_iv _), .lst (SqL.of g16) (dp_iv _), shapedL _, shapedL _, ?_⟩
      rw [eqvLL, decide_eq_true b4]
      exact k _ ((sH.trans s15).trans s16)
    · rw [ew] at e
      have b1 := two_none hn.nz hm.nz e
      have sC := sB.trans s6
      refine ⟨_, rfl, fun x1 dx1 nx1 ndx1 _ => make_at nx1 ndx1 (.inl (SqL.of (sC _ _ hp))) (by omega) hn fun H7 s7 W7 => ?_⟩
      have sD := sC.trans s7
      refine ⟨_, rfl, fun x2 dx2 nx2 ndx2 _ => make_at nx2 ndx2 (.inl (SqL.of (sD _ _ hq))) (by omega) hm fun H8 s8 W8 => ?_⟩
      refine ⟨x1, x2, ns, ms, rfl, W7.same s8, W8, by omega, fun H9 s9 => ⟨_, _, rfl, ?_⟩⟩
      rw [b1]
      have s49 := (((s5.trans s6).trans s7).trans s8).trans s9
      refine ⟨_, rfl, rfl, _, rfl, iteT ?_⟩
      refine ⟨_, rfl, _, rfl, _, rfl, iteT ?_⟩
      refine ⟨_, rfl, l, Fr.shr ws, rfl, s49 _ _ g4, by omega, hw.shr.nz, fun l2 HA hl2 sX hD => ?_⟩
      obtain ⟨hD, _⟩ := hD
      have hD := hD (by rw [ew]; exact e)
      refine ⟨Nat.zero_le _, fun l3 hl3 => ?_⟩
      have sY := same_upd (o := .lst []) hl3
      refine ⟨_, _, .lst (SqL.of (sY _ _ hD)) .nil, .lst (SqL.of upd_same) .nil, rfl, rfl, ?_⟩
      exact k _ (((sA.trans s49).trans sX).trans sY)
end
end W55
set_option Elab.async false
set_option linter.all false
set_option maxRecDepth 100000
set_option maxHeartbeats 1000000
namespace W55
open PySem L2 PySem.Spec PyProof.Rows WR
abbrev sSquares : Stmt := top 47
theorem Lts.of {ls : List Int} {k : Nat} (hk : k ≤ 26) (h : ∀ x ∈ ls, 1 ≤ x.natAbs ∧ x.natAbs ≤ k) : Lts ls := fun x hx => ⟨(h x hx).1, Nat.le_trans (h x hx).2 hk⟩
def put2 (w : List Int) (j : Nat) (b : Int) : List Int := w.take j ++ [b, -b] ++ w.drop j
theorem sm_put2 (w : List Int) (j : Nat) (b : Int) : Fr.Sm (put2 w j b) w := by
  have h : Fr.Sm (w.take j ++ [b, -b] ++ w.drop j) (w.take j ++ [] ++ w.drop j) := Fr.Sm.mid (Fr.Sm.out b)
  rw [List.append_nil, List.take_append_drop] at h
  exact h
theorem put2_len (w : List Int) (j : Nat) (b : Int) : (put2 w j b).length = w.length + 2 := by
  unfold put2
  rw [List.length_append, List.length_append, List.length_take, List.length_drop]
  show min j w.length + 2 + (w.length - j) = w.length + 2
  omega
theorem Lts.put2 {w : List Int} (h : Lts w) (j : Nat) {b : Int} (hb : 1 ≤ b.natAbs ∧ b.natAbs ≤ 26) : Lts (W55.put2 w j b) := by
  intro x hx
  unfold W55.put2 at hx
  simp only [List.mem_append, List.mem_cons, List.mem_nil_iff, or_false] at hx
  rcases hx with (hx | rfl | rfl) | hx
  · exact h x (List.mem_of_mem_take hx)
  · exact hb
  · rw [Int.natAbs_neg]; exact hb
  · exact h x (List.mem_of_mem_drop hx)
theorem root_of {w t : List Int} (nw : Fr.NZ w) (nt : Fr.NZ t) (h : Fr.Sm (t ++ t) w) : Fr.root? w = some (Fr.shr t) := by
  cases e : Fr.root? w with
  | none => exact (Fr.root_none e nt h).elim
  | some z => rw [Fr.root_is nw e nt h]
theorem sq_some {A x : List Int} (j : Nat) {b : Int} (hA : Lts A) (hx : Lts x) (hb : 1 ≤ b.natAbs ∧ b.natAbs ≤ 26) : Fr.root? (put2 (A ++ x ++ x ++ Fr.con A) j b) = some (Fr.shr (A ++ x ++ Fr.con A)) := by
  refine root_of ((((hA.app hx).app hx).app hA.con).put2 j hb).nz ((hA.app hx).app hA.con).nz ?_
  refine Fr.Sm.trans ?_ (sm_put2 _ j b).symm
  have e : (A ++ x ++ Fr.con A) ++ (A ++ x ++ Fr.con A) = (A ++ x) ++ (Fr.con A ++ A) ++ (x ++ Fr.con A) := by simp
  have e2 : A ++ x ++ x ++ Fr.con A = (A ++ x) ++ [] ++ (x ++ Fr.con A) := by simp
  rw [e, e2]
  exact Fr.Sm.mid (Fr.sm_con' A)
def spPenB (d : Nat) : Sp := fun vs H Q _ => ∃ (a c : Addr) (n : Nat), vs = [.ref a] ∧ HandAt H a c n ∧ n ≤ 8000 ∧ ∀ H', Drew a c (n + d) H H' → Q (.bl true) H'
abbrev nSquares : List Str := ["_law_pen_here", "_law_one", "_law_ahead", "_law_whole", "_law_at", "_law_letter"]
section
variable {P : Program} {w : World} {K : PySem.W.Frag} {mg : Str → Option Value} {base : Heap} {C CB : Addr}
theorem scSquares : FnScope nSquares ["_law_pen_here"] (defScope sSquares) := ⟨rfl, rfl, rfl, by decide +kernel, rfl, by decide +kernel, by decide +kernel⟩
theorem ok_squares {f : Addr} {fd : FuncData} (F : Fun K "_law_squares_right" "_law_squares_right" sSquares f fd) (T : TxW K mg C) (TA : TxA mg) (TN : TxN mg) (A_ : AllQ P w K mg base C CB)
    (GT : Cal P w K mg base "_law_draw" 1 ["_law_pen_here", "_law_many"] spTake) (GP : Cal P w K mg base "_law_pick" 2 ["_law_pen_here", "_law_some"] spPick) (GW : Cal P w K mg base "_law_word" 3 ["_law_pen_here", "_law_most", "_law_kinds"] spWord)
    (GS : Cal P w K mg base "_law_short" 1 ["_law_letters"] spShL) (GC : Cal P w K mg base "_law_contrary" 1 ["_law_letters"] spConL) (GR : Cal P w K mg base "_law_told_right" 8 ["_law_letters"] spTold) : FnOk P w K mg base CX0 9 f fd ["_law_pen_here"] (spPenB 38) := by
  refine F.ok scSquares (fun vs H Q E h => ?_) (fun cdv A outer s H vs Q E hr h => ?_)
  · obtain ⟨a, c, n, rfl, _⟩ := h
    rfl
  · obtain ⟨a, c, n, rfl, hH, hn, k⟩ := h
    refine ⟨_, pss_cons (ps_par (i := 1) (j := 2) (by rfl) scSquares.nd rfl rfl (by decide) rfl rfl (pa_cons (pe_cal GW hr (by decide) (by rfl) (pa_cons (pv 0) (pa_cons pe_int (pa_cons pe_int pa_nil)))) (pa_cons (pe_cal GW hr (by decide) (by rfl) (pa_cons (pv 0) (pa_cons pe_int (pa_cons pe_int pa_nil)))) pa_nil)) (by rfl))
      (pss_cons (ps_set (i := 3) scSquares.nd rfl (Or.inl rfl) (pe_op op_cat (pe_op op_cat (pe_op op_cat (pv 2) (pv 1)) (pv 1)) (pe_cal GC hr (by decide) (by rfl) (pa_cons (pv 2) pa_nil))))
      (pss_cons (ps_par (i := 4) (j := 5) (by rfl) scSquares.nd rfl rfl (by decide) rfl rfl (pa_cons (pe_cal GT hr (by decide) (by rfl) (pa_cons (pv 0) (pa_cons (pe_op op_add (pe_callB call_len_seq (by rfl) TA.len PySem.boot_len (pa_cons (pv 3) pa_nil)) pe_int) pa_nil))) (pa_cons (pe_cal GP hr (by decide) (by rfl) (pa_cons (pv 0) (pa_cons (pe_lst (pa_cons pe_int (pa_cons (pe_un un_neg pe_int) (pa_cons pe_int pa_nil)))) pa_nil))) pa_nil)) (by rfl))
      (pss_cons (ps_set (i := 3) scSquares.nd rfl (Or.inl rfl) (pe_op op_cat (pe_op op_cat (pe_slice sl_list (pv 3) po_none (po_some (pv 4))) (pe_lst (pa_cons (pv 5) (pa_cons (pe_un un_neg (pv 5)) pa_nil)))) (pe_slice sl_list (pv 3) (po_some (pv 4)) po_none)))
      (pss_cons (ps_if (PW.pt (pw_or (pt_cmpR (op_neD hr.units) (pe_callTy call_list_of (by rfl) TN.list (by decide +kernel) (pa_cons (pe_fld (pe_calX A_.asq hr (by decide) passF (by rfl) (pa_cons (pe_word A_.mkw T hr (by decide) (by rfl) (pa_cons (pv 3) pa_nil)) pa_nil)) rfl) pa_nil)) (pe_cal GS hr (by decide) (by rfl) (pa_cons (pe_op op_cat (pe_op op_cat (pv 2) (pv 1)) (pe_cal GC hr (by decide) (by rfl) (pa_cons (pv 2) pa_nil))) pa_nil)) (nomark _))
        (pw_or1 (pt_not (pt_val (pe_cal GR hr (by decide) (by rfl) (pa_cons (pv 3) pa_nil))))))) (pss_one (ps_ret pe_bl)) pss_nil)
      (pss_one (ps_ret (pe_and (pe_cal GR hr (by decide) (by rfl) (pa_cons (pv 1) pa_nil)) (pe_and (pe_cal GR hr (by decide) (by rfl) (pa_cons (pe_op op_cat (pv 1) (pe_lst (pa_cons pe_int pa_nil))) pa_nil)) (pe_and (pe_cal GR hr (by decide) (by rfl) (pa_cons (pe_op op_cat (pe_op op_cat (pv 1) (pv 1)) (pv 1)) pa_nil)) (pe_one (pe_cal GR hr (by decide) (by rfl) (pa_cons (pe_op op_cat (pv 1) (pe_revL (pv 1))) pa_nil)))))))))))), ?_⟩
    -- the words
    refine ⟨_, rfl, a, c, 12, 2, n, rfl, hH, by decide, by omega, by decide, by decide, fun p H1 x hp0 d1 hp lx hxk => ?_⟩
    have hpa := hH.ne hp0
    have hx := Lts.of (by decide) hxk
    refine ⟨_, rfl, a, c, 5, 3, n + 1 + 2 * 12, rfl, d1.1, by decide, by omega, by decide, by decide, fun q H2 A hq0 d2 hq lA hAk => ⟨_, _, rfl, ?_⟩⟩
    have hqa := d1.1.ne hq0
    have hA := Lts.of (by decide) hAk
    have D2 : Drew a c (n + 36) H H2 := (d1.trans d2).mono (by omega)
    have hp := d2.2 _ _ hpa hp
    -- whole
    refine ⟨_, rfl, _, rfl, q, p, _, _, rfl, rfl, hq, hp, Evl.sz_of (by simp only [List.length_map]; omega), fun p1 hp1 => ?_⟩
    obtain ⟨H3, e3⟩ : ∃ H3, H3 = L2.upd H2 p1 (.lst (iv A ++ iv x)) := ⟨_, rfl⟩
    rw [← e3]
    have s3 : Same H2 H3 := by rw [e3]; exact same_upd hp1
    have g3 : H3 p1 = some (.lst (iv A ++ iv x)) := by rw [e3, upd_same]
    refine ⟨_, rfl, p1, p, _, _, rfl, rfl, g3, s3 _ _ hp, Evl.sz_of (by simp only [List.length_append, List.length_map]; omega), fun p2 hp2 => ?_⟩
    obtain ⟨H4, e4⟩ : ∃ H4, H4 = L2.upd H3 p2 (.lst (iv A ++ iv x ++ iv x)) := ⟨_, rfl⟩
    rw [← e4]
    have s4 : Same H3 H4 := by rw [e4]; exact same_upd hp2
    have g4 : H4 p2 = some (.lst (iv A ++ iv x ++ iv x)) := by rw [e4, upd_same]
    refine ⟨_, rfl, q, A, rfl, (s3.trans s4) _ _ hq, by omega, fun r H5 hr0 s5 g5 => ?_⟩
    refine ⟨p2, r, _, _, rfl, rfl, s5 _ _ g4, g5, Evl.sz_of (by simp only [List.length_append, List.length_map, Fr.con_length]; omega), fun p3 hp3 => ?_⟩
    obtain ⟨H6, e6⟩ : ∃ H6, H6 = L2.upd H5 p3 (.lst (iv A ++ iv x ++ iv x ++ iv (Fr.con A))) := ⟨_, rfl⟩
    rw [← e6]
    have s6 : Same H5 H6 := by rw [e6]; exact same_upd hp3
    obtain ⟨W, eW⟩ : ∃ W, W = A ++ x ++ x ++ Fr.con A := ⟨_, rfl⟩
    have g6 : H6 p3 = some (.lst (iv W)) := by
      rw [e6, upd_same, eW]
      simp [iv]
    have lW : W.length ≤ 34 := by
      rw [eW]
      simp only [List.length_append, Fr.con_length]
      omega
    have hW : Lts W := by rw [eW]; exact ((hA.app hx).app hx).app hA.con
    have s26 := ((s3.trans s4).trans s5).trans s6
    have D6 := D2.same s26
    have hp6 := s26 _ _ hp
    have hq6 := s26 _ _ hq
    have h3a : p3 ≠ a := ((D2.same ((s3.trans s4).trans s5)).1).ne hp3
    -- the place and the letter
    refine ⟨_, rfl, _, rfl, p3, _, rfl, .inl (SqL.of g6), _, _, rfl, rfl, a, c, _, n + 36, rfl, D6.1, by omega, by omega, ?_, fun H7 j j0 j1 hH7 hK7 => ?_⟩
    · have : ((((iv W).length : Nat) : Int) + 1).natAbs ≤ 35 := by rw [List.length_map]; omega
      exact Nat.lt_of_le_of_lt this (by decide)
    have D7 : Drew a c (n + 37) H H7 := ⟨hH7, D6.2.trans hK7⟩
    have hp7 := hK7 _ _ hpa hp6
    have hq7 := hK7 _ _ hqa hq6
    have g7 := hK7 _ _ h3a g6
    obtain ⟨j, rfl⟩ : ∃ j' : Nat, j = (j' : Int) := ⟨j.toNat, by omega⟩
    have hj : j ≤ W.length := by
      rw [List.length_map] at j1
      omega
    refine ⟨_, rfl, _, rfl, (by show 3 ≤ sizeLine; decide), fun l hl => ?_⟩
    have D8 := D7.new (o := .lst [.int 1, .int (-2), .int 5]) hl
    have s8 := same_upd (o := .lst [.int 1, .int (-2), .int 5]) hl
    refine ⟨a, c, l, _, n + 37, rfl, D8.1, by omega, hH7.ne hl, upd_same, by show 0 < 3; decide, by show 3 ≤ 1000; decide, fun v hv H8 d8 => ⟨_, _, rfl, ?_⟩⟩
    have D9 : Drew a c (n + 38) H H8 := D8.trans d8
    have hp8 := d8.2 _ _ hpa (s8 _ _ hp7)
    have hq8 := d8.2 _ _ hqa (s8 _ _ hq7)
    have g8 := d8.2 _ _ h3a (s8 _ _ g7)
    obtain ⟨b, rfl, hb⟩ : ∃ b : Int, v = .int b ∧ (1 ≤ b.natAbs ∧ b.natAbs ≤ 26) := by
      simp only [List.mem_cons, List.mem_nil_iff, or_false] at hv
      rcases hv with rfl | rfl | rfl
      · exact ⟨_, rfl, by decide⟩
      · exact ⟨_, rfl, by decide⟩
      · exact ⟨_, rfl, by decide⟩
    clear D7 D8 s8 d8 hK7 hp7 hq7 g7 D6 hp6 hq6 g6 s26 s3 s4 s5 s6 g3 g4 g5 e3 e4 e6
    -- whole, with the two put in
    refine ⟨_, rfl, _, rfl, _, rfl, p3, _, rfl, SqL.of g8, fun p4 hp4 => ?_⟩
    obtain ⟨I1, f1⟩ : ∃ I1, I1 = L2.upd H8 p4 (.lst (cutV (iv W) none (some (j : Int)))) := ⟨_, rfl⟩
    rw [← f1]
    have t1 : Same H8 I1 := by rw [f1]; exact same_upd hp4
    have u1 : I1 p4 = some (.lst (iv (W.take j))) := by rw [f1, upd_same, cut_to hj]
    refine ⟨_, rfl, _, rfl, _, rfl, (by show 2 ≤ sizeLine; decide), fun p5 hp5 => ?_⟩
    obtain ⟨I2, f2⟩ : ∃ I2, I2 = L2.upd I1 p5 (.lst [.int b, .int (-b)]) := ⟨_, rfl⟩
    rw [← f2]
    have t2 : Same I1 I2 := by rw [f2]; exact same_upd hp5
    have u2 : I2 p5 = some (.lst (iv [b, -b])) := by rw [f2, upd_same]; rfl
    refine ⟨p4, p5, _, _, rfl, rfl, t2 _ _ u1, u2, Evl.sz_of (by simp only [List.length_map, List.length_take]; show _ + 2 ≤ _; omega), fun p6 hp6 => ?_⟩
    obtain ⟨I3, f3⟩ : ∃ I3, I3 = L2.upd I2 p6 (.lst (iv (W.take j) ++ iv [b, -b])) := ⟨_, rfl⟩
    rw [← f3]
    have t3 : Same I2 I3 := by rw [f3]; exact same_upd hp6
    have u3 : I3 p6 = some (.lst (iv (W.take j) ++ iv [b, -b])) := by rw [f3, upd_same]
    refine ⟨_, rfl, _, rfl, _, rfl, p3, _, rfl, SqL.of (((t1.trans t2).trans t3) _ _ g8), fun p7 hp7 => ?_⟩
    obtain ⟨I4, f4⟩ : ∃ I4, I4 = L2.upd I3 p7 (.lst (cutV (iv W) (some (j : Int)) none)) := ⟨_, rfl⟩
    rw [← f4]
    have t4 : Same I3 I4 := by rw [f4]; exact same_upd hp7
    have u4 : I4 p7 = some (.lst (iv (W.drop j))) := by rw [f4, upd_same, cut_from hj]
    refine ⟨p6, p7, _, _, rfl, rfl, t4 _ _ u3, u4, Evl.sz_of (by simp only [List.length_append, List.length_map, List.length_take, List.length_drop]; show _ + 2 + _ ≤ _; omega), fun p8 hp8' => ?_⟩
    obtain ⟨I5, f5⟩ : ∃ I5, I5 = L2.upd I4 p8 (.lst (iv (W.take j) ++ iv [b, -b] ++ iv (W.drop j))) := ⟨_, rfl⟩
    rw [← f5]
    have t5 : Same I4 I5 := by rw [f5]; exact same_upd hp8'
    obtain ⟨V, eV⟩ : ∃ V, V = put2 W j b := ⟨_, rfl⟩
    have u5 : I5 p8 = some (.lst (iv V)) := by
      rw [f5, upd_same, eV]
      simp [put2, iv]
    have lV : V.length ≤ 36 := by rw [eV, put2_len]; omega
    have hV : Lts V := by rw [eV]; exact hW.put2 j hb
    have rV : Fr.root? V = some (Fr.shr (A ++ x ++ Fr.con A)) := by rw [eV, eW]; exact sq_some j hA hx hb
    have T5 := (((t1.trans t2).trans t3).trans t4).trans t5
    have hpI := T5 _ _ hp8
    have hqI := T5 _ _ hq8
    have DI := D9.same T5
    clear t1 t2 t3 t4 t5 u1 u2 u3 u4 f1 f2 f3 f4 f5 g8 T5
    -- what is told
    refine ⟨_, rfl, fun y dy ny ndy _ => make_at ny ndy (.inl (SqL.of u5)) (by omega) hV fun I6 t6 W6 => ?_⟩
    refine ⟨.ref y, rfl, .inr ⟨y, V, rfl, W6, by omega, hV, fun z e => ?_, fun e => by rw [rV] at e; cases e⟩⟩
    rw [rV] at e
    obtain rfl := Option.some.inj e
    intro t I7 t7 W7
    obtain ⟨dx, tl, tk, ks, w1, w2, _⟩ := id W7
    refine ⟨t, C, dx, _, _, rfl, w1, T.cl, T.nL, wf_letters, tl, _, rfl, .inr w2, fun l4 hl4 => ?_⟩
    obtain ⟨I8, f8⟩ : ∃ I8, I8 = L2.upd I7 l4 (.lst (iv (Fr.shr (A ++ x ++ Fr.con A)))) := ⟨_, rfl⟩
    rw [← f8]
    have t8 : Same I7 I8 := by rw [f8]; exact same_upd hl4
    have u8 : I8 l4 = some (.lst (iv (Fr.shr (A ++ x ++ Fr.con A)))) := by rw [f8, upd_same]
    have T8 := (t6.trans t7).trans t8
    refine ⟨_, rfl, _, rfl, q, p, _, _, rfl, rfl, T8 _ _ hqI, T8 _ _ hpI, Evl.sz_of (by simp only [List.length_map]; omega), fun p9 hp9 => ?_⟩
    obtain ⟨I9, f9⟩ : ∃ I9, I9 = L2.upd I8 p9 (.lst (iv A ++ iv x)) := ⟨_, rfl⟩
    rw [← f9]
    have t9 : Same I8 I9 := by rw [f9]; exact same_upd hp9
    have u9 : I9 p9 = some (.lst (iv A ++ iv x)) := by rw [f9, upd_same]
    refine ⟨_, rfl, q, A, rfl, (T8.trans t9) _ _ hqI, by omega, fun r2 IA hr2 tA uA => ?_⟩
    refine ⟨p9, r2, _, _, rfl, rfl, tA _ _ u9, uA, Evl.sz_of (by simp only [List.length_append, List.length_map, Fr.con_length]; omega), fun pA hpA => ?_⟩
    obtain ⟨IB, fB⟩ : ∃ IB, IB = L2.upd IA pA (.lst (iv A ++ iv x ++ iv (Fr.con A))) := ⟨_, rfl⟩
    rw [← fB]
    have tB : Same IA IB := by rw [fB]; exact same_upd hpA
    have uB : IB pA = some (.lst (iv (A ++ x ++ Fr.con A))) := by
      rw [fB, upd_same]
      simp [iv]
    refine ⟨pA, _, rfl, uB, by simp only [List.length_append, Fr.con_length]; omega, fun lC IC hlC tC uC => ?_⟩
    have t8C := (((t9.trans tA).trans tB).trans tC)
    refine ⟨_, _, .lst (SqL.of (t8C _ _ u8)) (dp_iv _), .lst (SqL.of uC) (dp_iv _), shapedL _, shapedL _, _, rfl, ?_⟩
    refine no_ne (by rw [eqvLL, decide_eq_true rfl]) ?_
    have TC := T8.trans t8C
    refine ⟨_, rfl, p8, V, rfl, TC _ _ u5, by omega, hV, fun ID tD => ⟨_, rfl, iteF ?_⟩⟩
    have TD := TC.trans tD
    have hpD := TD _ _ hpI
    -- more of one
    refine ⟨_, rfl, p, x, rfl, hpD, by omega, hx, fun IE tE => ⟨_, rfl, iteT ?_⟩⟩
    have hpE := tE _ _ hpD
    refine ⟨_, rfl, (by show 1 ≤ sizeLine; decide), fun m1 hm1 => ?_⟩
    have tF := same_upd (o := .lst [.int 1]) hm1
    refine ⟨p, m1, _, _, rfl, rfl, tF _ _ hpE, upd_same, Evl.sz_of (by simp only [List.length_map]; show _ + 1 ≤ _; omega), fun m2 hm2 => ?_⟩
    have tG := same_upd (o := .lst (iv x ++ [.int 1])) hm2
    refine ⟨m2, x ++ [1], rfl, by rw [upd_same]; simp [iv], by rw [List.length_append]; show _ + 1 ≤ _; omega, hx.app (fun y hy => by rw [List.mem_singleton.mp hy]; decide), fun IH tH => ⟨_, rfl, iteT ?_⟩⟩
    have tEH := (tF.trans tG).trans tH
    have hpH := tEH _ _ hpE
    refine ⟨_, rfl, _, rfl, p, p, _, _, rfl, rfl, hpH, hpH, Evl.sz_of (by simp only [List.length_map]; omega), fun m3 hm3 => ?_⟩
    have tI := same_upd (o := .lst (iv x ++ iv x)) hm3
    refine ⟨_, rfl, m3, p, _, _, rfl, rfl, upd_same, tI _ _ hpH, Evl.sz_of (by simp only [List.length_append, List.length_map]; omega), fun m4 hm4 => ?_⟩
    have tJ := same_upd (o := .lst (iv x ++ iv x ++ iv x)) hm4
    refine ⟨m4, x ++ x ++ x, rfl, by rw [upd_same]; simp [iv], by simp only [List.length_append]; omega, (hx.app hx).app hx, fun IK tK => ⟨_, rfl, iteT ?_⟩⟩
    have tHK := (tI.trans tJ).trans tK
    have hpK := tHK _ _ hpH
    refine ⟨_, rfl, _, rfl, p, _, rfl, SqL.of hpK, fun m5 hm5 => ?_⟩
    have tL := same_upd (o := .lst (iv x).reverse) hm5
    refine ⟨p, m5, _, _, rfl, rfl, tL _ _ hpK, upd_same, Evl.sz_of (by simp only [List.length_reverse, List.length_map]; omega), fun m6 hm6 => ?_⟩
    have tM := same_upd (o := .lst (iv x ++ (iv x).reverse)) hm6
    refine ⟨m6, x ++ x.reverse, rfl, by rw [upd_same]; simp [iv], by simp only [List.length_append, List.length_reverse]; omega, hx.app (fun y hy => hx y (List.mem_reverse.mp hy)), fun IN tN => ?_⟩
    exact k IN (DI.same (((((TD.trans tE).trans tEH).trans tHK).trans (tL.trans tM)).trans tN))
end
end W55
set_option Elab.async false
set_option linter.all false
set_option maxRecDepth 100000
set_option maxHeartbeats 1000000
namespace W55
open PySem L2 PySem.Spec PyProof.Rows WR
abbrev sPowers : Stmt := top 49
theorem tms_len (N : Int) (ns : List Int) : (tms N ns).length = N.natAbs * ns.length := by
  unfold tms
  split
  · exact Fr.rep_length _ _
  · rw [Fr.rep_length, Fr.con_length]
theorem Lts.tms {ns : List Int} (h : Lts ns) (N : Int) : Lts (W55.tms N ns) := by
  unfold W55.tms
  split
  · exact h.rep _
  · exact h.con.rep _
theorem tms_nat (k : Nat) (r : List Int) : tms (k : Int) r = Fr.rep k r := by
  unfold tms
  by_cases h : 0 < (k : Int)
  · rw [if_pos h, Int.natAbs_natCast]
  · have : k = 0 := by omega
    subst this
    rw [if_neg h]
    rfl
theorem tms_neg (k : Nat) (r : List Int) : tms (-(k : Int)) r = Fr.con (Fr.rep k r) := by
  unfold tms
  rw [if_neg (by omega), Fr.con_rep]
  congr 1
  omega
theorem tms_step (n : Int) (r : List Int) : Fr.Sm (tms (n + 1) r) (tms n r ++ r) := by
  by_cases h : 0 ≤ n
  · obtain ⟨k, rfl⟩ : ∃ k : Nat, n = (k : Int) := ⟨n.toNat, by omega⟩
    have : (k : Int) + 1 = ((k + 1 : Nat) : Int) := by omega
    rw [this, tms_nat, tms_nat, Fr.rep_succ']
    exact Fr.Sm.refl _
  · obtain ⟨k, hk⟩ : ∃ k : Nat, n = -((k + 1 : Nat) : Int) := ⟨(-n - 1).toNat, by omega⟩
    have e : n + 1 = -(k : Int) := by omega
    rw [e, hk, tms_neg, tms_neg, Fr.con_rep, Fr.con_rep, Fr.rep_succ', List.append_assoc]
    have := (Fr.Sm.refl (Fr.rep k (Fr.con r))).app (Fr.sm_con' r)
    rw [List.append_nil] at this
    exact this.symm
theorem tms_addN (h : Int) (r : List Int) : ∀ k : Nat, Fr.Sm (tms (h + k) r) (tms h r ++ Fr.rep k r)
  | 0 => by
    have : h + ((0 : Nat) : Int) = h := by omega
    rw [this, Fr.rep_zero, List.append_nil]
    exact Fr.Sm.refl _
  | k + 1 => by
    have : h + ((k + 1 : Nat) : Int) = h + k + 1 := by omega
    rw [this, Fr.rep_succ', ← List.append_assoc]
    exact (tms_step (h + k) r).trans ((tms_addN h r k).app (Fr.Sm.refl r))
theorem tms_add (h t : Int) (r : List Int) : Fr.Sm (tms (h + t) r) (tms h r ++ tms t r) := by
  by_cases ht : 0 ≤ t
  · obtain ⟨k, rfl⟩ : ∃ k : Nat, t = (k : Int) := ⟨t.toNat, by omega⟩
    rw [tms_nat k]
    exact tms_addN h r k
  · obtain ⟨k, rfl⟩ : ∃ k : Nat, t = -(k : Int) := ⟨(-t).toNat, by omega⟩
    rw [tms_neg]
    have e : h = h + -(k : Int) + (k : Nat) := by omega
    have a := tms_addN (h + -(k : Int)) r k
    rw [← e] at a
    have b := a.app (Fr.Sm.refl (Fr.con (Fr.rep k r)))
    rw [List.append_assoc] at b
    have c := (Fr.Sm.refl (tms (h + -(k : Int)) r)).app (Fr.sm_con (Fr.rep k r))
    rw [List.append_nil] at c
    exact (b.trans c).symm
theorem pow_root {r : List Int} (hr : Lts r) (h t : Int) : Fr.root? (tms 2 (tms h r) ++ tms 2 (tms t r)) = some (Fr.shr (tms (h + t) r)) := by
  have e : tms 2 (tms h r) ++ tms 2 (tms t r) = tms h r ++ tms h r ++ tms t r ++ tms t r := by
    have e2 : ∀ xs : List Int, tms 2 xs = xs ++ xs := fun xs => by
      have : (2 : Int) = ((2 : Nat) : Int) := rfl
      rw [this, tms_nat]
      simp [Fr.rep]
    rw [e2, e2]
    simp
  rw [e]
  refine root_of (((((hr.tms h).app (hr.tms h)).app (hr.tms t)).app (hr.tms t)).nz) (hr.tms _).nz ?_
  have a := tms_add h t r
  have b := tms_add t h r
  rw [Int.add_comm t h] at b
  have c := a.symm.trans b
  exact (a.app a).trans (Fr.past_sq c).symm
abbrev nPowers : List Str := ["_law_pen_here", "_law_root", "_law_here", "_law_there", "_law_one", "_law_other", "_law_told"]
section
variable {P : Program} {w : World} {K : PySem.W.Frag} {mg : Str → Option Value} {base : Heap} {C CB : Addr}
theorem scPowers : FnScope nPowers ["_law_pen_here"] (defScope sPowers) := ⟨rfl, rfl, rfl, by decide +kernel, rfl, by decide +kernel, by decide +kernel⟩
theorem ok_powers {f : Addr} {fd : FuncData} (F : Fun K "_law_powers_right" "_law_powers_right" sPowers f fd) (T : TxW K mg C) (TN : TxN mg) (A_ : AllQ P w K mg base C CB)
    (GT : Cal P w K mg base "_law_draw" 1 ["_law_pen_here", "_law_many"] spTake) (GW : Cal P w K mg base "_law_word" 3 ["_law_pen_here", "_law_most", "_law_kinds"] spWord)
    (G2 : Cal P w K mg base "_law_two_right" 8 ["_law_one", "_law_other"] spTwo) : FnOk P w K mg base CX0 9 f fd ["_law_pen_here"] (spPenB 11) := by
  refine F.ok scPowers (fun vs H Q E h => ?_) (fun cdv A outer s H vs Q E hr h => ?_)
  · obtain ⟨a, c, n, rfl, _⟩ := h
    rfl
  · obtain ⟨a, c, n, rfl, hH, hn, k⟩ := h
    refine ⟨_, pss_cons (ps_par3 (i := 1) (j := 2) (l := 3) (by rfl) scPowers.nd rfl rfl rfl (by decide) (by decide) (by decide) rfl rfl rfl (pa_cons (pe_cal GW hr (by decide) (by rfl) (pa_cons (pv 0) (pa_cons pe_int (pa_cons pe_int pa_nil)))) (pa_cons (pe_op op_sub (pe_cal GT hr (by decide) (by rfl) (pa_cons (pv 0) (pa_cons pe_int pa_nil))) pe_int) (pa_cons (pe_op op_sub (pe_cal GT hr (by decide) (by rfl) (pa_cons (pv 0) (pa_cons pe_int pa_nil))) pe_int) pa_nil))) (by rfl))
      (pss_cons (ps_par (i := 4) (j := 5) (by rfl) scPowers.nd rfl rfl (by decide) rfl rfl (pa_cons (pe_w1 A_.tms T.cl hr (by decide) (pe_word A_.mkw T hr (by decide) (by rfl) (pa_cons (pv 1) pa_nil)) (pa_cons (pv 2) pa_nil)) (pa_cons (pe_w1 A_.tms T.cl hr (by decide) (pe_word A_.mkw T hr (by decide) (by rfl) (pa_cons (pv 1) pa_nil)) (pa_cons (pv 3) pa_nil)) pa_nil)) (by rfl))
      (pss_cons (ps_set (i := 6) scPowers.nd rfl (Or.inl rfl) (pe_calX A_.asq hr (by decide) passF (by rfl) (pa_cons (pe_w1 A_.thn T.cl hr (by decide) (pe_w1 A_.tms T.cl hr (by decide) (pv 4) (pa_cons pe_int pa_nil)) (pa_cons (pe_w1 A_.tms T.cl hr (by decide) (pv 5) (pa_cons pe_int pa_nil)) pa_nil)) pa_nil)))
      (pss_one (ps_ret (pe_and (pe_cmpR (op_eqW A_.eq hr (by decide)) (pv 6) (pe_w0 A_.sht T.cl hr (by decide) (pe_w1 A_.tms T.cl hr (by decide) (pe_word A_.mkw T hr (by decide) (by rfl) (pa_cons (pv 1) pa_nil)) (pa_cons (pe_op op_add (pv 2) (pv 3)) pa_nil))) (nomark _)) (pe_one (pe_cal G2 hr (by decide) (by rfl) (pa_cons (pe_callTy call_list_of (by rfl) TN.list (by decide +kernel) (pa_cons (pe_fld (pv 4) rfl) pa_nil)) (pa_cons (pe_callTy call_list_of (by rfl) TN.list (by decide +kernel) (pa_cons (pe_fld (pv 5) rfl) pa_nil)) pa_nil))))))))), ?_⟩
    -- the word and the two numbers
    refine ⟨_, rfl, a, c, 4, 2, n, rfl, hH, by decide, by omega, by decide, by decide, fun p H1 r hp0 d1 hp lr hrk => ?_⟩
    have hpa := hH.ne hp0
    have hr' := Lts.of (by decide) hrk
    refine ⟨_, rfl, a, c, 9, n + 1 + 2 * 4, rfl, d1.1, by omega, by decide, by decide, fun H2 dh h0 h1 hH2 hK2 => ?_⟩
    have hp2 := hK2 _ _ hpa hp
    refine ⟨_, _, rfl, rfl, ?_⟩
    refine ⟨_, rfl, a, c, 9, n + 1 + 2 * 4 + 1, rfl, hH2, by omega, by decide, by decide, fun H3 dt t0 t1 hH3 hK3 => ?_⟩
    have hp3 := hK3 _ _ hpa hp2
    have D3 : Drew a c (n + 11) H H3 := ⟨hH3.mono (by omega), (d1.2.trans hK2).trans hK3⟩
    obtain ⟨h, eh⟩ : ∃ h, h = dh - 4 := ⟨_, rfl⟩
    obtain ⟨t, et⟩ : ∃ t, t = dt - 4 := ⟨_, rfl⟩
    have ah : h.natAbs ≤ 4 := by omega
    have at_ : t.natAbs ≤ 4 := by omega
    have tl' : ∀ m : Int, m.natAbs ≤ 8 → r.length * m.natAbs ≤ 32 := fun m hm => Nat.mul_le_mul lr hm
    have hlen : ∀ m : Int, m.natAbs ≤ 4 → (tms m r).length ≤ 16 := fun m hm => by
      rw [tms_len]
      exact Nat.mul_le_mul hm lr
    have lh := hlen h ah
    have lt := hlen t at_
    refine ⟨_, _, rfl, rfl, _, _, _, rfl, ?_⟩
    -- one and other
    refine ⟨_, rfl, fun x dx nx ndx _ => make_at nx ndx (.inl (SqL.of hp3)) (by omega) hr' fun H4 s4 W4 => ?_⟩
    obtain ⟨dx, fs, h1', h2'⟩ := W4.no nm5
    refine ⟨x, dx, fs, rfl, h1', h2', _, rfl, x, h, r, by rw [eh]; rfl, W4, by omega, by have := tl' h (by omega); omega, hr', fun o1 H5 s5 W5 => ?_⟩
    have s35 := s4.trans s5
    refine ⟨_, rfl, fun x2 dx2 nx2 ndx2 _ => make_at nx2 ndx2 (.inl (SqL.of (s35 _ _ hp3))) (by omega) hr' fun H6 s6 W6 => ?_⟩
    obtain ⟨dx2, fs2, h1', h2'⟩ := W6.no nm5
    refine ⟨x2, dx2, fs2, rfl, h1', h2', _, rfl, x2, t, r, by rw [et]; rfl, W6, by omega, by have := tl' t (by omega); omega, hr', fun o2 H7 s7 W7 => ⟨_, _, rfl, ?_⟩⟩
    have s37 := (s35.trans s6).trans s7
    have W5' := W5.same (s6.trans s7)
    -- told
    have lX : Lts (tms h r) := hr'.tms h
    have lY : Lts (tms t r) := hr'.tms t
    have n2 : ∀ xs : List Int, xs.length ≤ 16 → xs.length * (2 : Int).natAbs ≤ 500 := fun xs hx => by
      show xs.length * 2 ≤ 500
      omega
    have l2 : ∀ xs : List Int, xs.length ≤ 16 → (tms 2 xs).length ≤ 32 := fun xs hx => by
      rw [tms_len]
      show 2 * xs.length ≤ 32
      omega
    have l2h := l2 _ lh
    have l2t := l2 _ lt
    obtain ⟨dx, fs, h1', h2'⟩ := W5'.no nm5
    refine ⟨_, rfl, o1, dx, fs, rfl, h1', h2', o1, 2, _, rfl, W5', by omega, n2 _ lh, lX, fun y1 H8 s8 W8 => ?_⟩
    obtain ⟨dx, fs, h1', h2'⟩ := W8.no nm4
    have W7' := W7.same s8
    obtain ⟨dx2, fs2, h3', h4'⟩ := W7'.no nm5
    refine ⟨y1, dx, fs, rfl, h1', h2', _, rfl, o2, dx2, fs2, rfl, h3', h4', o2, 2, _, rfl, W7', by omega, n2 _ lt, lY, fun y2 H9 s9 W9 => ?_⟩
    refine ⟨y1, y2, _, _, rfl, W8.same s9, W9, by omega, lX.tms 2, lY.tms 2, fun y3 H10 s10 W10 => ?_⟩
    have s710 := (s8.trans s9).trans s10
    refine ⟨.ref y3, rfl, .inr ⟨y3, _, rfl, W10, by rw [List.length_append]; omega, (lX.tms 2).app (lY.tms 2), fun z e => ?_, fun e => by rw [pow_root hr'] at e; cases e⟩⟩
    rw [pow_root hr'] at e
    obtain rfl := Option.some.inj e
    intro tt H11 s11 W11
    have s311 := (s37.trans s710).trans s11
    refine ⟨_, rfl, _, rfl, fun x4 dx4 nx4 ndx4 _ => make_at nx4 ndx4 (.inl (SqL.of (s311 _ _ hp3))) (by omega) hr' fun H12 s12 W12 => ?_⟩
    obtain ⟨dx, fs, h1', h2'⟩ := W12.no nm5
    have a8 : (h + t).natAbs ≤ 8 := by omega
    have l8 : (tms (h + t) r).length ≤ 32 := by
      rw [tms_len]
      exact Nat.mul_le_mul a8 lr
    refine ⟨x4, dx, fs, rfl, h1', h2', _, rfl, _, rfl, _, _, rfl, rfl, x4, h + t, r, by rw [eh, et]; rfl, W12, by omega, by have := tl' (h + t) a8; omega, hr', fun y5 H13 s13 W13 => ?_⟩
    obtain ⟨dx, fs, h1', h2'⟩ := W13.no nm2
    refine ⟨y5, dx, fs, rfl, h1', h2', y5, _, rfl, W13, by omega, hr'.tms _, fun y6 H14 s14 W14 => ?_⟩
    have s1114 := (s12.trans s13).trans s14
    refine ⟨tt, y6, _, _, rfl, rfl, W11.same s1114, W14, _, rfl, ?_⟩
    rw [decide_eq_true rfl]
    refine iteT ?_
    -- the two powers
    have s714 := (s710.trans s11).trans s1114
    have V1 := W5'.same s714
    have V2 := W7.same s714
    obtain ⟨dx, tl, tk, ks, w1, w2, _⟩ := id V1
    refine ⟨_, rfl, o1, C, dx, _, _, rfl, w1, T.cl, T.nL, wf_letters, tl, _, rfl, .inr w2, fun l1 hl1 => ?_⟩
    have sA := same_upd (o := .lst (iv (tms h r))) hl1
    obtain ⟨dx2, tl2, tk2, ks2, w3, w4, _⟩ := V2.same sA
    refine ⟨_, rfl, o2, C, dx2, _, _, rfl, w3, T.cl, T.nL, wf_letters, tl2, _, rfl, .inr w4, fun l2 hl2 => ?_⟩
    have sB := same_upd (o := .lst (iv (tms t r))) hl2
    refine ⟨l1, l2, tms h r, tms t r, rfl, sB _ _ upd_same, upd_same, by omega, by omega, lX, lY, fun HZ sZ => ?_⟩
    exact k HZ (D3.same (((s37.trans s714).trans (sA.trans sB)).trans sZ))
end
end W55
set_option Elab.async false
set_option linter.all false
set_option maxRecDepth 100000
set_option maxHeartbeats 1000000
namespace W55
open PySem L2 PySem.Spec PyProof.Rows WR
abbrev sHeard : Stmt := top 44
/-! ### the def that hears what a call refuses -/
abbrev EH (CB : Addr) (Q : VK) : XK := fun cls d H' => cls = .ref CB ∧ ∃ (dd : Addr) (v : V), d = some dd ∧ H' dd = some (.xd [(("part" : Str), v)]) ∧
  ∀ a, H' a = none → ∀ t, (L2.upd H' a (CK.exk a (.ref CB) (some dd))) t = none → Q (.ref t) (L2.upd (L2.upd H' a (CK.exk a (.ref CB) (some dd))) t (.tup [.str "word", v]))
def THeard (CB : Addr) : (XK → Hp → VK → Prop) → Hp → VK → Prop := fun tl H Q => ∀ R : VK, (∀ v H', Q .non H' → R v H') → tl (EH CB Q) H R
theorem takes_len {X : Cx} {W : WX} (t : Takes X W) : Takes X (fun cls d σ H => σ.length = X.N.length → W cls d σ H) := fun u s' ⟨a, B, sI, pins, σ, H, cls, d, e, I, nb, up, sky, na, os, ag, w⟩ =>
  t u s' ⟨a, B, sI, pins, σ, H, cls, d, e, I, nb, up, sky, na, os, ag, w I.len⟩
abbrev nHeard : List Str := ["_law_ask", "_law_caught", "error"]
theorem scHeard : FnScope nHeard ["_law_ask"] (defScope sHeard) := ⟨rfl, rfl, rfl, by decide +kernel, rfl, by decide +kernel, by decide +kernel⟩
/-- what is asked of the two classes -/
structure One (K : PySem.W.Frag) (mg : Str → Option Value) (CB CH : Addr) : Prop where
  gH : mg "HandleError" = some (.ref CH)
  te : PySem.W.exmOne K (.ref CB) (.ref CH) = some true
  nB : PySem.W.findIn K (.ref CB) "part" = some none
  nN : PySem.W.kitOne K (.type "NoneType") (.ref CB) = some false
  ex : L2.ExcC K CB
  isin : mg "isinstance" = none
theorem on2 {a : Addr} {σ : L2.St} (h : σ.length = 3) : (σ.set 2 (some (.ref a)))[2]? = some (some (.ref a)) := by
  match σ, h with
  | [_, _, _], _ => rfl
theorem on1 {a : Addr} {σ : L2.St} (h : σ.length = 3) : (((σ.set 2 (some (.ref a))).set 1 (some (.ref a))).set 2 none)[1]? = some (some (.ref a)) := by
  match σ, h with
  | [_, _, _], _ => rfl
theorem heard_gives {X : Cx} {g CB CH : Addr} {cdg : Value} {q : Str} {ps1 : List Str} {sp1 : Sp} (EB : ErrC X.prog X.w X.K X.mg X.base CB "BadWord" ps1 sp1) (Z : One X.K X.mg CB CH) :
    LamX.GivesTo X nHeard "_law_heard" (defScope sHeard) g cdg (defBody sHeard) "_law_ask" q (THeard CB) := by
  intro f c' s H Q tl act hc h
  refine ⟨_, pss_cons (ps_set (i := 1) scHeard.nd rfl (Or.inl rfl) pe_non)
    (pss_cons (CK.ps_try_keep (X := (cxOf C8.CX0 X.prog X.w X.K X.mg X.base nHeard "_law_heard" (defScope sHeard) g cdg X.A X.stack s H C8.E0).nox) (i := 2) (out := fun _ _ _ _ => False) (c := .ref CH)
      (say := fun _ _ _ => tAsg (tVar 2) (gName 1))
      (tb := fun W D σ H => ∃ Ech : XK, (∀ cls d σ' H', Ech cls d H' → σ'.length = 3 → W cls d σ' H') ∧ σ[0]? = some (some (.ref f)) ∧ H c' = some (LamX.CodeO c' q) ∧ tl Ech H (fun _ H' => D.nx σ H'))
      rfl rfl rfl LamX.takes0 (fun W pn xe tk _ => ?_)
      scHeard.nd rfl rfl ⟨rfl, by decide, .inl Z.gH⟩ (fun a oe cls d pn hz hf => pss_one (ps_set (i := 1) scHeard.nd rfl (Or.inl rfl) (pv 2))))
    (pss_cons (ps_if (pt_val (pe_callB CK.call_isC (by rfl) Z.isin (by decide +kernel) (pa_cons (pv 1) (pa_cons (pe_glob (v := .ref CB) (by rfl) EB.g rfl) pa_nil)))) (pss_one (ps_ret (pe_tup (pa_cons pe_str (pa_cons (CK.pe_kf EB.xf Z.nB (pv 1)) pa_nil))))) pss_nil)
    (pss_one (ps_ret (pe_ifExp (pt_cmpR op_isN (pv 1) pe_non (nomark _)) pe_non (pe_tup (pa_cons pe_str (pa_cons pe_non pa_nil)))))))), ?_⟩
  · refine ⟨fun pins s' σ H' D I h' => ?_⟩
    obtain ⟨Ech, hW, h1, h2, h3⟩ := h'
    exact (pss_one (ps_expr (act _ pn xe Ech _ _ (takes_len tk) (fun cls d σ' H' h hl => hW cls d σ' H' h hl)))).run pins s' σ H' D I ⟨h1, h2, h3⟩
  · refine ⟨EH CB Q, fun cls d σ' H' h1 h2 => ?_, rfl, hc, ?_⟩
    · obtain ⟨rfl, dd, v, rfl, h4, h5⟩ := h1
      refine ⟨true, Z.te, fun _ a ha => ?_, fun z => Bool.noConfusion z⟩
      have hdd : (L2.upd H' a (CK.exk a (.ref CB) (some dd))) dd = some (.xd [(("part" : Str), v)]) := by
        rw [upd_ne (ne_of_none h4 ha)]
        exact h4
      refine ⟨_, on2 h2, ?_⟩
      refine ⟨_, on1 h2, .inr ⟨a, CB, dd, _, .ref CB, .ref CB, true, rfl, upd_same, hdd, Z.ex, fun u hu => hu, kit_self CB, ?_⟩⟩
      refine ⟨_, rfl, iteT ?_⟩
      exact ⟨_, on1 h2, a, dd, _, v, rfl, upd_same, hdd, lk_eq, by show 2 ≤ sizeLine; decide, fun t ht => h5 a ha t ht⟩
    · refine h _ fun v H' hq => ?_
      refine ⟨_, rfl, .inl ⟨_, _, _, _, _, rfl, .own CB, Typ.non.ty, Z.nN, ?_⟩⟩
      refine ⟨_, rfl, iteF ?_⟩
      exact ⟨_, rfl, rfl, _, rfl, iteT hq⟩
end W55
set_option Elab.async false
set_option linter.all false
set_option maxRecDepth 100000
set_option maxHeartbeats 600000
namespace W55
open PySem L2 PySem.Spec PyProof.Rows WR
abbrev sLaw : Stmt := top 50
structure FunC (K : PySem.W.Frag) (x : Str) (st : Stmt) (f c : Addr) (fd : FuncData) : Prop where
  ex : ∃ (oc : Value) (od : Option Addr) (kV doc pm : Value) (an : Option Addr) (ct : Value) (osl : Array (Option Value)),
    fd = PySem.W.fnOf x x (defArgs st) (defBody st) (defScope st) .none kV doc pm an (.ref c) ct ∧ K.lookup f = some ⟨oc, od, .func fd, osl⟩ ∧ PySem.W.codeIn K (.ref c) x = true
theorem FunC.ok {P : Program} {w : World} {K : PySem.W.Frag} {mg : Str → Option Value} {base : Heap} {x : Str} {st : Stmt} {f c : Addr} {fd : FuncData} {N ps : List Str} {k : Nat} {sp : Sp} (F : FunC K x st f c fd) (S : FnScope N ps (defScope st))
    (len : ∀ vs H Q E, sp vs H Q E → vs.length = ps.length)
    (body : ∀ (A : Around) (outer : List Env) (s : Shared) (H : Hp) (vs : List V) (Q : VK) (E : XK), Room k (A.deeper (envOfC x (defScope st) s.heap.objs.size f (.ref c))) → sp vs H Q E →
      ∃ t, PSs (cxOf CX0 P w K mg base N x (defScope st) f (.ref c) A outer s H E).nox (defBody st) t ∧ t { nx := fun _ H' => Q .non H', rt := Q } (L2.start N vs) H) : FnOk P w K mg base CX0 (k + 1) f fd ps sp := by
  obtain ⟨oc, od, kV, doc, pm, an, ct, osl, rfl, lk, cd⟩ := F.ex
  refine fn_of lk cd S len fun A outer s H vs Q E room asked => ?_
  obtain ⟨t, ht, hq⟩ := body A outer s H vs Q E room asked
  exact ⟨t, ht.nox, hq⟩
structure HearK (K : PySem.W.Frag) (mg : Str → Option Value) (g : Addr) : Prop where
  mg : mg "_law_heard" = some (.ref g)
  kp : PySem.W.keepIn K (.ref g) = true
  ex : ∃ (oc : Value) (od : Option Addr) (kV doc pm cdv ct : Value) (an : Option Addr) (osl : Array (Option Value)),
    K.lookup g = some ⟨oc, od, .func (PySem.W.fnOf "_law_heard" "_law_heard" (defArgs sHeard) (defBody sHeard) (defScope sHeard) .none kV doc pm an cdv ct), osl⟩ ∧ PySem.W.codeIn K cdv "_law_heard" = true
theorem tabs_kept {T : List (Addr × Str)} {a c : Addr} {n : Nat} {H H' : Hp} (h : HandAt H a c n) (k : Kept a H H') (t : LamX.Tabs T H) : LamX.Tabs T H' := by
  intro p hp
  obtain ⟨ps, h1, h2, h3⟩ := t p hp
  obtain ⟨ns, i, r, ha, _⟩ := h
  have na : ∀ {b : Addr} {o : HO}, H b = some o → (∀ xs, o ≠ .lst xs) → b ≠ a := fun e z q => by
    rw [q, ha] at e
    exact z _ (Option.some.inj e).symm
  refine ⟨ps, k _ _ (na h1 fun xs q => by cases q) h1, h2, fun pos cv hc => ?_⟩
  obtain ⟨d, e1, e2⟩ := h3 pos cv hc
  exact ⟨d, e1, k _ _ (na e2 fun xs q => by
    have q2 : HO.ext _ = HO.lst xs := q
    cases q2) e2⟩
theorem HandAt.ext {H H' : Hp} {a c : Addr} {n : Nat} (h : HandAt H a c n) (s : LamX.ExtN H H') : HandAt H' a c n := by
  obtain ⟨ns, i, r, h1, h2, h3⟩ := h
  exact ⟨ns, i, r, s _ _ h1 (fun ps q => by cases q), s _ _ h2 (fun ps q => by cases q), h3⟩
theorem Drew.tabs {T : List (Addr × Str)} {a c : Addr} {m n : Nat} {H H' : Hp} (d : Drew a c n H H') (h : HandAt H a c m) (t : LamX.Tabs T H) : LamX.Tabs T H' := tabs_kept h d.2 t
/-- a list is changed, the tables stand -/
theorem tabs_put {T : List (Addr × Str)} {l : Addr} {H : Hp} {xs ys : List V} (hl : H l = some (.lst xs)) (t : LamX.Tabs T H) : LamX.Tabs T (L2.upd H l (.lst ys)) := by
  intro p hp
  have kl : Kept l H (L2.upd H l (.lst ys)) := Kept.upd
  obtain ⟨ps, h1, h2, h3⟩ := t p hp
  have na : ∀ {b : Addr} {o : HO}, H b = some o → (∀ xs, o ≠ .lst xs) → b ≠ l := fun e z q => by
    rw [q, hl] at e
    exact z _ (Option.some.inj e).symm
  refine ⟨ps, kl _ _ (na h1 fun xs q => by cases q) h1, h2, fun pos cv hc => ?_⟩
  obtain ⟨d, e1, e2⟩ := h3 pos cv hc
  exact ⟨d, e1, kl _ _ (na e2 fun xs q => by
    have q2 : HO.ext _ = HO.lst xs := q
    cases q2) e2⟩
/-- a short word in a list, at none of these places -/
def WL (ex : List Addr) (H : Hp) (v : V) : Prop := ∃ (q : Addr) (ns : List Int), v = .ref q ∧ q ∉ ex ∧ H q = some (.lst (iv ns)) ∧ ns.length ≤ 2 ∧ Lts ns
theorem WL.same {ex : List Addr} {H H' : Hp} {v : V} (h : WL ex H v) (s : Same H H') : WL ex H' v := by
  obtain ⟨q, ns, e, h1, h2, h3⟩ := h
  exact ⟨q, ns, e, h1, s _ _ h2, h3⟩
theorem WL.put {ex : List Addr} {H : Hp} {v : V} {p : Addr} {o : HO} (h : WL ex H v) (hp : p ∈ ex) : WL ex (L2.upd H p o) v := by
  obtain ⟨q, ns, e, h1, h2, h3⟩ := h
  exact ⟨q, ns, e, h1, by rw [upd_ne (fun z => h1 (by rw [z]; exact hp))]; exact h2, h3⟩
theorem WL.sub {ex ex' : List Addr} {H : Hp} {v : V} (h : WL ex H v) (k : ∀ p ∈ ex', p ∈ ex) : WL ex' H v := by
  obtain ⟨q, ns, e, h1, h2, h3⟩ := h
  exact ⟨q, ns, e, fun z => h1 (k _ z), h2, h3⟩
/-- what is no Word -/
structure TxP (K : PySem.W.Frag) (C : Addr) : Prop where
  nN : PySem.W.kitOne K (.type "NoneType") (.ref C) = some false
  nI : PySem.W.kitOne K (.type "int") (.ref C) = some false
  nB : PySem.W.kitOne K (.type "bool") (.ref C) = some false
  nS : PySem.W.kitOne K (.type "str") (.ref C) = some false
  nL : PySem.W.kitOne K (.type "list") (.ref C) = some false
  nT : PySem.W.kitOne K (.type "tuple") (.ref C) = some false
abbrev nLaw : List Str := ["_law_script", "_law_pen_here", "_law_turn", "_law_words", "_law_letter", "_law_one", "_law_odd", "_law_other"]
abbrev qLaw : Str := ("law" : Str) ++ ".<locals>." ++ "<lambda>"
def spLaw (K : PySem.W.Frag) (T : List (Addr × Str)) : Sp := fun vs H Q _ => ∃ (a : Addr) (ns : List Int), vs = [.ref a] ∧ SqL K H a (ns.map V.int) ∧ ns.length ≤ 63 ∧ LamX.Tabs T H ∧ ∀ H', Q (.bl true) H'
structure CalsW (P : Program) (w : World) (K : PySem.W.Frag) (mg : Str → Option Value) (base : Heap) : Prop where
  pen : Cal P w K mg base "_law_pen" 1 ["_law_script"] (spHand K)
  pick : Cal P w K mg base "_law_pick" 2 ["_law_pen_here", "_law_some"] spPick
  word : Cal P w K mg base "_law_word" 3 ["_law_pen_here", "_law_most", "_law_kinds"] spWord
  told : Cal P w K mg base "_law_told_right" 8 ["_law_letters"] spTold
  two : Cal P w K mg base "_law_two_right" 8 ["_law_one", "_law_other"] spTwo
  sqs : Cal P w K mg base "_law_squares_right" 9 ["_law_pen_here"] (spPenB 38)
  pows : Cal P w K mg base "_law_powers_right" 9 ["_law_pen_here"] (spPenB 11)
theorem r0 : Fr.root? [] = some [] := by decide +kernel
theorem r1 : Fr.root? [1, -1] = some [] := by decide +kernel
theorem r2 : Fr.root? [1, 1, 2, 2] = none := by decide +kernel
theorem r3 : Fr.root? [1] = none := by decide +kernel
theorem at_set {σ : L2.St} {H : Hp} {v : V} {i : Nat} {f : L2.St → Hp → Prop} (h : f (σ.set i (some v)) H) : gName i v σ H f := h
theorem ifs_lc {r2 : R2} {wi : TI} {g : TG} {tt : TT} {te tb : TE} {vs : List Nat} {σ : L2.St} {H : Hp} {A B : TS} {D : Ends}
    (h : wi σ H fun J H1 => tLc (fun _ H R => R J H) g tt te vs σ H1 fun z H4 => tb σ H4 fun u H5 => r2 z u H5 fun x H6 => ∃ c, x = .bl c ∧ if c = true then A D σ H6 else B D σ H6) : tIfS (tTest (tOp r2 (tLc wi g tt te vs) tb)) A B D σ H := h
section
variable {P : Program} {w : World} {K : PySem.W.Frag} {mg : Str → Option Value} {base : Heap}
theorem scLaw : FnScope nLaw ["_law_script"] (defScope sLaw) := ⟨rfl, rfl, rfl, by decide +kernel, rfl, by decide +kernel, by decide +kernel⟩
theorem ok_law {f cd P2 g C CB CH : Addr} {fd : FuncData} {TT : List (Addr × Str)} (F : FunC K "law" sLaw f cd fd) (T : TxW K mg C) (TN : TxN mg) (XP : TxP K C) (A_ : AllQ P w K mg base C CB) (ne_ : PySem.W.findIn K (.ref C) "__ne__" = some (some (.builtin "object.__ne__"))) (N : CalsW P w K mg base)
    (EB : ErrC P w K mg base CB "BadWord" ["self", "part"] (spI1 CB)) (Z : One K mg CB CH) (G : HearK K mg g) (TB : LamX.TabB base mg cd P2) (hT : (P2, qLaw) ∈ TT) (hu : ∀ p ∈ TT, p.1 = P2 → p.2 = qLaw) :
    FnOk P w K mg base CX0 10 f fd ["_law_script"] (spLaw K TT) := by
  refine F.ok scLaw (fun vs H Q E h => ?_) (fun A outer s H vs Q E hr h => ?_)
  · obtain ⟨a, ns, rfl, _⟩ := h
    rfl
  · obtain ⟨a, ns, rfl, hS, hlen, tT, k⟩ := h
    obtain ⟨oc, od, kV, doc, pm, cdv, ct, an, osl, lk, hcd⟩ := G.ex
    have bG : L2.Binds K (PySem.W.fnOf "_law_heard" "_law_heard" (defArgs sHeard) (defBody sHeard) (defScope sHeard) .none kV doc pm an cdv ct) ["_law_ask"] [] := (fun_mk (st := sHeard) lk hcd G.kp).binds (ps := ["_law_ask"]) fun _ _ _ _ _ _ us hl => match us, hl with | [_], _ => rfl
    refine ⟨_, pss_cons (ps_set (i := 1) scLaw.nd rfl (Or.inl rfl) (pe_cal N.pen hr (by decide) (by rfl) (pa_cons (pv 0) pa_nil)))
      (pss_cons (ps_for PassesOwn.never rfl (pi_range1 (by rfl) TN.range (pa_cons pe_int pa_nil)) (pg_name (i := 2) scLaw.nd rfl (Or.inl rfl))
        (pss_cons (ps_if (PW.pt (pw_or (pt_not (pt_val (pe_cal N.sqs hr (by decide) (by rfl) (pa_cons (pv 1) pa_nil)))) (pw_or (pt_not (pt_val (pe_cal N.pows hr (by decide) (by rfl) (pa_cons (pv 1) pa_nil)))) (pw_or1 (pt_not (pt_val (pe_cal N.told hr (by decide) (by rfl) (pa_cons (pe_cal N.word hr (by decide) (by rfl) (pa_cons (pv 1) (pa_cons pe_int (pa_cons pe_int pa_nil)))) pa_nil)))))))) (pss_one (ps_ret pe_bl)) pss_nil)
        (pss_one (ps_if (pt_not (pt_val (pe_cal N.two hr (by decide) (by rfl) (pa_cons (pe_cal N.word hr (by decide) (by rfl) (pa_cons (pv 1) (pa_cons pe_int (pa_cons pe_int pa_nil)))) (pa_cons (pe_cal N.word hr (by decide) (by rfl) (pa_cons (pv 1) (pa_cons pe_int (pa_cons pe_int pa_nil)))) pa_nil))))) (pss_one (ps_ret pe_bl)) pss_nil))))
      (pss_cons (ps_set (i := 3) scLaw.nd rfl (Or.inl rfl) (pe_lst (pa_cons (pe_lst pa_nil) pa_nil)))
      (pss_cons (ps_for PassesOwn.never rfl (pi_tup (pe_tup (pa_cons pe_int (pa_cons (pe_un un_neg pe_int) (pa_cons pe_int (pa_cons (pe_un un_neg pe_int) pa_nil)))))) (pg_name (i := 4) scLaw.nd rfl (Or.inr rfl))
        (pss_one (ps_expr (pe_bm PySem.F.plainAttrs_list PySem.F.slot_list_extend PySem.F.type_list_extend mt_extend (pv 3) (pa_cons (pe_op op_cat (pe_lst (pa_cons (pe_lst (pa_cons (pv 4) pa_nil)) pa_nil))
          (pe_lc (own := [("_law_other", 7)]) (g := gName 7) rfl scLaw.nd (pi_tup (pe_tup (pa_cons pe_int (pa_cons (pe_un un_neg pe_int) (pa_cons pe_int (pa_cons (pe_un un_neg pe_int) pa_nil))))))
            (blkOk_by (N := nLaw) (sc := defScope sLaw) (by decide +kernel)) (fun _ _ _ _ _ => pg_name (i := 7) scLaw.nd rfl (Or.inl rfl)) (fun _ _ _ _ _ => pts_one (pt_cmpR op_ne (pv 7) (pe_un un_neg (pv 4)) (nomark _)))
            (fun _ _ _ _ _ => pe_lst (pa_cons (pv 4) (pa_cons (pv 7) pa_nil))))) pa_nil)))))
      (pss_cons (ps_for PassesOwn.never rfl (pi_list (pv 3)) (pg_name (i := 5) scLaw.nd rfl (Or.inr rfl))
        (pss_one (ps_if (pt_cmpR (op_neD hr.units) (pe_lc (own := [("_law_other", 7)]) (g := gName 7) rfl scLaw.nd (pi_list (pv 3))
            (blkOk_by (N := nLaw) (sc := defScope sLaw) (by decide +kernel)) (fun _ _ _ _ _ => pg_name (i := 7) scLaw.nd rfl (Or.inl rfl)) (fun _ _ _ _ _ => pts_one (pt_not (pt_val (pe_cal N.two hr (by decide) (by rfl) (pa_cons (pv 5) (pa_cons (pv 7) pa_nil))))))
            (fun _ _ _ _ _ => pv 7)) (pe_lst pa_nil) (nomark _)) (pss_one (ps_ret pe_bl)) pss_nil)))
      (pss_cons (ps_set (i := 6) scLaw.nd rfl (Or.inr rfl) (pe_cal N.pick hr (by decide) (by rfl) (pa_cons (pv 1) (pa_cons (pe_lst (pa_cons pe_non (pa_cons pe_int (pa_cons pe_str (pa_cons (pe_lst (pa_cons pe_int (pa_cons pe_int pa_nil))) (pa_cons (pe_tup pa_nil) (pa_cons pe_bl pa_nil))))))) pa_nil))))
      (pss_cons (ps_if (PW.pt (pw_or (pt_cmpR (op_neD hr.units) (LamX.pe_lamcall (T := TT) (k := 7) (t := fun E => tCall (spAsSq K C CB) [] E (tCons (tVar 6) tNil)) (by rfl) G.mg G.kp lk hcd bG scHeard (by rfl) (Or.inl rfl) (heard_gives EB Z) TB rfl hT hu hr (LamX.lamS_by (sc := defScope sLaw) (by decide +kernel)) (by rfl) (fun q cl pm cv ctv => by rfl)
            (fun A outer s H E f c' hr2 => pe_calX A_.asq hr2 (by decide) (passes_call (takes_of rfl rfl rfl rfl) (fun _ _ _ _ h => h)) (by rfl) (pa_cons (pv 6) pa_nil))) (pe_tup (pa_cons pe_str (pa_cons pe_str pa_nil))) (nomark _))
          (pw_or1 (pt_cmpR (op_neW A_.eq ne_ T.cm hr (by decide)) (pe_calX A_.asq hr (by decide) passF (by rfl) (pa_cons (pe_word A_.mkw T hr (by decide) (by rfl) (pa_cons (pe_lst pa_nil) pa_nil)) pa_nil)) (pe_word A_.mkw T hr (by decide) (by rfl) (pa_cons (pe_lst pa_nil) pa_nil)) (nomark _))))) (pss_one (ps_ret pe_bl)) pss_nil)
      (pss_one (ps_ret (pe_and (pe_cmpR (op_eqW A_.eq hr (by decide)) (pe_calX A_.asq hr (by decide) passF (by rfl) (pa_cons (pe_word A_.mkw T hr (by decide) (by rfl) (pa_cons (pe_lst (pa_cons pe_int (pa_cons (pe_un un_neg pe_int) pa_nil))) pa_nil)) pa_nil)) (pe_word A_.mkw T hr (by decide) (by rfl) (pa_cons (pe_lst pa_nil) pa_nil)) (nomark _))
        (pe_and (pe_cmpR op_isN (pe_calX A_.asq hr (by decide) passF (by rfl) (pa_cons (pe_word A_.mkw T hr (by decide) (by rfl) (pa_cons (pe_lst (pa_cons pe_int (pa_cons pe_int (pa_cons pe_int (pa_cons pe_int pa_nil))))) pa_nil)) pa_nil)) pe_non (nomark _))
        (pe_one (pe_cmpR op_isN (pe_calX A_.asq hr (by decide) passF (by rfl) (pa_cons (pe_word A_.mkw T hr (by decide) (by rfl) (pa_cons (pe_lst (pa_cons pe_int pa_nil)) pa_nil)) pa_nil)) pe_non (nomark _))))))))))))), ?_⟩
    refine ⟨_, rfl, a, ns, rfl, hS, by omega, fun H1 h c s1 hn cn hH1 => ?_⟩
    have t1 := tT.ext s1
    refine ⟨4, rfl, by decide, by decide, for_range (lo := 0) (n := 4) (fun i σ H' => (∃ v2 : Option V, σ = [some (.ref a), some (.ref h), v2, none, none, none, none, none]) ∧ HandAt H' h c (120 * i) ∧ LamX.Tabs TT H') ⟨⟨none, rfl⟩, hH1, t1⟩ ?_ ?_⟩
    · rintro i σ H2 hi ⟨⟨v2, rfl⟩, hH2, t2⟩
      refine ⟨_, rfl, h, c, 120 * i, rfl, hH2, by omega, fun H3 d3 => ⟨_, rfl, iteF ?_⟩⟩
      have t3 := d3.tabs hH2 t2
      refine ⟨_, rfl, h, c, 120 * i + 38, rfl, d3.1, by omega, fun H4 d4 => ⟨_, rfl, iteF ?_⟩⟩
      have t4 := d4.tabs d3.1 t3
      refine ⟨_, rfl, h, c, 12, 1, 120 * i + 38 + 11, rfl, d4.1, by decide, by omega, by decide, by decide, fun p5 H5 x5 hp5 d5 g5 l5 k5 => ?_⟩
      have t5 := d5.tabs d4.1 t4
      refine ⟨p5, x5, rfl, g5, by omega, Lts.of (by decide) k5, fun H6 s6 => ⟨_, rfl, iteF ?_⟩⟩
      have t6 := t5.ext s6
      have hH6 := d5.1.same s6
      refine ⟨_, rfl, h, c, 6, 2, _, rfl, hH6, by decide, by omega, by decide, by decide, fun p7 H7 x7 hp7 d7 g7 l7 k7 => ?_⟩
      have t7 := d7.tabs hH6 t6
      refine ⟨_, rfl, h, c, 6, 2, _, rfl, d7.1, by decide, by omega, by decide, by decide, fun p8 H8 x8 hp8 d8 g8 l8 k8 => ?_⟩
      have t8 := d8.tabs d7.1 t7
      refine ⟨p7, p8, x7, x8, rfl, d8.2 _ _ (hH6.ne hp7) g7, g8, by omega, by omega, Lts.of (by decide) k7, Lts.of (by decide) k8, fun H9 s9 => ⟨_, rfl, iteF ?_⟩⟩
      exact ⟨⟨_, rfl⟩, (d8.1.same s9).mono (by omega), t8.ext s9⟩
    rintro σ H2 ⟨⟨v2, rfl⟩, hH2, t2⟩
    -- the words
    refine ⟨Nat.zero_le _, fun e0 he0 => ⟨by show 1 ≤ sizeLine; decide, fun w_ hw_ => ?_⟩⟩
    have s3 := same_upd (o := .lst []) he0
    have g3 : L2.upd H2 e0 (.lst []) e0 = some (.lst (iv [])) := upd_same
    obtain ⟨H3, e3⟩ : ∃ H3, H3 = L2.upd H2 e0 (.lst []) := ⟨_, rfl⟩
    rw [← e3] at s3 g3 hw_ ⊢
    have s4 := same_upd (o := .lst [.ref e0]) hw_
    have g4 : L2.upd H3 w_ (.lst [.ref e0]) w_ = some (.lst [.ref e0]) := upd_same
    have new4 : e0 ≠ w_ := ne_of_none g3 hw_
    obtain ⟨H4, e4⟩ : ∃ H4, H4 = L2.upd H3 w_ (.lst [.ref e0]) := ⟨_, rfl⟩
    rw [← e4] at s4 g4 ⊢
    have s24 := s3.trans s4
    have hH4 := hH2.same s24
    have t4 := t2.ext s24
    have wa : w_ ≠ h := (hH2.same s3).ne hw_
    have wc : w_ ≠ c := (hH2.same s3).neC hw_
    try dsimp only
    refine at_set ?_
    try dsimp only
    refine ⟨_, rfl, _, rfl, by show 4 ≤ sizeLine; decide, fun T0 hT0 => ?_⟩
    have s5 := same_upd (o := .tup [.int 1, .int (-1), .int 2, .int (-2)]) hT0
    have g5 : L2.upd H4 T0 (.tup [.int 1, .int (-1), .int 2, .int (-2)]) T0 = some (.tup [.int 1, .int (-1), .int 2, .int (-2)]) := upd_same
    obtain ⟨H5, e5⟩ : ∃ H5, H5 = L2.upd H4 T0 (.tup [.int 1, .int (-1), .int 2, .int (-2)]) := ⟨_, rfl⟩
    rw [← e5] at s5 g5 ⊢
    have Tw : T0 ≠ w_ := (ne_of_none g4 hT0).symm
    refine ⟨T0, rfl, ⟨_, SqT.of g5⟩, for_tup (K := K) (a := T0) (xs := [.int 1, .int (-1), .int 2, .int (-2)]) (fun i σ H' => (∃ v4 : Option V, σ = [some (.ref a), some (.ref h), v2, some (.ref w_), v4, none, none, none]) ∧ HandAt H' h c 480 ∧ LamX.Tabs TT H' ∧ H' T0 = some (.tup [.int 1, .int (-1), .int 2, .int (-2)]) ∧
        ∃ vs, H' w_ = some (.lst vs) ∧ vs.length ≤ 1 + 5 * i ∧ ∀ v ∈ vs, WL [w_] H' v)
      ⟨⟨none, rfl⟩, hH4.same s5, t4.ext s5, g5, _, s5 _ _ g4, by show 1 ≤ 1; decide, fun v hv => ?_⟩ (fun i σ H1 _ q => SqT.of q.2.2.2.1) ?_ ?_⟩
    · rw [List.mem_singleton.mp hv]
      exact ⟨e0, [], rfl, (fun z => new4 (List.mem_singleton.mp z)), (s4.trans s5) _ _ g3, by decide, fun x hx => nomatch hx⟩
    · rintro i y σ H6 hi ⟨⟨v4, rfl⟩, hH6, t6, hT6, vs, hw6, lv, hv⟩
      obtain ⟨z, rfl, hz⟩ : ∃ z : Int, y = .int z ∧ (1 ≤ z.natAbs ∧ z.natAbs ≤ 26) := by
        have hm := List.mem_of_getElem? hi
        simp only [List.mem_cons, List.mem_nil_iff, or_false] at hm
        rcases hm with rfl | rfl | rfl | rfl
        · exact ⟨_, rfl, by decide⟩
        · exact ⟨_, rfl, by decide⟩
        · exact ⟨_, rfl, by decide⟩
        · exact ⟨_, rfl, by decide⟩
      have hi4 : i < 4 := (List.getElem?_eq_some_iff.mp hi).1
      refine ⟨_, rfl, .inl ⟨rfl, _, SqL.of hw6⟩, ?_⟩
      refine ⟨_, rfl, by show 1 ≤ sizeLine; decide, fun q1 hq1 => ⟨by show 1 ≤ sizeLine; decide, fun q2 hq2 => ?_⟩⟩
      have s7 := same_upd (o := .lst [.int z]) hq1
      have g7 : L2.upd H6 q1 (.lst [.int z]) q1 = some (.lst (iv [z])) := upd_same
      obtain ⟨H7, e7⟩ : ∃ H7, H7 = L2.upd H6 q1 (.lst [.int z]) := ⟨_, rfl⟩
      rw [← e7] at s7 g7 hq2 ⊢
      have s8 := same_upd (o := .lst [.ref q1]) hq2
      have g8 : L2.upd H7 q2 (.lst [.ref q1]) q2 = some (.lst [.ref q1]) := upd_same
      obtain ⟨H8, e8⟩ : ∃ H8, H8 = L2.upd H7 q2 (.lst [.ref q1]) := ⟨_, rfl⟩
      rw [← e8] at s8 g8 ⊢
      have q1w : q1 ≠ w_ := (ne_of_none hw6 hq1).symm
      have q1q2 : q1 ≠ q2 := ne_of_none g7 hq2
      refine ⟨_, rfl, _, rfl, by show 4 ≤ sizeLine; decide, fun T1 hT1 => ?_⟩
      have s9 := same_upd (o := .tup [.int 1, .int (-1), .int 2, .int (-2)]) hT1
      have g9 : L2.upd H8 T1 (.tup [.int 1, .int (-1), .int 2, .int (-2)]) T1 = some (.tup [.int 1, .int (-1), .int 2, .int (-2)]) := upd_same
      obtain ⟨H9, e9⟩ : ∃ H9, H9 = L2.upd H8 T1 (.tup [.int 1, .int (-1), .int 2, .int (-2)]) := ⟨_, rfl⟩
      rw [← e9] at s9 g9 ⊢
      have s69 := (s7.trans s8).trans s9
      have hw9 := s69 _ _ hw6
      refine ⟨T1, rfl, ⟨_, SqT.of g9⟩, fun D hD => lc_it (walk_tup (K := K) (a := T1) (xs := [.int 1, .int (-1), .int 2, .int (-2)])) (fun j H' => Same H9 H' ∧ ∃ us, H' D = some (.lst us) ∧ us.length ≤ j ∧ ∀ v ∈ us, WL [w_, D] H' v)
        ⟨same_upd hD, [], upd_same, Nat.le_refl _, fun v hv => nomatch hv⟩ (fun j H' _ q => SqT.of (q.1 _ _ g9)) ?_ ?_⟩
      · rintro j x H10 _ hj ⟨sm, us, hD2, lu, hu⟩ ⟨rfl, hx⟩
        obtain ⟨o, rfl, ho⟩ : ∃ o : Int, x = .int o ∧ (1 ≤ o.natAbs ∧ o.natAbs ≤ 26) := by
          have hm := List.mem_of_getElem? hx
          simp only [List.mem_cons, List.mem_nil_iff, or_false] at hm
          rcases hm with rfl | rfl | rfl | rfl
          · exact ⟨_, rfl, by decide⟩
          · exact ⟨_, rfl, by decide⟩
          · exact ⟨_, rfl, by decide⟩
          · exact ⟨_, rfl, by decide⟩
        have hj4 : j < 4 := hj
        refine ⟨rfl, ?_⟩
        refine ⟨_, rfl, _, rfl, _, rfl, rfl, _, rfl, ?_⟩
        refine ite2 (fun _ => ?_) (fun _ => ⟨sm, us, hD2, by omega, hu⟩)
        refine ⟨_, rfl, _, rfl, by show 2 ≤ sizeLine; decide, fun q hq => ?_⟩
        have sq := same_upd (o := .lst [.int z, .int o]) hq
        have hDq := sq _ _ hD2
        have nqD : q ≠ D := (ne_of_none hD2 hq).symm
        have nqw : q ≠ w_ := (ne_of_none (sm _ _ hw9) hq).symm
        refine ⟨us, hDq, Evl.sz_lt (by omega), fun b o' e => ?_, us ++ [.ref q], upd_same, by rw [List.length_append]; show _ + 1 ≤ _; omega, fun v hv2 => ?_⟩
        · rw [upd_ne (ne_of_none e hD)]
          exact sq _ _ (sm _ _ e)
        · rcases List.mem_append.mp hv2 with hv2 | hv2
          · exact ((hu v hv2).same sq).put (by simp)
          · rw [List.mem_singleton.mp hv2]
            refine ⟨q, [z, o], rfl, ?_, ?_, by show 2 ≤ 2; decide, ?_⟩
            · simp [nqD, nqw]
            · rw [upd_ne nqD, upd_same]
              rfl
            · intro x hx
              simp only [List.mem_cons, List.mem_nil_iff, or_false] at hx
              rcases hx with rfl | rfl
              · exact hz
              · exact ho
      · rintro H10 ⟨sm, us, hD2, lu, hu⟩
        have lu4 : us.length ≤ 4 := lu
        have hw10 := sm _ _ hw9
        refine ⟨q2, D, _, _, rfl, rfl, (s9.trans sm) _ _ g8, hD2, Evl.sz_of (by show 1 + us.length ≤ _; omega), fun p hp => ?_⟩
        have sp := same_upd (o := .lst ([.ref q1] ++ us)) hp
        have S := (s69.trans sm).trans sp
        have hwp := sp _ _ hw10
        have hHp := hH6.same S
        have tp := t6.ext S
        have hTp := S _ _ hT6
        refine ⟨w_, p, vs, _, rfl, rfl, hwp, upd_same, Evl.sz_of (by rw [List.length_append]; show vs.length + (1 + us.length) ≤ _; omega), ?_⟩
        refine ⟨⟨_, rfl⟩, hHp.off wa wc, tabs_put hwp tp, by rw [upd_ne Tw]; exact hTp, _, upd_same, by rw [List.length_append, List.length_append]; show vs.length + (1 + us.length) ≤ _; omega, fun v hv2 => ?_⟩
        refine WL.put ?_ (List.mem_singleton.mpr rfl)
        rcases List.mem_append.mp hv2 with hv2 | hv2
        · exact (hv v hv2).same S
        · rcases List.mem_append.mp hv2 with hv2 | hv2
          · rw [List.mem_singleton.mp hv2]
            exact ⟨q1, [z], rfl, (fun e => q1w (List.mem_singleton.mp e)), (((s8.trans s9).trans sm).trans sp) _ _ g7, by show 1 ≤ 2; decide, fun x hx => by rw [List.mem_singleton.mp hx]; exact hz⟩
          · exact ((hu v hv2).same sp).sub (by simp)
    rintro σ H6 ⟨⟨v4, rfl⟩, hH6, t6, hT6, vs, hw6, lv, hv⟩
    have lv17 : vs.length ≤ 21 := lv
    clear e3 e4 e5 g3 s3 s4 g4 s5 g5 hT0 Tw new4
    -- each two of them
    refine ⟨_, rfl, w_, rfl, ⟨_, SqL.of hw6⟩, for_list (K := K) (a := w_) (xs := vs) (fun i σ H' => (∃ v5 : Option V, σ = [some (.ref a), some (.ref h), v2, some (.ref w_), v4, v5, none, none]) ∧ Same H6 H') ⟨⟨none, rfl⟩, Same.refl _⟩ (fun i σ H1 _ q => SqL.of (q.2 _ _ hw6)) ?_ ?_⟩
    · rintro i x σ H7 hi ⟨⟨v5, rfl⟩, sm⟩
      obtain ⟨q, n1, rfl, _, hq, l1, L1⟩ := hv x (List.mem_of_getElem? hi)
      have hw7 := sm _ _ hw6
      refine at_set ?_
      try dsimp only
      refine ifs_lc ?_
      refine ⟨_, rfl, w_, rfl, ⟨_, SqL.of hw7⟩, fun D hD => lc_it (walk_list (K := K) (a := w_) (xs := vs)) (fun j H' => Same H7 H' ∧ H' D = some (.lst [])) ⟨same_upd hD, upd_same⟩ (fun j H' _ q => SqL.of (q.1 _ _ hw7)) ?_ ?_⟩
      · rintro j y H8 _ hj ⟨sm8, hD8⟩ ⟨rfl, hy⟩
        obtain ⟨q2, n2, rfl, _, hq2, l2, L2⟩ := hv y (List.mem_of_getElem? hy)
        refine ⟨rfl, ?_⟩
        refine ⟨_, rfl, _, rfl, q, q2, n1, n2, rfl, (sm.trans sm8) _ _ hq, (sm.trans sm8) _ _ hq2, by omega, by omega, L1, L2, fun H9 s9 => ⟨_, rfl, ?_⟩⟩
        exact iteF ⟨sm8.trans s9, s9 _ _ hD8⟩
      · rintro H8 ⟨sm8, hD8⟩
        refine ⟨Nat.zero_le _, fun l hl => ?_⟩
        have sl := same_upd (o := .lst []) hl
        refine ⟨_, _, .lst (SqL.of (sl _ _ hD8)) .nil, .lst (SqL.of upd_same) .nil, rfl, rfl, _, rfl, ?_⟩
        refine no_ne (by rfl) ?_
        exact ⟨⟨_, rfl⟩, (sm.trans sm8).trans sl⟩
    rintro σ H7 ⟨⟨v5, rfl⟩, sm7⟩
    have hH7 := hH6.same sm7
    have t7 := t6.ext sm7
    clear hv hw6 hT6 hH6 t6
    -- what is no word
    refine ⟨_, rfl, by show 2 ≤ sizeLine; decide, fun l1 hl1 => ⟨Nat.zero_le _, fun u1 hu1 => ⟨by show 6 ≤ sizeLine; decide, fun O hO => ?_⟩⟩⟩
    have sA := same_upd (o := .lst [.int 1, .int 1]) hl1
    have sB := same_upd (o := .tup []) hu1
    have gl := sB _ _ (upd_same (H := H7) (a := l1) (o := .lst [.int 1, .int 1]))
    have sC := same_upd (o := .lst [.non, .int 5, .str "a a", .ref l1, .ref u1, .bl true]) hO
    have gl2 := sC _ _ gl
    have gu2 := sC _ _ (upd_same (a := u1) (o := .tup []))
    have s7c := (sA.trans sB).trans sC
    have hHc := hH7.same s7c
    have tc := t7.ext s7c
    have l1h := hH7.ne hl1
    have u1h := (hH7.same sA).ne hu1
    have Oh := (hH7.same (sA.trans sB)).ne hO
    refine ⟨h, c, O, _, 480, rfl, hHc, by omega, Oh, upd_same, by show 0 < 6; decide, by show 6 ≤ 1000; decide, fun v hv H8 d8 => ?_⟩
    have t8 := d8.tabs hHc tc
    have gl8 := d8.2 _ _ l1h gl2
    have gu8 := d8.2 _ _ u1h gu2
    try dsimp only
    refine at_set ?_
    try dsimp only
    refine ⟨t8, fun H9 x9 _ R hR => ?_⟩
    have odd : IsW K C H9 v false := by
      simp only [List.mem_cons, List.mem_nil_iff, or_false] at hv
      rcases hv with rfl | rfl | rfl | rfl | rfl | rfl
      · exact ⟨_, .typ .non, XP.nN⟩
      · exact ⟨_, .typ (.int _), XP.nI⟩
      · exact ⟨_, .typ (.str _), XP.nS⟩
      · exact ⟨_, .typ (.lst (x9 _ _ gl8 fun ps z => by cases z)), XP.nL⟩
      · exact ⟨_, .typ (.tup (x9 _ _ gu8 fun ps z => by cases z)), XP.nT⟩
      · exact ⟨_, .typ (.bl _), XP.nB⟩
    refine ⟨_, rfl, v, rfl, .inl ⟨odd, fun H10 s10 d hd => ⟨rfl, d, .str "word", rfl, upd_same, fun ea hea t ht => ?_⟩⟩⟩
    have gt : L2.upd (L2.upd (L2.upd H10 d (.xd [(("part" : Str), .str "word")])) ea (CK.exk ea (.ref CB) (some d))) t (.tup [.str "word", .str "word"]) t = some (.tup [.str "word", .str "word"]) := upd_same
    obtain ⟨H11, e11⟩ : ∃ H11, H11 = L2.upd (L2.upd (L2.upd H10 d (.xd [(("part" : Str), .str "word")])) ea (CK.exk ea (.ref CB) (some d))) t (.tup [.str "word", .str "word"]) := ⟨_, rfl⟩
    rw [← e11] at gt ⊢
    refine ⟨by show 2 ≤ sizeLine; decide, fun t2 ht2 => ?_⟩
    have s12 := same_upd (o := .tup [.str "word", .str "word"]) ht2
    refine ⟨.tuple [.str "word", .str "word"], .tuple [.str "word", .str "word"], .tup (SqT.of (s12 _ _ gt)) (.cons (.str _) (.cons (.str _) .nil)), .tup (SqT.of upd_same) (.cons (.str _) (.cons (.str _) .nil)), by decide +kernel, by decide +kernel, _, rfl, ?_⟩
    refine no_ne (by decide +kernel) ?_
    -- the empty word
    refine ⟨Nat.zero_le _, fun m1 hm1 x1 dx1 nx1 ndx1 _ => make_at (ms := []) nx1 ndx1 (.inl (SqL.of upd_same)) (by simp) (fun _ h => nomatch h) fun I1 f1 W1 => ?_⟩
    refine ⟨.ref x1, rfl, .inr ⟨x1, [], rfl, W1, by simp, (fun _ h => nomatch h), fun z e => ?_, fun e => by rw [r0] at e; cases e⟩⟩
    rw [r0] at e
    obtain rfl := Option.some.inj e
    intro y1 I2 f2 V1
    refine ⟨Nat.zero_le _, fun m2 hm2 x2 dx2 nx2 ndx2 _ => make_at (ms := []) nx2 ndx2 (.inl (SqL.of upd_same)) (by simp) (fun _ h => nomatch h) fun I3 f3 W2 => ?_⟩
    refine ⟨y1, x2, [], [], rfl, rfl, (V1.same (same_upd hm2)).same f3, W2, _, rfl, ?_⟩
    refine no_ne (decide_eq_true rfl) ?_
    -- two that leave nothing
    refine ⟨_, rfl, by show 2 ≤ sizeLine; decide, fun m3 hm3 x3 dx3 nx3 ndx3 _ => make_at (ms := [1, -1]) nx3 ndx3 (.inl (SqL.of upd_same)) (by decide) (fun z hz => by simp only [List.mem_cons, List.mem_nil_iff, or_false] at hz; rcases hz with rfl | rfl <;> decide) fun I4 f4 W3 => ?_⟩
    refine ⟨.ref x3, rfl, .inr ⟨x3, [1, -1], rfl, W3, by decide, (fun z hz => by simp only [List.mem_cons, List.mem_nil_iff, or_false] at hz; rcases hz with rfl | rfl <;> decide), fun z e => ?_, fun e => by rw [r1] at e; cases e⟩⟩
    rw [r1] at e
    obtain rfl := Option.some.inj e
    intro y3 I5 f5 V3
    refine ⟨Nat.zero_le _, fun m4 hm4 x4 dx4 nx4 ndx4 _ => make_at (ms := []) nx4 ndx4 (.inl (SqL.of upd_same)) (by simp) (fun _ h => nomatch h) fun I6 f6 W4 => ?_⟩
    refine ⟨y3, x4, [], [], rfl, rfl, (V3.same (same_upd hm4)).same f6, W4, _, rfl, ?_⟩
    refine iteT' (decide_eq_true rfl) ?_
    -- no squares
    refine ⟨by show 4 ≤ sizeLine; decide, fun m5 hm5 x5 dx5 nx5 ndx5 _ => make_at (ms := [1, 1, 2, 2]) nx5 ndx5 (.inl (SqL.of upd_same)) (by decide) (fun z hz => by simp only [List.mem_cons, List.mem_nil_iff, or_false] at hz; rcases hz with rfl | rfl | rfl | rfl <;> decide) fun I7 f7 W5 => ?_⟩
    refine ⟨.ref x5, rfl, .inr ⟨x5, [1, 1, 2, 2], rfl, W5, by decide, (fun z hz => by simp only [List.mem_cons, List.mem_nil_iff, or_false] at hz; rcases hz with rfl | rfl | rfl | rfl <;> decide), fun z e => (by rw [r2] at e; cases e), fun _ I8 f8 => ?_⟩⟩
    refine ⟨rfl, _, rfl, iteT' (decide_eq_true rfl) ?_⟩
    refine ⟨by show 1 ≤ sizeLine; decide, fun m6 hm6 x6 dx6 nx6 ndx6 _ => make_at (ms := [1]) nx6 ndx6 (.inl (SqL.of upd_same)) (by decide) (fun z hz => by rw [List.mem_singleton.mp hz]; decide) fun I9 f9 W6 => ?_⟩
    refine ⟨.ref x6, rfl, .inr ⟨x6, [1], rfl, W6, by decide, (fun z hz => by rw [List.mem_singleton.mp hz]; decide), fun z e => (by rw [r3] at e; cases e), fun _ IA fA => ?_⟩⟩
    refine ⟨rfl, ?_⟩
    rw [decide_eq_true rfl]
    exact k _
end
end W55
set_option Elab.async false
set_option linter.all false
set_option maxRecDepth 100000
set_option maxHeartbeats 1000000
namespace W55
open PySem L2 PySem.Spec PyProof.Rows WR
/-! ### what the top has written -/
structure FF (K : PySem.W.Frag) (mg : Str → Option Value) (x : Str) (st : Stmt) : Prop where
  ex : ∃ (f : Addr) (oc : Value) (od : Option Addr) (kV doc pm cdv ct : Value) (an : Option Addr) (osl : Array (Option Value)),
    K.lookup f = some ⟨oc, od, .func (PySem.W.fnOf x x (defArgs st) (defBody st) (defScope st) .none kV doc pm an cdv ct), osl⟩ ∧ PySem.W.codeIn K cdv x = true ∧ PySem.W.keepIn K (.ref f) = true ∧ mg x = some (.ref f)
theorem ff_mk {K : PySem.W.Frag} {mg : Str → Option Value} {h : Heap} {x : Str} {st : Stmt} {f : Addr} {oc : Value} {od an : Option Addr} {kV doc pm cdv ct : Value} {osl : Array (Option Value)} (X : K.In h) (G : h.Ns mainGlobals mg)
    (a : PySem.W.nsIn K mainGlobals x = some (some (.ref f))) (l : K.lookup f = some ⟨oc, od, .func (PySem.W.fnOf x x (defArgs st) (defBody st) (defScope st) .none kV doc pm an cdv ct), osl⟩) (c : PySem.W.codeIn K cdv x = true) (k : PySem.W.keepIn K (.ref f) = true) : FF K mg x st :=
  ⟨f, oc, od, kV, doc, pm, cdv, ct, an, osl, l, c, k, PySem.W.mg_of X G a⟩
/-- a def in the class's body, held by the class -/
structure FM (K : PySem.W.Frag) (C : Addr) (m q : Str) (st : Stmt) : Prop where
  ex : ∃ (f : Addr) (oc : Value) (od : Option Addr) (kV doc pm cdv ct : Value) (an : Option Addr) (osl : Array (Option Value)),
    PySem.W.findIn K (.ref C) m = some (some (.ref f)) ∧ PySem.W.isFn K (.ref f) = true ∧
    K.lookup f = some ⟨oc, od, .func (PySem.W.fnOf m q (defArgs st) (defBody st) (defScope st) .none kV doc pm an cdv ct), osl⟩ ∧ PySem.W.codeIn K cdv q = true ∧ PySem.W.keepIn K (.ref f) = true
theorem fm_mk {K : PySem.W.Frag} {C : Addr} {m q : Str} {st : Stmt} {f : Addr} {oc : Value} {od an : Option Addr} {kV doc pm cdv ct : Value} {osl : Array (Option Value)}
    (a : PySem.W.findIn K (.ref C) m = some (some (.ref f))) (i : PySem.W.isFn K (.ref f) = true) (l : K.lookup f = some ⟨oc, od, .func (PySem.W.fnOf m q (defArgs st) (defBody st) (defScope st) .none kV doc pm an cdv ct), osl⟩) (c : PySem.W.codeIn K cdv q = true) (k : PySem.W.keepIn K (.ref f) = true) : FM K C m q st :=
  ⟨f, oc, od, kV, doc, pm, cdv, ct, an, osl, a, i, l, c, k⟩
section
variable {P : Program} {w : World} {K : PySem.W.Frag} {mg : Str → Option Value} {base : Heap} {x m q : Str} {C : Addr} {st : Stmt} {k : Nat} {ps ks : List Str} {sp : Sp}
theorem FF.cal (F : FF K mg x st) (ok : ∀ f fd, Fun K x x st f fd → FnOk P w K mg base CX0 k f fd ps sp)
    (hb : ∀ (kV doc pm : Value) (an : Option Addr) (cdv ct : Value) (us : List Value), us.length = ps.length → bindArgs (PySem.W.fnOf x x (defArgs st) (defBody st) (defScope st) .none kV doc pm an cdv ct) ⟨us, []⟩ = pure (ps.zip us)) : Cal P w K mg base x k ps sp := by
  obtain ⟨f, oc, od, kV, doc, pm, cdv, ct, an, osl, l, c, kp, m⟩ := F.ex
  exact ⟨f, _, ok f _ (fun_mk l c kp), m, kp, (fun_mk l c kp).binds hb⟩
theorem FM.meth (F : FM K C m q st) (ok : ∀ f fd, Fun K m q st f fd → FnOk P w K mg base CX0 6 f fd ps sp)
    (hb : ∀ (kV doc pm : Value) (an : Option Addr) (cdv ct : Value) (us : List Value), us.length = ps.length → bindArgs (PySem.W.fnOf m q (defArgs st) (defBody st) (defScope st) .none kV doc pm an cdv ct) ⟨us, []⟩ = pure (ps.zip us)) : MethW P w K mg base C m ps sp := by
  obtain ⟨f, oc, od, kV, doc, pm, cdv, ct, an, osl, a, i, l, c, kp⟩ := F.ex
  exact ⟨f, _, ⟨a, i, kp⟩, ok f _ (fun_mk l c kp), (fun_mk l c kp).binds hb⟩
theorem FF.calX (F : FF K mg x st) (ok : ∀ f fd, Fun K x x st f fd → FnOk P w K mg base (L2.CX P w) k f fd ps sp)
    (hb : ∀ (kV doc pm : Value) (an : Option Addr) (cdv ct : Value) (us : List Value), us.length = ps.length → bindArgs (PySem.W.fnOf x x (defArgs st) (defBody st) (defScope st) .none kV doc pm an cdv ct) ⟨us, []⟩ = pure (ps.zip us)) : CalX P w K mg base x k ps sp := by
  obtain ⟨f, oc, od, kV, doc, pm, cdv, ct, an, osl, l, c, kp, m⟩ := F.ex
  exact ⟨f, _, ok f _ (fun_mk l c kp), m, kp, (fun_mk l c kp).binds hb⟩
theorem FF.calKX (F : FF K mg x st) (g : List Value → List Value) (gV : List V → List V) (ok : ∀ f fd, Fun K x x st f fd → FnOk P w K mg base (L2.CX P w) k f fd ps sp)
    (hb : ∀ (kV doc pm : Value) (an : Option Addr) (cdv ct : Value) (ws : List Value), ws.length = ks.length → bindArgs (PySem.W.fnOf x x (defArgs st) (defBody st) (defScope st) .none kV doc pm an cdv ct) ⟨[], ks.zip ws⟩ = pure (ps.zip (g ws)))
    (hr : ∀ {zs : List V} {ws : List Value}, Vals zs ws → Vals (gV zs) (g ws)) : CalKX P w K mg base x k ps ks gV sp := by
  obtain ⟨f, oc, od, kV, doc, pm, cdv, ct, an, osl, l, c, kp, m⟩ := F.ex
  refine ⟨f, _, g, ok f _ (fun_mk l c kp), m, kp, ⟨fun s us ws _ h0 h1 => ?_, fun _ r => hr r⟩⟩
  obtain rfl : us = [] := List.length_eq_zero_iff.mp h0
  exact .of_eq (hb kV doc pm an cdv ct ws h1)
end
structure Names (mg : Str → Option Value) : Prop where
  isinstance : mg "isinstance" = none
  int : mg "int" = none
  bool : mg "bool" = none
  str : mg "str" = none
  list : mg "list" = none
  tuple : mg "tuple" = none
  all : mg "all" = none
  len : mg "len" = none
  abs : mg "abs" = none
  range : mg "range" = none
  sorted : mg "sorted" = none
  kind : ∃ t, mg "MOST_KIND" = some (.int 26 t)
  most : ∃ t, mg "MOST_LETTERS" = some (.int 500 t)
structure Defs (K : PySem.W.Frag) (mg : Str → Option Value) (C : Addr) : Prop where
  d_sIsInt : FF K mg "is_integer" sIsInt
  d_sWithin : FF K mg "is_within" sWithin
  d_sLetter : FF K mg "is_letter" sLetter
  d_sListed : FF K mg "is_listed" sListed
  d_sCon : FF K mg "contrary_letters" sCon
  d_sShr : FF K mg "shortened_letters" sShr
  d_sRnd : FF K mg "rounded_letters" sRnd
  d_sKinds : FF K mg "kinds_of" sKinds
  d_sFew : FF K mg "need_few_letters" sFew
  d_sNeedW : FF K mg "need_word" sNeedW
  d_sNeedI : FF K mg "need_integer" sNeedI
  d_sNeed2 : FF K mg "need_two_words" sNeed2
  d_sSides : FF K mg "ends_and_ring" sSides
  d_sAsSq : FF K mg "as_square" sAsSq
  d_sPast : FF K mg "go_past" sPast
  d_sJar : FF K mg "_law_pen" sJar
  d_sDraw : FF K mg "_law_draw" sDraw
  d_sPick : FF K mg "_law_pick" sPick
  d_sConL : FF K mg "_law_contrary" sConL
  d_sShL : FF K mg "_law_short" sShL
  d_sWord : FF K mg "_law_word" sWord
  d_sHeard : FF K mg "_law_heard" sHeard
  d_sDue : FF K mg "_law_due" sDue
  d_sTold : FF K mg "_law_told_right" sTold
  d_sSquares : FF K mg "_law_squares_right" sSquares
  d_sTwo : FF K mg "_law_two_right" sTwo
  d_sPowers : FF K mg "_law_powers_right" sPowers
  m_sInit : FM K C "__init__" "Word.__init__" sInit
  m_sEq : FM K C "__eq__" "Word.__eq__" sEq
  m_sShort : FM K C "shortened" "Word.shortened" sShort
  m_sThen : FM K C "then" "Word.then" sThen
  m_sTimes : FM K C "times" "Word.times" sTimes
/-- what is to be known of the class -/
structure ClsW (K : PySem.W.Frag) (mg : Str → Option Value) (C : Addr) : Prop where
  cl : Cls K C
  nL : NoAttr K C "letters"
  nN : NoAttr K C "length"
  nK : NoAttr K C "kinds"
  nS : NoAttr K C "is_short"
  nR : NoAttr K C "is_short_round"
  ca : PySem.W.findIn K (.ref C) "__class__" = some (some (.builtin "object.__class__"))
  cn : PySem.W.specialIn K (.builtin "object.__class__") "__get__" = some (some (.builtin "getset_descriptor.__get__"))
  ct : PySem.W.takesIn K (.builtin "object.__class__") = some true
  cm : PySem.W.mroIn K C (.type "object") = some true
  ne : PySem.W.findIn K (.ref C) "__ne__" = some (some (.builtin "object.__ne__"))
  mks : PySem.W.makesIn K C = true
  kc : PySem.W.keepIn K (.ref C) = true
  mgW : mg "Word" = some (.ref C)
/-- what is to be known of an error's class -/
structure ErrW (K : PySem.W.Frag) (mg : Str → Option Value) (C : Addr) (x q : Str) (st : Stmt) : Prop where
  oex : OexC K C
  xf : XfC K C
  ini : FM K C "__init__" q st
  ty : ∀ f : Addr, PySem.W.findIn K (.ref C) "__init__" = some (some (.ref f)) → PySem.W.typeIn K (.ref f) = some (.type "function")
  g : mg x = some (.ref C)
  te : PySem.W.exmOne K (.ref C) (.ref C) = some true
theorem law_mk {P : Program} {w : World} {K : PySem.W.Frag} {mg : Str → Option Value} {base : Heap} {C CB CH fL cL P1 : Addr} {fdL : FuncData} (N : Names mg) (D : Defs K mg C) (W : ClsW K mg C) (X : TxP K C) (ZB : ErrW K mg CB "BadWord" "BadWord.__init__" sInitB) (Z : One K mg CB CH)
    (FL : FunC K "law" sLaw fL cL fdL) (TL : LamX.TabB base mg cL P1) : FnOk P w K mg base CX0 10 fL fdL ["_law_script"] (spLaw K [(P1, qLaw)]) := by
  have tA : TxA mg := ⟨N.tuple, N.len⟩
  have tB : TxB mg := ⟨N.sorted, N.abs⟩
  have tC : TxC mg := ⟨N.kind, N.all⟩
  have tI : TxI mg := ⟨N.isinstance, N.int, N.bool, N.str, N.list, N.tuple⟩
  have tL : TxL mg := ⟨N.int, N.len, N.abs⟩
  have tN : TxN mg := ⟨N.range, N.list⟩
  have tW : TxW K mg C := ⟨W.cl, W.nL, W.nN, W.nK, W.nS, W.nR, W.ca, W.cn, W.ct, W.cm, W.mgW, N.most, N.isinstance, N.all⟩
  have EB : ErrC P w K mg base CB "BadWord" ["self", "part"] (spI1 CB) := by
    obtain ⟨f, oc, od, kV, doc, pm, cdv, ct, an, osl, a, i, l, c, kp⟩ := ZB.ini.ex
    exact ⟨ZB.oex, ⟨f, _, a, ZB.ty f a, ok_initB (fun_mk l c kp) ZB.oex Z.nB, (fun_mk l c kp).binds (fun _ _ _ _ _ _ us hl => match us, hl with | [_, _], _ => rfl)⟩, ZB.g, ZB.xf, ZB.te⟩
  have cInt : Cal P w K mg base "is_integer" 1 ["value"] spIsInt := D.d_sIsInt.cal (fun f fd F => ok_isInt F tI) (fun _ _ _ _ _ _ us hl => match us, hl with | [_], _ => rfl)
  have cWithin : Cal P w K mg base "is_within" 2 ["value", "least", "most"] spWithin := D.d_sWithin.cal (fun f fd F => ok_within F cInt) (fun _ _ _ _ _ _ us hl => match us, hl with | [_, _, _], _ => rfl)
  have cLetter : Cal P w K mg base "is_letter" 3 ["value"] spLetter := D.d_sLetter.cal (fun f fd F => ok_letter F cWithin tC) (fun _ _ _ _ _ _ us hl => match us, hl with | [_], _ => rfl)
  have cListE : Cal P w K mg base "is_listed" 1 ["value"] (spListE K) := D.d_sListed.cal (fun f fd F => ok_listE F tI) (fun _ _ _ _ _ _ us hl => match us, hl with | [_], _ => rfl)
  have cFew : Cal P w K mg base "need_few_letters" 1 ["many"] spFew := D.d_sFew.cal (fun f fd F => ok_few F tW) (fun _ _ _ _ _ _ us hl => match us, hl with | [_], _ => rfl)
  have cKinds : Cal P w K mg base "kinds_of" 1 ["letters"] (spKinds K) := D.d_sKinds.cal (fun f fd F => ok_kinds F tA tB) (fun _ _ _ _ _ _ us hl => match us, hl with | [_], _ => rfl)
  have cShr : Cal P w K mg base "shortened_letters" 1 ["letters"] (spShr K) := D.d_sShr.cal (fun f fd F => ok_shr F tA) (fun _ _ _ _ _ _ us hl => match us, hl with | [_], _ => rfl)
  have cRnd : Cal P w K mg base "rounded_letters" 2 ["letters"] (spRnd K) := D.d_sRnd.cal (fun f fd F => ok_rnd F cShr tA) (fun _ _ _ _ _ _ us hl => match us, hl with | [_], _ => rfl)
  have cCon : Cal P w K mg base "contrary_letters" 1 ["letters"] (spCon K) := D.d_sCon.cal (fun f fd F => ok_con F tA) (fun _ _ _ _ _ _ us hl => match us, hl with | [_], _ => rfl)
  have cNeedW : Cal P w K mg base "need_word" 1 ["value", "part"] (spNeedW K C) := D.d_sNeedW.cal (fun f fd F => ok_needW F tW) (fun _ _ _ _ _ _ us hl => match us, hl with | [_, _], _ => rfl)
  have cNeedWX : CalX P w K mg base "need_word" 3 ["value", "part"] (spNeedWX K C CB) := D.d_sNeedW.calX (fun f fd F => ok_needWX F tW EB) (fun _ _ _ _ _ _ us hl => match us, hl with | [_, _], _ => rfl)
  have cNeedI : Cal P w K mg base "need_integer" 2 ["value", "part"] spNeedI := D.d_sNeedI.cal (fun f fd F => ok_needI F cInt) (fun _ _ _ _ _ _ us hl => match us, hl with | [_, _], _ => rfl)
  have cNeed2 : Cal P w K mg base "need_two_words" 2 ["one", "other"] (spNeed2 K C) := D.d_sNeed2.cal (fun f fd F => ok_need2 F cNeedW) (fun _ _ _ _ _ _ us hl => match us, hl with | [_, _], _ => rfl)
  have cSides : Cal P w K mg base "ends_and_ring" 3 ["letters"] (spSides K) := D.d_sSides.cal (fun f fd F => ok_sides F tA cRnd) (fun _ _ _ _ _ _ us hl => match us, hl with | [_], _ => rfl)
  have mW : MkW P w K mg base C := by
    obtain ⟨f, oc, od, kV, doc, pm, cdv, ct, an, osl, a, i, l, c, kp⟩ := D.m_sInit.ex
    exact ⟨f, _, ⟨W.mks, a, i, W.kc⟩, ok_init (fun_mk l c kp) tW tA cListE cLetter cFew cKinds cShr cRnd, (fun_mk l c kp).binds (fun _ _ _ _ _ _ us hl => match us, hl with | [_, _], _ => rfl)⟩
  have eW : EqW P w K mg base C := by
    obtain ⟨f, oc, od, kV, doc, pm, cdv, ct, an, osl, a, i, l, c, kp⟩ := D.m_sEq.ex
    exact ⟨f, _, ok_eq (fun_mk l c kp) tW, a, i, (fun_mk l c kp).binds (fun _ _ _ _ _ _ us hl => match us, hl with | [_, _], _ => rfl)⟩
  have aQ : AllQ P w K mg base C CB := {
    asq := D.d_sAsSq.calX (fun f fd F => ok_asSq F tA tW mW cNeedWX cShr cSides cCon) (fun _ _ _ _ _ _ us hl => match us, hl with | [_], _ => rfl)
    asqK := D.d_sAsSq.calKX id id (fun f fd F => ok_asSq F tA tW mW cNeedWX cShr cSides cCon) (fun _ _ _ _ _ _ us hl => match us, hl with | [_], _ => rfl) fun r => r
    past := D.d_sPast.cal (fun f fd F => ok_past F tW cNeed2 cShr) (fun _ _ _ _ _ _ us hl => match us, hl with | [_, _], _ => rfl)
    sht := D.m_sShort.meth (fun f fd F => ok_shortened F tW mW cShr) (fun _ _ _ _ _ _ us hl => match us, hl with | [_], _ => rfl)
    thn := D.m_sThen.meth (fun f fd F => ok_then F tW mW cNeedW) (fun _ _ _ _ _ _ us hl => match us, hl with | [_, _], _ => rfl)
    tms := D.m_sTimes.meth (fun f fd F => ok_times F tW tB mW cNeedI cFew cCon) (fun _ _ _ _ _ _ us hl => match us, hl with | [_, _], _ => rfl)
    mkw := mW
    eq := eW }
  have cPen : Cal P w K mg base "_law_pen" 1 ["_law_script"] (spHand K) := D.d_sJar.cal (fun f fd F => ok_hand F tL) (fun _ _ _ _ _ _ us hl => match us, hl with | [_], _ => rfl)
  have cDraw : Cal P w K mg base "_law_draw" 1 ["_law_pen_here", "_law_many"] spTake := D.d_sDraw.cal (fun f fd F => ok_take F tL) (fun _ _ _ _ _ _ us hl => match us, hl with | [_, _], _ => rfl)
  have cPick : Cal P w K mg base "_law_pick" 2 ["_law_pen_here", "_law_some"] spPick := D.d_sPick.cal (fun f fd F => ok_pick F cDraw tL) (fun _ _ _ _ _ _ us hl => match us, hl with | [_, _], _ => rfl)
  have cConL : Cal P w K mg base "_law_contrary" 1 ["_law_letters"] spConL := D.d_sConL.cal (fun f fd F => ok_conL F) (fun _ _ _ _ _ _ us hl => match us, hl with | [_], _ => rfl)
  have cShL : Cal P w K mg base "_law_short" 1 ["_law_letters"] spShL := D.d_sShL.cal (fun f fd F => ok_shL F) (fun _ _ _ _ _ _ us hl => match us, hl with | [_], _ => rfl)
  have cWord : Cal P w K mg base "_law_word" 3 ["_law_pen_here", "_law_most", "_law_kinds"] spWord := D.d_sWord.cal (fun f fd F => ok_word F cDraw cPick tN) (fun _ _ _ _ _ _ us hl => match us, hl with | [_, _, _], _ => rfl)
  have cDue : Cal P w K mg base "_law_due" 2 ["_law_letters"] spDue := D.d_sDue.cal (fun f fd F => ok_due F cShL tA tN) (fun _ _ _ _ _ _ us hl => match us, hl with | [_], _ => rfl)
  have cTold : Cal P w K mg base "_law_told_right" 8 ["_law_letters"] spTold := D.d_sTold.cal (fun f fd F => ok_told F tW tN aQ cDue) (fun _ _ _ _ _ _ us hl => match us, hl with | [_], _ => rfl)
  have cTwo : Cal P w K mg base "_law_two_right" 8 ["_law_one", "_law_other"] spTwo := D.d_sTwo.cal (fun f fd F => ok_two F tW tN aQ cShL cDue) (fun _ _ _ _ _ _ us hl => match us, hl with | [_, _], _ => rfl)
  have cSqs : Cal P w K mg base "_law_squares_right" 9 ["_law_pen_here"] (spPenB 38) := D.d_sSquares.cal (fun f fd F => ok_squares F tW tA tN aQ cDraw cPick cWord cShL cConL cTold) (fun _ _ _ _ _ _ us hl => match us, hl with | [_], _ => rfl)
  have cPows : Cal P w K mg base "_law_powers_right" 9 ["_law_pen_here"] (spPenB 11) := D.d_sPowers.cal (fun f fd F => ok_powers F tW tN aQ cDraw cWord cTwo) (fun _ _ _ _ _ _ us hl => match us, hl with | [_], _ => rfl)
  obtain ⟨g, oc, od, kV, doc, pm, cdv, ct, an, osl, lg, cg, kg, mg1⟩ := D.d_sHeard.ex
  have hG : HearK K mg g := ⟨mg1, kg, ⟨oc, od, kV, doc, pm, cdv, ct, an, osl, lg, cg⟩⟩
  have u1 : ∀ p ∈ [(P1, qLaw)], p.1 = P1 → p.2 = qLaw := by
    intro p hp _
    rw [List.mem_singleton.mp hp]
  exact ok_law FL tW tN X aQ W.ne { pen := cPen, pick := cPick, word := cWord, told := cTold, two := cTwo, sqs := cSqs, pows := cPows } EB Z hG TL List.mem_cons_self u1
end W55
set_option Elab.async false
set_option linter.all false
set_option maxRecDepth 100000
set_option maxHeartbeats 1000000
namespace W55
open PySem L2 PySem.Spec PyProof.Rows WR
theorem exm_two {K : PySem.W.Frag} {S U : Addr} {b : Bool} (g1 : PySem.W.subIn K (.ref U) (.type "BaseException") = some true) (g2 : PySem.W.isClsIn K U = true) (g3 : PySem.W.typeIn K (.ref U) = some (.type "type")) (h4 : PySem.W.subIn K (.ref S) (.ref U) = some b) :
    PySem.W.exmOne K (.ref S) (.ref U) = some b := by
  have e1 : (PySem.W.subIn K (.ref U) (.type "BaseException") == some true) = true := by rw [g1] <;> rfl
  have e2 : ((PySem.W.clsIn K U).isSome && PySem.W.typeIn K (.ref U) == some (.type "type")) = true := by
    have h2' : (PySem.W.clsIn K U).isSome = true := g2
    rw [h2', g3] <;> rfl
  show (if (PySem.W.subIn K (.ref U) (.type "BaseException") == some true) = true then (if ((PySem.W.clsIn K U).isSome && PySem.W.typeIn K (.ref U) == some (.type "type")) = true then PySem.W.subIn K (.ref S) (.ref U) else none) else none) = some b
  rw [if_pos e1, if_pos e2]
  exact h4
/-- the facts of an error's class -/
structure ErrF (K : PySem.W.Frag) (C : Addr) : Prop where
  oex : OexC K C
  xf : XfC K C
  sub : PySem.W.subIn K (.ref C) (.type "BaseException") = some true
  icl : PySem.W.isClsIn K C = true
  tyC : PySem.W.typeIn K (.ref C) = some (.type "type")
theorem err_mk {K : PySem.W.Frag} {h : Heap} {mg : Str → Option Value} {C f : Addr} {x q : Str} {st : Stmt} (X : K.In h) (G : h.Ns mainGlobals mg)
    {nm q2 : Str} {N : Addr} {bs bm : List Value} {sn : List Str} {sub : List Value} {ab : Bool} {col : Option Bool} {dd : Option Addr} {m0 m1 m2 m3 m5 : Option Value} {oc : Value} {od an : Option Addr} {kV doc pm cdv ct : Value} {osl : Array (Option Value)}
    (aC : PySem.W.nsIn K mainGlobals x = some (some (.ref C)))
    (xL : K.lookup C = some (excClassObj nm q2 C N bs bm true sn sub ab col dd m0 m1 m2 m3 m5 "ValueError.__new__")) (rv : PySem.HandSPX.refsVE bm = true)
    (sa : PySem.W.findIn K (.ref C) "__setattr__" = some (some (.builtin "object.__setattr__"))) (ga : PySem.W.findIn K (.ref C) "__getattribute__" = some (some (.builtin "BaseException.__getattribute__"))) (gg : PySem.W.findIn K (.ref C) "__getattr__" = some none)
    (i1 : PySem.W.findIn K (.ref C) "__init__" = some (some (.ref f))) (t1 : PySem.W.typeIn K (.ref f) = some (.type "function")) (fn : PySem.W.isFn K (.ref f) = true)
    (l1 : K.lookup f = some ⟨oc, od, .func (PySem.W.fnOf "__init__" q (defArgs st) (defBody st) (defScope st) .none kV doc pm an cdv ct), osl⟩) (c1 : PySem.W.codeIn K cdv q = true) (k1 : PySem.W.keepIn K (.ref f) = true)
    (kC : PySem.W.keepIn K (.ref C) = true) (eC : PySem.W.subIn K (.ref C) (.type "BaseException") = some true) (tC : PySem.W.typeIn K (.ref C) = some (.type "type")) (hC : PySem.W.hasDictIn K C = true) (iC : PySem.W.isClsIn K C = true) (sC : PySem.W.subIn K (.ref C) (.ref C) = some true) : ErrW K mg C x q st ∧ ErrF K C :=
  have O : OexC K C := ⟨⟨nm, q2, N, bs, bm, sn, sub, ab, col, dd, m0, m1, m2, m3, m5, xL, rv⟩, sa, eC, tC, kC⟩
  have F : XfC K C := ⟨ga, gg, eC, hC⟩
  ⟨⟨O, F, ⟨f, oc, od, kV, doc, pm, cdv, ct, an, osl, i1, fn, l1, c1, k1⟩, fun f' e => by
    rw [i1] at e
    cases e
    exact t1, PySem.W.mg_of X G aC, exm_two eC iC tC sC⟩, ⟨O, F, eC, iC, tC⟩⟩
theorem names_mk {K : PySem.W.Frag} {h : Heap} {mg : Str → Option Value} {u0 u1 : Tok} (X : K.In h) (G : h.Ns mainGlobals mg)
    (n0 : PySem.W.nsIn K mainGlobals "isinstance" = some none) (n1 : PySem.W.nsIn K mainGlobals "int" = some none) (n2 : PySem.W.nsIn K mainGlobals "bool" = some none) (n3 : PySem.W.nsIn K mainGlobals "str" = some none) (n4 : PySem.W.nsIn K mainGlobals "list" = some none) (n5 : PySem.W.nsIn K mainGlobals "tuple" = some none) (n6 : PySem.W.nsIn K mainGlobals "all" = some none) (n7 : PySem.W.nsIn K mainGlobals "len" = some none) (n8 : PySem.W.nsIn K mainGlobals "abs" = some none) (n9 : PySem.W.nsIn K mainGlobals "range" = some none) (n10 : PySem.W.nsIn K mainGlobals "sorted" = some none) (g0 : PySem.W.nsIn K mainGlobals "MOST_KIND" = some (some (.int 26 u0))) (g1 : PySem.W.nsIn K mainGlobals "MOST_LETTERS" = some (some (.int 500 u1))) : Names mg :=
  ⟨PySem.W.mg_none_of X G n0, PySem.W.mg_none_of X G n1, PySem.W.mg_none_of X G n2, PySem.W.mg_none_of X G n3, PySem.W.mg_none_of X G n4, PySem.W.mg_none_of X G n5, PySem.W.mg_none_of X G n6, PySem.W.mg_none_of X G n7, PySem.W.mg_none_of X G n8, PySem.W.mg_none_of X G n9, PySem.W.mg_none_of X G n10, ⟨_, PySem.W.mg_of X G g0⟩, ⟨_, PySem.W.mg_of X G g1⟩⟩
theorem cls_mk {K : PySem.W.Frag} {h : Heap} {mg : Str → Option Value} {C : Addr} (X : K.In h) (G : h.Ns mainGlobals mg)
    (aC : PySem.W.nsIn K mainGlobals "Word" = some (some (.ref C)))
    (pg : PySem.W.plainGet K C Str.empty = true) (hd : PySem.W.hasDictIn K C = true) (po : PySem.W.plainOver K C = true) (sa : PySem.W.findIn K (.ref C) "__setattr__" = some (some (.builtin "object.__setattr__")))
    (nL : PySem.W.findIn K (.ref C) "letters" = some none) (nN : PySem.W.findIn K (.ref C) "length" = some none) (nK : PySem.W.findIn K (.ref C) "kinds" = some none) (nS : PySem.W.findIn K (.ref C) "is_short" = some none) (nR : PySem.W.findIn K (.ref C) "is_short_round" = some none)
    (ca : PySem.W.findIn K (.ref C) "__class__" = some (some (.builtin "object.__class__")))
    (cn : PySem.W.specialIn K (.builtin "object.__class__") "__get__" = some (some (.builtin "getset_descriptor.__get__")))
    (ct : PySem.W.takesIn K (.builtin "object.__class__") = some true)
    (cm : PySem.W.mroIn K C (.type "object") = some true)
    (ne : PySem.W.findIn K (.ref C) "__ne__" = some (some (.builtin "object.__ne__")))
    (mk : PySem.W.makesIn K C = true) (kc : PySem.W.keepIn K (.ref C) = true) : ClsW K mg C :=
  ⟨⟨pg, hd, po, sa⟩, nL, nN, nK, nS, nR, ca, cn, ct, cm, ne, mk, kc, PySem.W.mg_of X G aC⟩
theorem at_mk {l : PySem.W.OpenLaw} {w : World} {K : PySem.W.Frag} {h : Heap} {mg : Str → Option Value} {fa P1 C CB CH : Addr} (X : K.In h) (G : h.Ns mainGlobals mg) (hfa : mg "law" = some (.ref fa)) (N : Names mg) (D : Defs K mg C) (W : ClsW K mg C) (XP : TxP K C)
    (EB : ErrW K mg CB "BadWord" "BadWord.__init__" sInitB ∧ ErrF K CB) (aH : PySem.W.nsIn K mainGlobals "HandleError" = some (some (.ref CH)))
    (h1 : PySem.W.subIn K (.ref CH) (.type "BaseException") = some true) (h2 : PySem.W.isClsIn K CH = true) (h3 : PySem.W.typeIn K (.ref CH) = some (.type "type")) (h4 : PySem.W.subIn K (.ref CB) (.ref CH) = some true)
    (z1 : PySem.W.findIn K (.ref CB) "part" = some none) (z2 : PySem.W.kitOne K (.type "NoneType") (.ref CB) = some false) (z3 : PySem.W.findIn K (.ref CB) "__class__" = some (some (.builtin "object.__class__"))) (z4 : PySem.W.mroIn K CB (.type "object") = some true)
    (c1 : PySem.W.specialIn K (.builtin "object.__class__") "__get__" = some (some (.builtin "getset_descriptor.__get__"))) (c2 : PySem.W.takesIn K (.builtin "object.__class__") = some true)
    (t1 : h.get? P1 = some { cls := .none, data := .fields #[] })
    {fL cL : Addr} {od2 an2 : Option Addr} {sl2 : Array (Option Value)} {oc2 kV2 dc2 pm2 ct2 : Value}
    (aL : PySem.W.nsIn K mainGlobals "law" = some (some (.ref fL))) (lL : K.lookup fL = some ⟨oc2, od2, .func (PySem.W.fnOf "law" "law" (defArgs sLaw) (defBody sLaw) (defScope sLaw) .none kV2 dc2 pm2 an2 (.ref cL) ct2), sl2⟩)
    (eL : PySem.W.codeIn K (.ref cL) "law" = true) (hL : PySem.W.codeHdIn K cL P1 = true) (nL : K.lookup P1 = none) : LamX.LawAtS l w K CX0 10 63 "_law_script" mg fa h := by
  have e := hfa.symm.trans (PySem.W.mg_of X G aL)
  cases e
  have Z : One K mg CB CH := ⟨PySem.W.mg_of X G aH, exm_two h1 h2 h3 h4, z1, z2, ⟨EB.2.xf.ga, EB.2.xf.gg, EB.2.sub, EB.2.xf.hdC, z3, c1, c2, z4⟩, N.isinstance⟩
  have two : ∀ {Z : Addr × Addr → Prop}, Z (cL, P1) → ∀ p ∈ [(cL, P1)], Z p := by
    intro Z h2 p hp
    rw [List.mem_singleton.mp hp]
    exact h2
  have FL : FunC K "law" sLaw fa cL _ := ⟨oc2, od2, kV2, dc2, pm2, an2, ct2, sl2, rfl, lL, eL⟩
  refine ⟨PySem.W.fnOf "law" "law" (defArgs sLaw) (defBody sLaw) (defScope sLaw) .none kV2 dc2 pm2 an2 (.ref cL) ct2, [(cL, P1)], spLaw K [(P1, qLaw)], two t1, two nL, two (PySem.W.codeHd_of_K X hL), fun s u => .of_eq rfl, ?_, fun base _ _ T => ?_⟩
  · intro H a ns hl _ hH hS
    refine ⟨a, ns, rfl, hS, hl, fun p hp => ?_, fun _ => rfl⟩
    rw [List.mem_singleton.mp hp]
    exact .nil (hH (cL, P1) List.mem_cons_self)
  · exact law_mk N D W XP EB.1 Z FL (T (cL, P1) List.mem_cons_self)
end W55

open PySem PySem.W PyProof.Rows in
set_option maxRecDepth 100000 in
set_option maxHeartbeats 0 in
theorem PySem.Challenge.cw_handlerims_k55_squares_of_words_and_what_holds : PySem.Challenge.rw_handlerims_k55_squares_of_words_and_what.Holds := by
  w_on; o_law; k_head; (case hw => w_witness2)
  k_fill
  refine LamX.walk_ofTs (l := PySem.Challenge.rw_handlerims_k55_squares_of_words_and_what) (n := 63) (k := 10) (CX := fun _ => L2.CX0) (x := "_law_script") rfl (by decide) rfl ⟨rfl, by decide, by decide⟩ (fun w h Y => PySem.W.km_in_of Y) ?F (fun _ _ _ _ _ z => z)
  case F =>
    intro w mg fa h Y KX G hmg
    have tabs := PySem.W.km_tabs_of Y
    have hlaw : mg "law" = some (.ref fa) := hmg
    clear hmg
    have hN : W55.Names mg := by
      refine' W55.names_mk KX G ?q_n0 ?q_n1 ?q_n2 ?q_n3 ?q_n4 ?q_n5 ?q_n6 ?q_n7 ?q_n8 ?q_n9 ?q_n10 ?q_g0 ?q_g1
      (case q_n0 => k_is)
      (case q_n1 => k_is)
      (case q_n2 => k_is)
      (case q_n3 => k_is)
      (case q_n4 => k_is)
      (case q_n5 => k_is)
      (case q_n6 => k_is)
      (case q_n7 => k_is)
      (case q_n8 => k_is)
      (case q_n9 => k_is)
      (case q_n10 => k_is)
      (case q_g0 => k_is)
      (case q_g1 => k_is)
    refine' W55.at_mk (P1 := 426) KX G hlaw hN ?q_D ?q_W ?q_XP ?q_EB ?q_aH ?q_bh1 ?q_bh2 ?q_bh3 ?q_bh4 ?q_z1 ?q_z2 ?q_z3 ?q_z4 ?q_bc1 ?q_bc2 (tabs 426 (by decide)) ?q_aL ?q_lL ?q_eL ?q_hL ?q_nZ
    case q_W =>
      refine' W55.cls_mk KX G ?q_aC ?q_pg ?q_hd ?q_po ?q_sa ?q_nL ?q_nN ?q_nK ?q_nS ?q_nR ?q_ca ?q_cn ?q_ct ?q_cm ?q_ne ?q_mk ?q_kc
      (case q_aC => k_is)
      (case q_pg => k_is)
      (case q_hd => k_is)
      (case q_po => k_is)
      (case q_sa => k_is)
      (case q_nL => k_is)
      (case q_nN => k_is)
      (case q_nK => k_is)
      (case q_nS => k_is)
      (case q_nR => k_is)
      (case q_ca => k_is)
      (case q_cn => k_is)
      (case q_ct => k_is)
      (case q_cm => k_is)
      (case q_ne => k_is)
      (case q_mk => k_is)
      (case q_kc => k_is)
    case q_EB =>
      refine' W55.err_mk KX G ?q_aC ?q_xL ?q_rv ?q_sa ?q_ga ?q_gg ?q_i1 ?q_t1 ?q_fn ?q_l1 ?q_c1 ?q_k1 ?q_kC ?q_eC ?q_tC ?q_hC ?q_iC ?q_sC
      (case q_aC => k_is); (case q_xL => k_is); (case q_rv => decide +kernel); (case q_sa => k_is); (case q_ga => k_is); (case q_gg => k_is); (case q_i1 => k_is); (case q_t1 => k_is); (case q_fn => k_is); (case q_l1 => k_is); (case q_c1 => k_is); (case q_k1 => k_is); (case q_kC => k_is); (case q_eC => k_is); (case q_tC => k_is); (case q_hC => k_is); (case q_iC => k_is); (case q_sC => first | rfl | k_is)
    case q_D =>
      refine' { d_sIsInt := W55.ff_mk KX G ?q_a0 ?q_l0 ?q_c0 ?q_k0, d_sWithin := W55.ff_mk KX G ?q_a1 ?q_l1 ?q_c1 ?q_k1, d_sLetter := W55.ff_mk KX G ?q_a2 ?q_l2 ?q_c2 ?q_k2, d_sListed := W55.ff_mk KX G ?q_a3 ?q_l3 ?q_c3 ?q_k3, d_sCon := W55.ff_mk KX G ?q_a4 ?q_l4 ?q_c4 ?q_k4, d_sShr := W55.ff_mk KX G ?q_a5 ?q_l5 ?q_c5 ?q_k5, d_sRnd := W55.ff_mk KX G ?q_a6 ?q_l6 ?q_c6 ?q_k6, d_sKinds := W55.ff_mk KX G ?q_a7 ?q_l7 ?q_c7 ?q_k7, d_sFew := W55.ff_mk KX G ?q_a8 ?q_l8 ?q_c8 ?q_k8, d_sNeedW := W55.ff_mk KX G ?q_a9 ?q_l9 ?q_c9 ?q_k9, d_sNeedI := W55.ff_mk KX G ?q_a10 ?q_l10 ?q_c10 ?q_k10, d_sNeed2 := W55.ff_mk KX G ?q_a11 ?q_l11 ?q_c11 ?q_k11, d_sSides := W55.ff_mk KX G ?q_a12 ?q_l12 ?q_c12 ?q_k12, d_sAsSq := W55.ff_mk KX G ?q_a13 ?q_l13 ?q_c13 ?q_k13, d_sPast := W55.ff_mk KX G ?q_a14 ?q_l14 ?q_c14 ?q_k14, d_sJar := W55.ff_mk KX G ?q_a15 ?q_l15 ?q_c15 ?q_k15, d_sDraw := W55.ff_mk KX G ?q_a16 ?q_l16 ?q_c16 ?q_k16, d_sPick := W55.ff_mk KX G ?q_a17 ?q_l17 ?q_c17 ?q_k17, d_sConL := W55.ff_mk KX G ?q_a18 ?q_l18 ?q_c18 ?q_k18, d_sShL := W55.ff_mk KX G ?q_a19 ?q_l19 ?q_c19 ?q_k19, d_sWord := W55.ff_mk KX G ?q_a20 ?q_l20 ?q_c20 ?q_k20, d_sHeard := W55.ff_mk KX G ?q_a21 ?q_l21 ?q_c21 ?q_k21, d_sDue := W55.ff_mk KX G ?q_a22 ?q_l22 ?q_c22 ?q_k22, d_sTold := W55.ff_mk KX G ?q_a23 ?q_l23 ?q_c23 ?q_k23, d_sSquares := W55.ff_mk KX G ?q_a24 ?q_l24 ?q_c24 ?q_k24, d_sTwo := W55.ff_mk KX G ?q_a25 ?q_l25 ?q_c25 ?q_k25, d_sPowers := W55.ff_mk KX G ?q_a26 ?q_l26 ?q_c26 ?q_k26, m_sInit := W55.fm_mk ?q_ma0 ?q_mi0 ?q_ml0 ?q_mc0 ?q_mk0, m_sEq := W55.fm_mk ?q_ma1 ?q_mi1 ?q_ml1 ?q_mc1 ?q_mk1, m_sShort := W55.fm_mk ?q_ma2 ?q_mi2 ?q_ml2 ?q_mc2 ?q_mk2, m_sThen := W55.fm_mk ?q_ma3 ?q_mi3 ?q_ml3 ?q_mc3 ?q_mk3, m_sTimes := W55.fm_mk ?q_ma4 ?q_mi4 ?q_ml4 ?q_mc4 ?q_mk4 }
      (case q_a0 => k_is); (case q_l0 => k_is); (case q_c0 => k_is); (case q_k0 => k_is)
      (case q_a1 => k_is); (case q_l1 => k_is); (case q_c1 => k_is); (case q_k1 => k_is)
      (case q_a2 => k_is); (case q_l2 => k_is); (case q_c2 => k_is); (case q_k2 => k_is)
      (case q_a3 => k_is); (case q_l3 => k_is); (case q_c3 => k_is); (case q_k3 => k_is)
      (case q_a4 => k_is); (case q_l4 => k_is); (case q_c4 => k_is); (case q_k4 => k_is)
      (case q_a5 => k_is); (case q_l5 => k_is); (case q_c5 => k_is); (case q_k5 => k_is)
      (case q_a6 => k_is); (case q_l6 => k_is); (case q_c6 => k_is); (case q_k6 => k_is)
      (case q_a7 => k_is); (case q_l7 => k_is); (case q_c7 => k_is); (case q_k7 => k_is)
      (case q_a8 => k_is); (case q_l8 => k_is); (case q_c8 => k_is); (case q_k8 => k_is)
      (case q_a9 => k_is); (case q_l9 => k_is); (case q_c9 => k_is); (case q_k9 => k_is)
      (case q_a10 => k_is); (case q_l10 => k_is); (case q_c10 => k_is); (case q_k10 => k_is)
      (case q_a11 => k_is); (case q_l11 => k_is); (case q_c11 => k_is); (case q_k11 => k_is)
      (case q_a12 => k_is); (case q_l12 => k_is); (case q_c12 => k_is); (case q_k12 => k_is)
      (case q_a13 => k_is); (case q_l13 => k_is); (case q_c13 => k_is); (case q_k13 => k_is)
      (case q_a14 => k_is); (case q_l14 => k_is); (case q_c14 => k_is); (case q_k14 => k_is)
      (case q_a15 => k_is); (case q_l15 => k_is); (case q_c15 => k_is); (case q_k15 => k_is)
      (case q_a16 => k_is); (case q_l16 => k_is); (case q_c16 => k_is); (case q_k16 => k_is)
      (case q_a17 => k_is); (case q_l17 => k_is); (case q_c17 => k_is); (case q_k17 => k_is)
      (case q_a18 => k_is); (case q_l18 => k_is); (case q_c18 => k_is); (case q_k18 => k_is)
      (case q_a19 => k_is); (case q_l19 => k_is); (case q_c19 => k_is); (case q_k19 => k_is)
      (case q_a20 => k_is); (case q_l20 => k_is); (case q_c20 => k_is); (case q_k20 => k_is)
      (case q_a21 => k_is); (case q_l21 => k_is); (case q_c21 => k_is); (case q_k21 => k_is)
      (case q_a22 => k_is); (case q_l22 => k_is); (case q_c22 => k_is); (case q_k22 => k_is)
      (case q_a23 => k_is); (case q_l23 => k_is); (case q_c23 => k_is); (case q_k23 => k_is)
      (case q_a24 => k_is); (case q_l24 => k_is); (case q_c24 => k_is); (case q_k24 => k_is)
      (case q_a25 => k_is); (case q_l25 => k_is); (case q_c25 => k_is); (case q_k25 => k_is)
      (case q_a26 => k_is); (case q_l26 => k_is); (case q_c26 => k_is); (case q_k26 => k_is)
      (case q_ma0 => k_is); (case q_mi0 => k_is); (case q_ml0 => k_is); (case q_mc0 => k_is); (case q_mk0 => k_is)
      (case q_ma1 => k_is); (case q_mi1 => k_is); (case q_ml1 => k_is); (case q_mc1 => k_is); (case q_mk1 => k_is)
      (case q_ma2 => k_is); (case q_mi2 => k_is); (case q_ml2 => k_is); (case q_mc2 => k_is); (case q_mk2 => k_is)
      (case q_ma3 => k_is); (case q_mi3 => k_is); (case q_ml3 => k_is); (case q_mc3 => k_is); (case q_mk3 => k_is)
      (case q_ma4 => k_is); (case q_mi4 => k_is); (case q_ml4 => k_is); (case q_mc4 => k_is); (case q_mk4 => k_is)
    case q_XP =>
      refine' ⟨?q_x0, ?q_x1, ?q_x2, ?q_x3, ?q_x4, ?q_x5⟩
      (case q_x0 => first | k_is | kernel_rfl | rfl)
      (case q_x1 => first | k_is | kernel_rfl | rfl)
      (case q_x2 => first | k_is | kernel_rfl | rfl)
      (case q_x3 => first | k_is | kernel_rfl | rfl)
      (case q_x4 => first | k_is | kernel_rfl | rfl)
      (case q_x5 => first | k_is | kernel_rfl | rfl)
    (case q_aH => k_is); (case q_bh1 => k_is); (case q_bh2 => k_is); (case q_bh3 => k_is); (case q_bh4 => first | k_is | rfl); (case q_z1 => k_is); (case q_z2 => first | k_is | kernel_rfl | rfl); (case q_z3 => k_is); (case q_z4 => k_is); (case q_bc1 => k_is); (case q_bc2 => k_is)
    (case q_aL => k_is); (case q_lL => k_is); (case q_eL => k_is); (case q_hL => first | kernel_rfl | with_unfolding_all rfl); (case q_nZ => first | rfl | k_is)
