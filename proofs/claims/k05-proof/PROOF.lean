import PyProof.Rows.All
import Wide.All
import OpenK.AllK
import Wide.FinOn
import HandS.ForMost
import HandS.Strs
import HandS.SetBool
import HandS.TupAny
import HandS.TupMul
import KE.KRevSl
import HandS.Exc
import HandS.TryOnly
import HandS.ExcOwn
import HandS.WordsExc
import HandS.Wide
import HandS.IsInst
import HandS.Style
import HandS.Flow
import HandS.Evl
import HandS.MakeKwOnly
import HandS.Walk
import KE.KEqSeq
import HandS.OwnEq
import HandS.More
import PyProof.InstNe
import HandS.Deep
import PySem.Challenge.RW_handlerims_k05_shortened_in_one_way
set_option Elab.async false
set_option linter.all false
/-! Rows of letters, shortened: neighbours that are contraries taken out. -/
namespace Fr

/-- a letter laid on what is left, its last one in front -/
def push : List Int → Int → List Int
  | [], a => [a]
  | b :: t, a => if b = -a then t else a :: b :: t

def act (s : List Int) (xs : List Int) : List Int := xs.foldl push s

/-- no neighbours are contraries -/
def Rd : List Int → Prop
  | [] => True
  | [_] => True
  | a :: b :: t => a ≠ -b ∧ Rd (b :: t)

/-- what is left of a row of letters -/
def shr (xs : List Int) : List Int := (act [] xs).reverse

/-- the contraries, the last one first -/
def con (xs : List Int) : List Int := xs.reverse.map (fun a => -a)

/-- so many times -/
def rep : Nat → List Int → List Int
  | 0, _ => []
  | n + 1, xs => xs ++ rep n xs

theorem Rd.tail {a : Int} {t : List Int} (h : Rd (a :: t)) : Rd t := by
  cases t with
  | nil => trivial
  | cons b u => exact h.2

theorem push_rd {s : List Int} (a : Int) (h : Rd s) : Rd (push s a) := by
  cases s with
  | nil => trivial
  | cons b t =>
    show Rd (if b = -a then t else a :: b :: t)
    by_cases e : b = -a
    · rw [if_pos e]; exact h.tail
    · rw [if_neg e]
      refine ⟨?_, h⟩
      omega

theorem push_push {s : List Int} (a : Int) (h : Rd s) : push (push s a) (-a) = s := by
  cases s with
  | nil => simp [push]
  | cons b t =>
    by_cases e : b = -a
    · have h1 : push (b :: t) a = t := by simp [push, e]
      rw [h1]
      cases t with
      | nil => simp [push, e]
      | cons c u =>
        have hc : c ≠ - -a := by
          intro hc
          exact h.1 (by omega)
        simp [push, e]
        omega
    · have h1 : push (b :: t) a = a :: b :: t := by simp [push, e]
      rw [h1]
      simp [push]

theorem push_push' {s : List Int} (a : Int) (h : Rd s) : push (push s (-a)) a = s := by
  have := push_push (-a) h
  rwa [Int.neg_neg] at this

theorem act_nil (s : List Int) : act s [] = s := rfl
theorem act_cons (s : List Int) (a : Int) (t : List Int) : act s (a :: t) = act (push s a) t := rfl
theorem act_append (s xs ys : List Int) : act s (xs ++ ys) = act (act s xs) ys := List.foldl_append
theorem act_snoc (s xs : List Int) (a : Int) : act s (xs ++ [a]) = push (act s xs) a := act_append s xs [a]

theorem act_rd : ∀ {xs s : List Int}, Rd s → Rd (act s xs)
  | [], _, h => h
  | a :: t, _, h => act_rd (xs := t) (push_rd a h)

/-- two rows are one and the same when they act alike -/
def Sm (xs ys : List Int) : Prop := ∀ s, Rd s → act s xs = act s ys

theorem Sm.refl (xs : List Int) : Sm xs xs := fun _ _ => rfl
theorem Sm.symm {xs ys : List Int} (h : Sm xs ys) : Sm ys xs := fun s r => (h s r).symm
theorem Sm.trans {xs ys zs : List Int} (h : Sm xs ys) (k : Sm ys zs) : Sm xs zs := fun s r => (h s r).trans (k s r)
theorem Sm.app {xs ys us vs : List Int} (h : Sm xs ys) (k : Sm us vs) : Sm (xs ++ us) (ys ++ vs) := fun s r => by
  rw [act_append, act_append, h s r, k _ (act_rd r)]
theorem Sm.out (a : Int) : Sm [a, -a] [] := fun s r => push_push a r
theorem Sm.out' (a : Int) : Sm [-a, a] [] := fun s r => push_push' a r
theorem Sm.mid {xs us vs ys : List Int} (h : Sm us vs) : Sm (xs ++ us ++ ys) (xs ++ vs ++ ys) := ((Sm.refl xs).app h).app (Sm.refl ys)

/-- what is left acts as the whole did -/
theorem sm_stack : ∀ xs : List Int, Sm (act [] xs).reverse xs := by
  intro xs
  have gen : ∀ (n : Nat) (xs : List Int), xs.length = n → Sm (act [] xs).reverse xs := by
    intro n
    induction n with
    | zero =>
      intro xs h
      cases xs with
      | nil => exact Sm.refl _
      | cons a t => simp at h
    | succ n ih =>
      intro xs h
      obtain ⟨ys, a, rfl⟩ : ∃ ys a, xs = ys ++ [a] := by
        refine ⟨xs.dropLast, xs.getLast (by intro e; rw [e] at h; simp at h), ?_⟩
        exact (List.dropLast_concat_getLast _).symm
      have hy : ys.length = n := by simp at h; exact h
      have k := ih ys hy
      intro s r
      rw [act_snoc, act_snoc]
      cases e : act [] ys with
      | nil =>
        have k2 := k s r
        rw [e] at k2
        rw [← k2]
        rfl
      | cons b t =>
        have k2 := k s r
        rw [e, List.reverse_cons, act_snoc] at k2
        rw [← k2]
        by_cases eb : b = -a
        · have h1 : push (b :: t) a = t := by simp [push, eb]
          rw [h1, eb]
          exact (push_push' a (act_rd r)).symm
        · have h1 : push (b :: t) a = a :: b :: t := by simp [push, eb]
          rw [h1, List.reverse_cons, List.reverse_cons, act_snoc, act_snoc]
  exact gen _ xs rfl

theorem sm_shr (xs : List Int) : Sm (shr xs) xs := sm_stack xs
theorem shr_of_sm {xs ys : List Int} (h : Sm xs ys) : shr xs = shr ys := by
  unfold shr
  rw [h [] trivial]
theorem sm_of_shr {xs ys : List Int} (h : shr xs = shr ys) : Sm xs ys := by
  refine (sm_shr xs).symm.trans ?_
  rw [h]
  exact sm_shr ys
theorem shr_shr (xs : List Int) : shr (shr xs) = shr xs := shr_of_sm (sm_shr xs)
theorem shr_app (xs ys : List Int) : shr (shr xs ++ shr ys) = shr (xs ++ ys) := shr_of_sm ((sm_shr xs).app (sm_shr ys))
theorem shr_out (xs : List Int) (a : Int) (ys : List Int) : shr (xs ++ a :: -a :: ys) = shr (xs ++ ys) := by
  refine shr_of_sm ?_
  have h : Sm (xs ++ [a, -a] ++ ys) (xs ++ [] ++ ys) := Sm.mid (Sm.out a)
  simpa using h

/-! ### short ones -/
theorem rd_cons {a : Int} {t : List Int} : Rd (a :: t) ↔ (∀ b, t.head? = some b → a ≠ -b) ∧ Rd t := by
  cases t with
  | nil => simp [Rd]
  | cons b u => simp [Rd]
theorem rd_append {xs ys : List Int} : Rd (xs ++ ys) ↔ Rd xs ∧ Rd ys ∧ ∀ a b, xs.getLast? = some a → ys.head? = some b → a ≠ -b := by
  induction xs with
  | nil => simp [Rd]
  | cons x t ih =>
    rw [List.cons_append, rd_cons, rd_cons, ih]
    cases t with
    | nil =>
      simp [Rd]
      constructor
      · rintro ⟨h1, h2⟩
        exact ⟨h2, fun a b ha hb => ha ▸ h1 b hb⟩
      · rintro ⟨h1, h2⟩
        exact ⟨fun b hb => h2 x b rfl hb, h1⟩
    | cons y u =>
      simp [List.getLast?_cons_cons]
      constructor
      · rintro ⟨h1, h2, h3, h4⟩
        exact ⟨⟨h1, h2⟩, h3, h4⟩
      · rintro ⟨⟨h1, h2⟩, h3, h4⟩
        exact ⟨h1, h2, h3, h4⟩
theorem rd_reverse {xs : List Int} : Rd xs.reverse ↔ Rd xs := by
  induction xs with
  | nil => simp [Rd]
  | cons x t ih =>
    rw [List.reverse_cons, rd_append, ih, rd_cons (a := x) (t := t)]
    have one : Rd [x] := trivial
    simp [one]
    constructor
    · rintro ⟨h1, h2⟩
      refine ⟨fun b hb => ?_, h1⟩
      have := h2 b hb
      omega
    · rintro ⟨h1, h2⟩
      refine ⟨h2, fun b hb => ?_⟩
      have := h1 b hb
      omega
theorem rd_shr (xs : List Int) : Rd (shr xs) := rd_reverse.2 (act_rd trivial)
theorem act_short : ∀ (xs s : List Int), Rd (s.reverse ++ xs) → act s xs = xs.reverse ++ s
  | [], s, _ => by simp [act]
  | a :: t, s, h => by
    rw [act_cons]
    have hp : push s a = a :: s := by
      cases s with
      | nil => rfl
      | cons b u =>
        have h3 := (rd_append.1 h).2.2 b a (by simp) (by simp)
        show (if b = -a then u else a :: b :: u) = _
        rw [if_neg h3]
    rw [hp, act_short t (a :: s) (by simpa using h)]
    simp
theorem shr_short {xs : List Int} (h : Rd xs) : shr xs = xs := by
  unfold shr
  rw [act_short xs [] (by simpa using h)]
  simp
theorem shr_iff {xs : List Int} : shr xs = xs ↔ Rd xs := ⟨fun h => h ▸ rd_shr xs, shr_short⟩
/-- a short one that acts alike is what is left -/
theorem shr_eq {xs ys : List Int} (h : Sm xs ys) (r : Rd ys) : shr xs = ys := (shr_of_sm h).trans (shr_short r)

/-! ### contraries -/
theorem con_nil : con [] = [] := rfl
theorem con_cons (a : Int) (t : List Int) : con (a :: t) = con t ++ [-a] := by simp [con]
theorem con_append (xs ys : List Int) : con (xs ++ ys) = con ys ++ con xs := by simp [con]
theorem con_con (xs : List Int) : con (con xs) = xs := by
  simp [con, List.map_reverse, Function.comp_def]
theorem con_length (xs : List Int) : (con xs).length = xs.length := by simp [con]
theorem con_head (xs : List Int) : (con xs).head? = xs.getLast?.map fun a => -a := by
  simp [con]
theorem con_last (xs : List Int) : (con xs).getLast? = xs.head?.map fun a => -a := by
  simp [con, List.map_reverse]
theorem sm_con : ∀ xs : List Int, Sm (xs ++ con xs) []
  | [] => Sm.refl _
  | a :: t => by
    rw [con_cons]
    have h : Sm ([a] ++ (t ++ con t) ++ [-a]) ([a] ++ [] ++ [-a]) := Sm.mid (sm_con t)
    have k : Sm ([a] ++ [] ++ [-a]) [] := Sm.out a
    have := h.trans k
    simpa using this
theorem sm_con' (xs : List Int) : Sm (con xs ++ xs) [] := by
  have := sm_con (con xs)
  rwa [con_con] at this
theorem Sm.con {xs ys : List Int} (h : Sm xs ys) : Sm (con xs) (con ys) := by
  have h1 : Sm (Fr.con xs ++ (ys ++ Fr.con ys)) (Fr.con xs ++ []) := (Sm.refl _).app (sm_con ys)
  have h2 : Sm (Fr.con xs ++ ys ++ Fr.con ys) (Fr.con xs ++ xs ++ Fr.con ys) := Sm.mid h.symm
  have h3 : Sm (Fr.con xs ++ xs ++ Fr.con ys) ([] ++ Fr.con ys) := (sm_con' xs).app (Sm.refl _)
  rw [List.append_nil, ← List.append_assoc] at h1
  exact (h1.symm.trans h2).trans h3
theorem rd_con {xs : List Int} : Rd (con xs) ↔ Rd xs := by
  have one : ∀ xs : List Int, Rd xs → Rd (con xs) := by
    intro xs
    induction xs with
    | nil => exact fun _ => trivial
    | cons a t ih =>
      intro h
      rw [con_cons, rd_append]
      refine ⟨ih h.tail, trivial, fun x y hx hy => ?_⟩
      rw [con_last] at hx
      cases t with
      | nil => simp at hx
      | cons b u =>
        simp at hx hy
        have := h.1
        omega
  refine ⟨fun h => ?_, one xs⟩
  have := one _ h
  rwa [con_con] at this
theorem shr_con (xs : List Int) : shr (con xs) = con (shr xs) := shr_eq (sm_shr xs).con.symm (rd_con.2 (rd_shr xs))

/-! ### so many times -/
theorem rep_zero (xs : List Int) : rep 0 xs = [] := rfl
theorem rep_succ (n : Nat) (xs : List Int) : rep (n + 1) xs = xs ++ rep n xs := rfl
theorem rep_one (xs : List Int) : rep 1 xs = xs := by simp [rep]
theorem rep_add (m n : Nat) (xs : List Int) : rep (m + n) xs = rep m xs ++ rep n xs := by
  induction m with
  | zero => simp [rep]
  | succ m ih => rw [Nat.succ_add, rep_succ, rep_succ, ih, List.append_assoc]
theorem rep_length (n : Nat) (xs : List Int) : (rep n xs).length = n * xs.length := by
  induction n with
  | zero => simp [rep]
  | succ n ih => rw [rep_succ, List.length_append, ih, Nat.succ_mul, Nat.add_comm]
theorem rep_nil (n : Nat) : rep n [] = [] := by
  induction n with
  | zero => rfl
  | succ n ih => rw [rep_succ, ih]; rfl
theorem Sm.rep {xs ys : List Int} (h : Sm xs ys) (n : Nat) : Sm (rep n xs) (rep n ys) := by
  induction n with
  | zero => exact Sm.refl _
  | succ n ih => exact h.app ih
theorem shr_rep (n : Nat) (xs : List Int) : shr (rep n (shr xs)) = shr (rep n xs) := shr_of_sm ((sm_shr xs).rep n)
theorem rep_succ' (n : Nat) (xs : List Int) : rep (n + 1) xs = rep n xs ++ xs := by
  rw [rep_add n 1, rep_one]
theorem con_rep (n : Nat) (xs : List Int) : con (rep n xs) = rep n (con xs) := by
  induction n with
  | zero => rfl
  | succ n ih => rw [rep_succ, con_append, ih, ← rep_succ']

/-! ### the ends -/
/-- short, and its ends are no contraries -/
def Cy (w : List Int) : Prop := Rd w ∧ ∀ a b, w.head? = some a → w.getLast? = some b → a ≠ -b
/-- no letter is 0 -/
def NZ (xs : List Int) : Prop := ∀ a ∈ xs, a ≠ 0
theorem cy_nil : Cy [] := ⟨trivial, fun a b h => by simp at h⟩
theorem NZ.app {xs ys : List Int} (h : NZ xs) (k : NZ ys) : NZ (xs ++ ys) := fun a ha => by
  rcases List.mem_append.1 ha with h1 | h1
  · exact h a h1
  · exact k a h1
theorem NZ.left {xs ys : List Int} (h : NZ (xs ++ ys)) : NZ xs := fun a ha => h a (List.mem_append_left _ ha)
theorem NZ.right {xs ys : List Int} (h : NZ (xs ++ ys)) : NZ ys := fun a ha => h a (List.mem_append_right _ ha)
theorem NZ.con {xs : List Int} (h : NZ xs) : NZ (con xs) := fun a ha => by
  unfold Fr.con at ha
  obtain ⟨b, hb, rfl⟩ := List.mem_map.1 ha
  have := h b (List.mem_reverse.1 hb)
  omega
theorem push_mem {s : List Int} {a x : Int} (h : x ∈ push s a) : x = a ∨ x ∈ s := by
  cases s with
  | nil => left; simpa [push] using h
  | cons b t =>
    have h2 : x ∈ (if b = -a then t else a :: b :: t) := h
    by_cases e : b = -a
    · rw [if_pos e] at h2; exact .inr (List.mem_cons_of_mem _ h2)
    · rw [if_neg e] at h2
      rcases List.mem_cons.1 h2 with h3 | h3
      · exact .inl h3
      · exact .inr h3
theorem act_mem : ∀ {xs s : List Int} {x : Int}, x ∈ act s xs → x ∈ xs ∨ x ∈ s
  | [], _, _, h => .inr h
  | a :: t, s, x, h => by
    rw [act_cons] at h
    rcases act_mem h with h1 | h1
    · exact .inl (List.mem_cons_of_mem _ h1)
    · rcases push_mem h1 with h2 | h2
      · exact .inl (h2 ▸ List.mem_cons_self)
      · exact .inr h2
theorem shr_mem {xs : List Int} {x : Int} (h : x ∈ shr xs) : x ∈ xs := by
  unfold shr at h
  rcases act_mem (List.mem_reverse.1 h) with h1 | h1
  · exact h1
  · simp at h1
theorem NZ.shr {xs : List Int} (h : NZ xs) : NZ (shr xs) := fun a ha => h a (shr_mem ha)

/-- a row between a letter and its contrary, or one that has no such ends -/
theorem ends_or (xs : List Int) (nz : NZ xs) : (∃ a m, xs = a :: (m ++ [-a])) ∨ ∀ a b, xs.head? = some a → xs.getLast? = some b → a ≠ -b := by
  cases xs with
  | nil => right; intro a b h; simp at h
  | cons a t =>
    by_cases ht : t = []
    · subst ht
      right
      intro x y hx hy
      simp at hx hy
      have := nz a (by simp)
      omega
    · have e := List.dropLast_concat_getLast ht
      by_cases hb : t.getLast ht = -a
      · left
        refine ⟨a, t.dropLast, ?_⟩
        rw [← hb, e]
      · right
        intro x y hx hy
        rw [← e] at hy
        rw [show a :: (t.dropLast ++ [t.getLast ht]) = (a :: t.dropLast) ++ [t.getLast ht] from rfl] at hy
        rw [List.getLast?_append] at hy
        simp at hx hy
        omega
/-- every short row is a row, one that is short round, and the contrary of the first -/
theorem parted (xs : List Int) (nz : NZ xs) (r : Rd xs) : ∃ u w, xs = u ++ w ++ con u ∧ Cy w ∧ (w = [] → u = []) := by
  have gen : ∀ (n : Nat) (xs : List Int), xs.length ≤ n → NZ xs → Rd xs → ∃ u w, xs = u ++ w ++ con u ∧ Cy w ∧ (w = [] → u = []) := by
    intro n
    induction n with
    | zero =>
      intro xs h _ _
      have : xs = [] := List.length_eq_zero_iff.1 (by omega)
      subst this
      exact ⟨[], [], rfl, cy_nil, fun _ => rfl⟩
    | succ n ih =>
      intro xs h nz r
      rcases ends_or xs nz with ⟨a, m, rfl⟩ | k
      · have hr : Rd (m ++ [-a]) := r.tail
        have hm : Rd m := (rd_append.1 hr).1
        obtain ⟨u, w, e, c, z⟩ := ih m (by simp at h; omega) (fun x hx => nz x (by simp [hx])) hm
        have hne : m ≠ [] := by
          intro e0
          subst e0
          have := r.1
          simp at this
        refine ⟨a :: u, w, ?_, c, fun hw => ?_⟩
        · rw [con_cons, e]; simp
        · exfalso
          have hu := z hw
          subst hw hu
          exact hne (by simpa [con] using e)
      · exact ⟨[], xs, by simp [con], ⟨r, k⟩, fun _ => rfl⟩
  exact gen xs.length xs (Nat.le_refl _) nz r

/-- the ends off, as long as they are contraries -/
def endsN : Nat → List Int → List Int
  | 0, xs => xs
  | n + 1, xs => if 1 < xs.length ∧ xs.head? = xs.getLast?.map (fun a => -a) then endsN n xs.tail.dropLast else xs
def ends (xs : List Int) : List Int := endsN xs.length xs
theorem endsN_cy : ∀ (n : Nat) {w : List Int}, Cy w → endsN n w = w
  | 0, _, _ => rfl
  | n + 1, w, h => by
    unfold endsN
    rw [if_neg]
    rintro ⟨h1, h2⟩
    cases e : w.getLast? with
    | none =>
      rw [List.getLast?_eq_none_iff] at e
      subst e
      simp at h1
    | some b =>
      rw [e] at h2
      exact h.2 (-b) b h2 e rfl
theorem endsN_eq : ∀ (n : Nat) (u w : List Int), Cy w → u.length ≤ n → (w = [] → u = []) → endsN n (u ++ w ++ con u) = w
  | n, [], w, c, _, _ => by
    simp [con]
    exact endsN_cy n c
  | 0, a :: u, w, c, h, _ => by simp at h
  | n + 1, a :: u, w, c, h, z => by
    have e : (a :: u) ++ w ++ con (a :: u) = a :: ((u ++ w ++ con u) ++ [-a]) := by
      rw [con_cons]; simp
    rw [e]
    unfold endsN
    rw [if_pos]
    · rw [List.tail_cons, List.dropLast_concat]
      refine endsN_eq n u w c (by simp at h; exact h) fun hw => ?_
      have := z hw
      simp at this
    · constructor
      · simp only [List.length_cons, List.length_append, List.length_nil]; omega
      · rw [show a :: ((u ++ w ++ con u) ++ [-a]) = (a :: (u ++ w ++ con u)) ++ [-a] from rfl, List.getLast?_append]
        simp
theorem ends_eq {u w : List Int} (c : Cy w) (z : w = [] → u = []) : ends (u ++ w ++ con u) = w :=
  endsN_eq _ u w c (by simp) z
theorem ends_cy {w : List Int} (c : Cy w) : ends w = w := endsN_cy _ c
/-- what is left of a ring -/
def rnd (xs : List Int) : List Int := ends (shr xs)
theorem rnd_of {xs u w : List Int} (h : Sm xs (u ++ w ++ con u)) (r : Rd (u ++ w ++ con u)) (c : Cy w) (z : w = [] → u = []) : rnd xs = w := by
  unfold rnd
  rw [shr_eq h r]
  exact ends_eq c z
theorem rnd_cy {xs : List Int} (nz : NZ xs) : Cy (rnd xs) := by
  obtain ⟨u, w, e, c, z⟩ := parted (shr xs) nz.shr (rd_shr xs)
  unfold rnd
  rw [e, ends_eq c z]
  exact c
theorem rnd_sm {xs ys : List Int} (h : Sm xs ys) : rnd xs = rnd ys := by
  unfold rnd
  rw [shr_of_sm h]
theorem rnd_iff {xs : List Int} (nz : NZ xs) : rnd xs = xs ↔ Cy xs := by
  constructor
  · intro h
    rw [← h]
    exact rnd_cy nz
  · intro c
    unfold rnd
    rw [shr_short c.1, ends_cy c]

/-! ### turned -/
def Trn (xs ys : List Int) : Prop := ∃ p q, xs = p ++ q ∧ ys = q ++ p
theorem Trn.refl (xs : List Int) : Trn xs xs := ⟨[], xs, rfl, by simp⟩
theorem Trn.symm {xs ys : List Int} (h : Trn xs ys) : Trn ys xs := by
  obtain ⟨p, q, e1, e2⟩ := h
  exact ⟨q, p, e2, e1⟩
theorem Trn.trans {xs ys zs : List Int} (h : Trn xs ys) (k : Trn ys zs) : Trn xs zs := by
  obtain ⟨p, q, rfl, e⟩ := h
  obtain ⟨p2, q2, e2, rfl⟩ := k
  rw [e] at e2
  rcases List.append_eq_append_iff.1 e2 with ⟨c, h1, h2⟩ | ⟨c, h1, h2⟩
  · subst h1 h2
    exact ⟨c, q2 ++ q, by simp, by simp⟩
  · subst h1 h2
    exact ⟨p ++ p2, c, by simp, by simp⟩
theorem Trn.cy {xs ys : List Int} (h : Trn xs ys) (c : Cy xs) : Cy ys := by
  obtain ⟨p, q, rfl, rfl⟩ := h
  by_cases hp : p = []
  · subst hp; simpa using c
  by_cases hq : q = []
  · subst hq; simpa using c
  obtain ⟨r, l⟩ := c
  obtain ⟨r1, r2, r3⟩ := rd_append.1 r
  obtain ⟨a, t, rfl⟩ := List.exists_cons_of_ne_nil hp
  obtain ⟨b, s, rfl⟩ := List.exists_cons_of_ne_nil hq
  refine ⟨rd_append.2 ⟨r2, r1, fun x y hx hy => ?_⟩, fun x y hx hy => ?_⟩
  · have := l y x (by simpa using hy) (by rw [List.getLast?_append, hx]; rfl)
    omega
  · have := r3 y x (by rw [List.getLast?_append] at hy; rw [List.getLast?_eq_some_getLast (by simp)] at hy ⊢; simpa using hy) (by simpa using hx)
    omega
/-- a letter ahead and its contrary behind -/
theorem rnd_moved1 (a : Int) (ha : a ≠ 0) (xs : List Int) (nz : NZ xs) : Trn (rnd xs) (rnd ([a] ++ xs ++ [-a])) := by
  obtain ⟨u, w, e, c, z⟩ := parted (shr xs) nz.shr (rd_shr xs)
  have hr : rnd xs = w := by
    unfold rnd
    rw [e, ends_eq c z]
  have rs := rd_shr xs
  rw [e] at rs
  have base : Sm ([a] ++ xs ++ [-a]) ([a] ++ (u ++ w ++ con u) ++ [-a]) := by
    rw [← e]
    exact Sm.mid (sm_shr xs).symm
  rw [hr]
  cases u with
  | cons b u =>
    have wne : w ≠ [] := fun h => by simp at z; exact z h
    have e2 : (b :: u) ++ w ++ con (b :: u) = b :: ((u ++ w ++ con u) ++ [-b]) := by rw [con_cons]; simp
    rw [e2] at rs base
    by_cases hb : b = -a
    · have inner : Rd (u ++ w ++ con u) := (rd_append.1 rs.tail).1
      have sm : Sm ([a] ++ (b :: ((u ++ w ++ con u) ++ [-b])) ++ [-a]) (u ++ w ++ con u) := by
        subst hb
        have h1 : Sm ([a, -a] ++ (u ++ w ++ con u) ++ [a, -a]) ([] ++ (u ++ w ++ con u) ++ []) := ((Sm.out a).app (Sm.refl _)).app (Sm.out a)
        simpa using h1
      rw [rnd_of (base.trans sm) inner c fun h => absurd h wne]
      exact Trn.refl _
    · have whole : Rd ((a :: b :: u) ++ w ++ con (a :: b :: u)) := by
        have e3 : (a :: b :: u) ++ w ++ con (a :: b :: u) = [a] ++ (b :: ((u ++ w ++ con u) ++ [-b])) ++ [-a] := by
          rw [con_cons, con_cons]; simp
        rw [e3, rd_append, rd_append]
        refine ⟨⟨trivial, rs, fun x y hx hy => ?_⟩, trivial, fun x y hx hy => ?_⟩
        · simp at hx hy; omega
        · rw [show [a] ++ (b :: ((u ++ w ++ con u) ++ [-b])) = (a :: b :: (u ++ w ++ con u)) ++ [-b] by simp] at hx
          rw [List.getLast?_append] at hx
          simp at hx hy
          omega
      have sm : Sm ([a] ++ (b :: ((u ++ w ++ con u) ++ [-b])) ++ [-a]) ((a :: b :: u) ++ w ++ con (a :: b :: u)) := by
        have e3 : (a :: b :: u) ++ w ++ con (a :: b :: u) = [a] ++ (b :: ((u ++ w ++ con u) ++ [-b])) ++ [-a] := by
          rw [con_cons, con_cons]; simp
        rw [e3]
        exact Sm.refl _
      rw [rnd_of (base.trans sm) whole c fun h => absurd h wne]
      exact Trn.refl _
  | nil =>
    have e2 : ([] : List Int) ++ w ++ con [] = w := by simp [con]
    rw [e2] at rs base
    cases w with
    | nil =>
      have sm : Sm ([a] ++ [] ++ [-a]) ([] ++ [] ++ con []) := Sm.out a
      rw [rnd_of (base.trans sm) trivial cy_nil fun _ => rfl]
      exact Trn.refl _
    | cons b t =>
      by_cases hb : b = -a
      · -- the letter takes the first one out, and its contrary stands behind
        have turn : Trn (b :: t) (t ++ [b]) := ⟨[b], t, rfl, rfl⟩
        have sm : Sm ([a] ++ (b :: t) ++ [-a]) ([] ++ (t ++ [b]) ++ con []) := by
          subst hb
          have h1 : Sm ([a, -a] ++ (t ++ [-a])) ([] ++ (t ++ [-a])) := (Sm.out a).app (Sm.refl _)
          simpa [con] using h1
        have cy := turn.cy c
        rw [rnd_of (base.trans sm) (by simpa [con] using cy.1) cy fun _ => rfl]
        exact turn
      · by_cases hl : (b :: t).getLast? = some a
        · obtain ⟨m, em⟩ : ∃ m, b :: t = m ++ [a] := by
            refine ⟨(b :: t).dropLast, ?_⟩
            have h1 := List.dropLast_concat_getLast (l := b :: t) (by simp)
            rw [List.getLast?_eq_some_getLast (by simp)] at hl
            rw [Option.some.inj hl] at h1
            exact h1.symm
          rw [em] at c base ⊢
          have turn : Trn (m ++ [a]) (a :: m) := ⟨m, [a], rfl, rfl⟩
          have sm : Sm ([a] ++ (m ++ [a]) ++ [-a]) ([] ++ (a :: m) ++ con []) := by
            have h1 : Sm ((a :: m) ++ [a, -a]) ((a :: m) ++ []) := (Sm.refl _).app (Sm.out a)
            simpa [con] using h1
          have cy := turn.cy c
          rw [rnd_of (base.trans sm) (by simpa [con] using cy.1) cy fun _ => rfl]
          exact turn
        · have whole : Rd ([a] ++ (b :: t) ++ con [a]) := by
            rw [rd_append, rd_append]
            refine ⟨⟨trivial, rs, fun x y hx hy => ?_⟩, trivial, fun x y hx hy => ?_⟩
            · simp at hx hy; omega
            · rw [List.getLast?_append] at hx
              rw [List.getLast?_eq_some_getLast (by simp)] at hx hl
              simp [con] at hx hy hl
              omega
          rw [rnd_of (base.trans (by simpa [con] using Sm.refl _)) whole c fun h => by simp at h]
          exact Trn.refl _
/-- moved: a word ahead, its contrary behind -/
theorem rnd_moved : ∀ (ys xs : List Int), NZ ys → NZ xs → Trn (rnd xs) (rnd (ys ++ xs ++ con ys))
  | [], xs, _, _ => by simpa [con] using Trn.refl _
  | a :: t, xs, hy, hx => by
    have ht : NZ t := fun x h => hy x (List.mem_cons_of_mem _ h)
    have h1 := rnd_moved t xs ht hx
    have h2 := rnd_moved1 a (hy a List.mem_cons_self) (t ++ xs ++ con t) ((ht.app hx).app ht.con)
    have e : [a] ++ (t ++ xs ++ con t) ++ [-a] = (a :: t) ++ xs ++ con (a :: t) := by rw [con_cons]; simp
    rw [e] at h2
    exact h1.trans h2
/-- turned first, shortened round then -/
theorem rnd_turned {xs ys : List Int} (nz : NZ xs) (h : Trn xs ys) : Trn (rnd xs) (rnd ys) := by
  obtain ⟨p, q, rfl, rfl⟩ := h
  have h1 := rnd_moved (con p) (p ++ q) nz.left.con nz
  have sm : Sm (con p ++ (p ++ q) ++ con (con p)) (q ++ p) := by
    rw [con_con]
    have h2 : Sm ((con p ++ p) ++ (q ++ p)) ([] ++ (q ++ p)) := (sm_con' p).app (Sm.refl _)
    simpa using h2
  rw [rnd_sm sm] at h1
  exact h1

/-! ### so many times one that is short round -/
theorem rep_head {n : Nat} {w : List Int} : (rep (n + 1) w).head? = w.head? := by
  cases w with
  | nil => rw [rep_nil]
  | cons a t => rw [rep_succ]; rfl
theorem rep_last {n : Nat} {w : List Int} : (rep (n + 1) w).getLast? = w.getLast? := by
  by_cases hw : w = []
  · subst hw; rw [rep_nil]
  · rw [rep_succ', List.getLast?_append, List.getLast?_eq_some_getLast hw]; rfl
theorem cy_rep {w : List Int} (c : Cy w) : ∀ n, Cy (rep n w)
  | 0 => cy_nil
  | n + 1 => by
    have ih := cy_rep c n
    refine ⟨?_, fun a b ha hb => ?_⟩
    · rw [rep_succ, rd_append]
      refine ⟨c.1, ih.1, fun a b ha hb => ?_⟩
      cases n with
      | zero => simp [rep] at hb
      | succ n =>
        rw [rep_head] at hb
        have := c.2 b a hb ha
        omega
    · rw [rep_head] at ha
      rw [rep_last] at hb
      exact c.2 a b ha hb
/-- so many times a row: its ends stay, what is between them comes so many times -/
theorem shr_core {xs u w : List Int} (e : shr xs = u ++ w ++ con u) (c : Cy w) (z : w = [] → u = []) (n : Nat) : shr (rep (n + 1) xs) = u ++ rep (n + 1) w ++ con u := by
  have sm : ∀ n, Sm (rep (n + 1) (u ++ w ++ con u)) (u ++ rep (n + 1) w ++ con u) := by
    intro n
    induction n with
    | zero => rw [rep_one, rep_one]; exact Sm.refl _
    | succ n ih =>
      rw [rep_succ]
      refine ((Sm.refl _).app ih).trans ?_
      have h : Sm ((u ++ w) ++ (con u ++ u) ++ (rep (n + 1) w ++ con u)) ((u ++ w) ++ [] ++ (rep (n + 1) w ++ con u)) := Sm.mid (sm_con' u)
      have e2 : rep (n + 1 + 1) w = w ++ rep (n + 1) w := rfl
      rw [e2]
      simpa using h
  refine shr_eq ?_ ?_
  · have h1 : Sm (rep (n + 1) xs) (rep (n + 1) (shr xs)) := ((sm_shr xs).rep _).symm
    rw [e] at h1
    exact h1.trans (sm n)
  · have r := rd_shr xs
    rw [e] at r
    by_cases hw : w = []
    · have hu := z hw
      subst hw hu
      rw [rep_nil]
      trivial
    · obtain ⟨r12, r3, b23⟩ := rd_append.1 r
      obtain ⟨r1, r2, b12⟩ := rd_append.1 r12
      rw [rd_append, rd_append]
      refine ⟨⟨r1, (cy_rep c _).1, fun a b ha hb => ?_⟩, r3, fun a b ha hb => ?_⟩
      · rw [rep_head] at hb
        exact b12 a b ha hb
      · refine b23 a b ?_ hb
        have hne : rep (n + 1) w ≠ [] := by
          intro h
          have h2 := rep_length (n + 1) w
          rw [h, Nat.succ_mul] at h2
          simp at h2
          exact hw (List.length_eq_zero_iff.1 (by omega))
        rw [List.getLast?_append, List.getLast?_eq_some_getLast hne] at ha
        rw [List.getLast?_append, ← rep_last (n := n), List.getLast?_eq_some_getLast hne]
        exact ha
end Fr
set_option Elab.async false
set_option linter.all false
set_option maxRecDepth 100000
set_option maxHeartbeats 2000000
/-! {e for x in xs}, e an int. -/
namespace WS
open PySem PySem.Spec PyProof.Rows L2 PpSet
/-- a set as it is when it is made -/
abbrev bareSet (w : World) : Obj := { cls := .type "set", dict := none, data := .set #[] 0 (.fresh 0 0 (!w.params.followText "set-order")) }
theorem bare_ok (w : World) (h : Heap) : SetR w (h.push (bareSet w)) h.objs.size (fun _ => false) 0 := by
  have led : w.params.followText "set-order" = true ∨ (!w.params.followText "set-order") = true := by
    cases w.params.followText "set-order"
    · right; rfl
    · left; rfl
  refine ⟨bareSet w, #[], 0, _, Heap.get?_push_size _ rfl, ⟨rfl, rfl, rfl⟩, rfl, ?_, ?_, ?_, by decide, rfl, rfl, List.Pairwise.nil, led⟩
  · intro e he; simp at he
  · simp
  · intro k; simp
/-- the new set at D, filled turn by turn -/
def Fills (w : World) (J : It) (g : TG) (tt : TT) (te : TE) (vs : List Nat) (σ : L2.St) (D : Addr) (Q : VK) (W : Nat → Nat → Hp → Prop) : Prop :=
  ∀ i m H, W i m H → (J.stop i H ∧ Q (.ref D) H) ∨ (J.go i H ∧ ∃ N : Hp → Prop, (∀ H', N H' → ∃ m', m' < m ∧ W (i + 1) m' H') ∧
    ∀ x H', J.yld i H x H' → g x (wipe σ vs) H' fun σ2 H2 => wipe σ2 vs = wipe σ vs ∧ tt σ2 H2 fun b H3 => if b = true then te σ2 H3 fun y H4 => rSAdd w (.ref D) [y] H4 fun _ H5 => N H5 else N H3)
def tSetI (w : World) (wi : TI) (g : TG) (tt : TT) (te : TE) (vs : List Nat) : TE := fun σ H Q => wi σ H fun J H1 => ∀ D, H1 D = none →
  ∃ W : Nat → Nat → Hp → Prop, (∃ m, W 0 m (upd H1 D (SetO w D (fun _ => false) 0))) ∧ Fills w J g tt te vs σ D Q W
section
variable {X : Cx}
/-- what a turn leaves known -/
def Known (X : Cx) (Z : Cx) (σw : L2.St) (fp : List Addr) (tn : Nat → Heap → Prop) (W : Nat → Nat → Hp → Prop) (m : Nat) (s : Shared) : Prop :=
  ∃ (i : Nat) (H : Hp), Inv Z [] σw H s ∧ tn i s.heap ∧ (∀ b ∈ fp, H b = none) ∧ W i m H
theorem fill_set {elt tg iter : Expr} {ifs : List Expr} {scope : Scope} {own : List (PySem.Str × Nat)} {pos : Pos} {g : TG} {tt : TT} {te : TE} {pins : List (Addr × Obj)} {σ : L2.St} {H3 : Hp} {s3 : Shared} {it D : Addr} {fp : List Addr} {tn : Nat → Heap → Prop} {J : It} {m0 : Nat} {W : Nat → Nat → Hp → Prop} {Q : VK}
    (calm : X.calm = true) (nod : X.N.Nodup) (blk : BlkOk X.N X.env.scope scope own)
    (target : ∀ (s : Shared) (H : Hp) (C : Addr) (cl : List (PySem.Str × Addr)) (fp : List Addr), PG (X.blk s H scope (compEnvC scope cl C X.env) fp) tg g)
    (tests : ∀ (s : Shared) (H : Hp) (C : Addr) (cl : List (PySem.Str × Addr)) (fp : List Addr), PTs (X.blk s H scope (compEnvC scope cl C X.env) fp) ifs tt)
    (item : ∀ (s : Shared) (H : Hp) (C : Addr) (cl : List (PySem.Str × Addr)) (fp : List Addr), PE (X.blk s H scope (compEnvC scope cl C X.env) fp) elt te)
    (T : Turn X.prog X.w X.K tg J fp it tn) (I3 : Inv X pins σ H3 s3) (off : ∀ b ∈ fp, FpOk X pins H3 b ∧ b < s3.heap.objs.size) (st3 : tn 0 s3.heap) (w0 : W 0 m0 H3) (turn : Fills X.w J g tt te (own.map (·.2)) σ D Q W) :
    codeAny (model X.prog X.w) X.A (.compStart (.SetComp elt [⟨tg, iter, ifs, 0⟩] scope pos) 0 (.ref it) (.ref D) (compEnvC scope (cellsFrom (s3.heap.objs.size + 1) scope.names (cloFrom X.env.cells scope.names [])) s3.heap.objs.size X.env))
      (compPost (model X.prog X.w) X.A X.xe none (EP X pins σ Q) (.ref D) s3.heap.objs.size) { s3 with heap := pushCells (s3.heap.push { cls := .type "dict", data := .dict #[] }) scope.names } := by
  have I4 := block_start I3 blk nod off
  have pg := target s3 H3 s3.heap.objs.size (cellsFrom (s3.heap.objs.size + 1) scope.names (cloFrom X.env.cells scope.names [])) fp
  have pt := tests s3 H3 s3.heap.objs.size (cellsFrom (s3.heap.objs.size + 1) scope.names (cloFrom X.env.cells scope.names [])) fp
  have pe := item s3 H3 s3.heap.objs.size (cellsFrom (s3.heap.objs.size + 1) scope.names (cloFrom X.env.cells scope.names [])) fp
  have st4 : tn 0 (pushCells (s3.heap.push { cls := .type "dict", data := .dict #[] }) scope.names) := T.keep _ _ _ st3 fun _ _ _ e => pushCells_keeps _ _ _ _ (Heap.get?_push_of_some _ e)
  obtain ⟨ce, ece⟩ : ∃ ce : Env, ce = compEnvC scope (cellsFrom (s3.heap.objs.size + 1) scope.names (cloFrom X.env.cells scope.names [])) s3.heap.objs.size X.env := ⟨_, rfl⟩
  have loc : ce.locals = s3.heap.objs.size := by rw [ece]; rfl
  rw [← ece] at I4 pg pt pe ⊢
  -- the places that the walk keeps
  have held : ∀ {σ' : L2.St} {H' : Hp} {s' : Shared}, Inv (X.blk s3 H3 scope ce fp) [] σ' H' s' → (∀ b ∈ fp, H' b = none) → ∀ b ∈ fp, FpOk (X.blk s3 H3 scope ce fp) [] H' b := by
    intro σ' H' s' I' none' b hb
    refine ⟨none' b hb, (I'.ok.exf b hb).1, I'.ok.exfs b hb, .inl hb, (I'.ok.exf b hb).2, fun p hp => ?_⟩
    simp at hp
  have all : codeAny (model X.prog X.w) X.A (.compLoop (.SetComp elt [⟨tg, iter, ifs, 0⟩] scope pos) 0 (.ref it) (.ref D) ce) (compPost (model X.prog X.w) X.A X.xe none (EP X pins σ Q) (.ref D) s3.heap.objs.size) { s3 with heap := pushCells (s3.heap.push { cls := .type "dict", data := .dict #[] }) scope.names } := by
    refine compLoopS_any (Known X (X.blk s3 H3 scope ce fp) (wipe σ (own.map (·.2))) fp tn W) (fun m s5 known => ?_) m0 ⟨0, H3, I4, st4, fun b hb => (off b hb).1.1, w0⟩
    obtain ⟨i, H5, I5, st5, none5, w5⟩ := known
    cases turn i m H5 w5 with
    | inl ended =>
      refine thnF (T.done (X.blk s3 H3 scope ce fp) rfl rfl rfl calm i [] s5 _ H5 (fun _ _ => False) I5 (held I5 none5) st5 ended.1) fun r s6 hr => ?_
      obtain ⟨rfl, I6⟩ := hr
      have back : Inv X pins σ H5 s6 := I3.call' (ch := fp) I6.os I6.base I6.hok I6.bare fun b hb => by
        obtain ⟨⟨_, f1, f2, f3, f4, f5⟩, _⟩ := off b hb
        exact ⟨f3, f1, f4, f5⟩
      have noL : H5 s3.heap.objs.size = none := by rw [← loc]; exact I6.free
      obtain ⟨mm, names, _⟩ := I6.loc
      have names' : s6.heap.Ns s3.heap.objs.size mm := by rw [← loc]; exact names
      obtain ⟨f0, f1, f2, f3, f4, f5⟩ := I3.fpOk (Nat.le_refl _) noL
      exact ⟨mm, names', fun h' same => ⟨.ref D, H5, back.turned (t' := s6.toks) (fun b o hb e => (same.2 b hb).trans e) f0 f1 f3 f4 f5, rfl, ended.2⟩⟩
    | inr goes =>
      obtain ⟨go, N, hN, step⟩ := goes
      refine thnF (T.item (X.blk s3 H3 scope ce fp) rfl rfl rfl calm i [] s5 _ H5 (fun _ _ => False) I5 (held I5 none5) st5 go) fun r s6 hr => ?_
      obtain ⟨u, rfl, h6⟩ := hr
      refine thnF h6 fun _ s7 h7 => ?_
      obtain ⟨x, H7, I7, r7, y7, st7, none7⟩ := h7
      refine thnF (pg.run _ s7 _ H7 x u _ (I7.pinned (held I7 none7) (T.obj _ _ st7)) r7 (step x H7 y7)) fun _ s8 h8 => ?_
      obtain ⟨σ8, H8, I8, wiped, q8⟩ := h8
      refine thnF (pt.run _ s8 σ8 H8 _ I8 q8) fun b s9 h9 => ?_
      obtain ⟨H9, I9, q9⟩ := h9
      have next : ∀ {s' : Shared} {H' : Hp}, Inv (X.blk s3 H3 scope ce fp) ([] ++ pinsAt fp s7.heap) σ8 H' s' → N H' → ∃ m', m' < m ∧ Known X (X.blk s3 H3 scope ce fp) (wipe σ (own.map (·.2))) fp tn W m' s' := by
        intro s' H' I' nx
        obtain ⟨m', lt, w'⟩ := hN H' nx
        have kept : ∀ b ∈ fp, ∀ o, s7.heap.get? b = some o → s'.heap.get? b = some o ∧ H' b = none := by
          intro b hb o e
          obtain ⟨z1, z2, _⟩ := I'.pin (b, o) (List.mem_append_right _ (List.mem_append_right _ (mem_pinsAt hb e)))
          exact ⟨z1, z2⟩
        have len : (wipe σ (own.map (·.2))).length = σ8.length := by rw [← wiped, wipe_length]
        refine ⟨m', lt, i + 1, H', (I'.unpinned (pins := [])).weak len (fun j v e => ?_), T.keep _ _ _ st7 fun b hb o e => (kept b hb o e).1, fun b hb => ?_, w'⟩
        · rw [← wiped] at e
          exact (wipe_some e).1
        · obtain ⟨o, e, _⟩ := T.obj _ _ st7 b hb
          exact (kept b hb o e).2
      cases b with
      | false =>
        rw [if_neg Bool.false_ne_true] at q9 ⊢
        exact next I9 q9
      | true =>
        rw [if_pos rfl] at q9 ⊢
        refine thnF (pe.run _ s9 σ8 H9 _ I9 q9) fun z s10 h10 => ?_
        obtain ⟨yv, H10, I10, r10, adds⟩ := h10
        refine thnF (mt_sadd (X := X.blk s3 H3 scope ce fp) _ s10 σ8 H10 (.ref D) [yv] (.ref D) [z] _ I10 rfl (.cons r10 .nil) adds) fun _ s11 h11 => ?_
        obtain ⟨_, H11, I11, _, nx⟩ := h11
        exact next I11 nx
  exact codeAny_compStart_set all (T.self X.A 0 _ _ _ st4 all)
theorem pe_setI {elt tg iter : Expr} {ifs : List Expr} {scope : Scope} {own : List (PySem.Str × Nat)} {pos : Pos} {wi : TI} {g : TG} {tt : TT} {te : TE} (calm : X.calm = true) (nod : X.N.Nodup) (walked : PI X tg iter wi) (blk : BlkOk X.N X.env.scope scope own)
    (target : ∀ (s : Shared) (H : Hp) (C : Addr) (cl : List (PySem.Str × Addr)) (fp : List Addr), PG (X.blk s H scope (compEnvC scope cl C X.env) fp) tg g)
    (tests : ∀ (s : Shared) (H : Hp) (C : Addr) (cl : List (PySem.Str × Addr)) (fp : List Addr), PTs (X.blk s H scope (compEnvC scope cl C X.env) fp) ifs tt)
    (item : ∀ (s : Shared) (H : Hp) (C : Addr) (cl : List (PySem.Str × Addr)) (fp : List Addr), PE (X.blk s H scope (compEnvC scope cl C X.env) fp) elt te) (plain : ∀ x, foldedSetIterable iter X.env x = pure x := by intro _; rfl) :
    PE X (.SetComp elt [⟨tg, iter, ifs, 0⟩] scope pos) (tSetI X.w wi g tt te (own.map (·.2))) := by
  refine ⟨fun pins s σ H Q I asked => ?_⟩
  rw [eval_SetComp]
  have caught : ∀ y ∈ scope.names, y.2 = .free → ∃ c, X.env.cells.lookup y.1 = some c := by
    intro y hy e
    cases blk.free y hy e with
    | inl k => exact I.ok.has _ (.inl k)
    | inr k => exact I.ok.has _ (.inr k)
  refine wpAny_comprehension_free (use := none) rfl plain (closure_ok caught) blk.kind (fun y hy e => by rw [blk.uniq y hy, e]) ?_
  refine thn (walked.run pins s σ H _ I asked) fun _ _ h1 => thn h1 fun _ s2 h2 => ?_
  obtain ⟨it, fp, tn, J, H2, rfl, I2, T, st2, off2, fill⟩ := h2
  refine newSet_ok (newEnv_comp ?_)
  have free0 : H2 s2.heap.objs.size = none := I2.hok.fresh (Nat.le_refl _)
  obtain ⟨W, ⟨m0, w0⟩, turn⟩ := fill s2.heap.objs.size free0
  have I3 : Inv X pins σ (upd H2 s2.heap.objs.size (SetO X.w s2.heap.objs.size (fun _ => false) 0)) { s2 with heap := s2.heap.push (bareSet X.w) } :=
    I2.laid (t' := s2.toks) (fun _ _ e => Heap.get?_push_of_some _ e) (Nat.le_refl _) (setO_new (bare_ok X.w s2.heap))
  have below : ∀ b ∈ fp, b < s2.heap.objs.size := by
    intro b hb
    obtain ⟨o, e, _⟩ := T.obj _ _ st2 b hb
    exact Heap.lt_size e
  have off3 : ∀ b ∈ fp, FpOk X pins (upd H2 s2.heap.objs.size (SetO X.w s2.heap.objs.size (fun _ => false) 0)) b ∧ b < (s2.heap.push (bareSet X.w)).objs.size := by
    intro b hb
    refine ⟨⟨?_, (off2 b hb).2⟩, by rw [Heap.size_push]; exact Nat.lt_succ_of_lt (below b hb)⟩
    rw [upd_ne (Nat.ne_of_lt (below b hb))]
    exact (off2 b hb).1
  exact fill_set calm nod blk target tests item T I3 off3 (T.keep _ _ _ st2 fun _ _ _ e => Heap.get?_push_of_some _ e) w0 turn
end
end WS
set_option Elab.async false
set_option linter.all false
set_option maxRecDepth 100000
set_option maxHeartbeats 2000000
/-! t[::-1]; tuple * int for 0 and 1. -/
namespace WR
open PySem PySem.Spec PyProof.Rows L2
section
variable {prog : Program} {w : World} {A : Around} {E : Value → Shared → Prop} {s : Shared}
theorem adjust_back (n : Nat) : Builtin.Slice.sliceAdjust none none (-1) (n : Int) = ((n : Int) - 1, -1) := by
  unfold Builtin.Slice.sliceAdjust
  simp
theorem places_back (n : Nat) : Builtin.Slice.slicePlaces ((n : Int) - 1) (-1) (-1) = n := by
  unfold Builtin.Slice.slicePlaces
  have h1 : ¬ ((-1 : Int) > 0) := by omega
  simp only [h1, if_false]
  rw [show (- -1 : Int) = 1 by decide, Int.ediv_one]
  split <;> omega
theorem fm_congr {α β : Type} {f g : α → Option β} : ∀ {l : List α}, (∀ m ∈ l, f m = g m) → l.filterMap f = l.filterMap g
  | [], _ => rfl
  | a :: t, h => by
    rw [List.filterMap_cons, List.filterMap_cons, h a List.mem_cons_self, fm_congr fun m hm => h m (List.mem_cons_of_mem _ hm)]
theorem pick_back (xs : Array Value) : ((List.range xs.size).filterMap fun (m : Nat) => xs[((xs.size : Int) - 1 + (m : Int) * (-1)).toNat]?).toArray = xs.toList.reverse.toArray := by
  have e : (List.range xs.size).filterMap (fun (m : Nat) => xs[((xs.size : Int) - 1 + (m : Int) * (-1)).toNat]?) = ((List.range xs.size).map fun k => xs.size - 1 - k).filterMap (xs[·]?) := by
    rw [List.filterMap_map]
    refine fm_congr fun m hm => ?_
    have hm2 := List.mem_range.mp hm
    have : ((xs.size : Int) - 1 + (m : Int) * (-1)).toNat = xs.size - 1 - m := by omega
    rw [this]
    rfl
  rw [e, PySem.W.krv_range, List.filterMap_reverse, PySem.W.krv_all]
theorem sliceApplied_back {sl : Addr} {vl vu vs : Value} {n : Nat} {Q : Int × Int × Nat → Shared → Prop} (hs : s.heap.IsSliceOf sl vl vu vs) (pl : IsPart vl none) (pu : IsPart vu none) (ps : IsPart vs (some (-1)))
    (h : Q ((n : Int) - 1, -1, n) s) : wpAny (model prog w) A (Builtin.Slice.sliceApplied (.ref sl) (pure (n : Int))) Q E s := by
  obtain ⟨os, hos, hcs, hds⟩ := id hs
  unfold Builtin.Slice.sliceApplied Builtin.Slice.sliceFields
  refine wpAny_bind (wpAny_bind (wpAny_field hos hds (x := vl) rfl (wpAny_bind (wpAny_field hos hds (x := vu) rfl (wpAny_bind (wpAny_field hos hds (x := vs) rfl (wpAny_pure ?_)))))))
  refine wpAny_bind (HT.slicePart_ ps ?_)
  show wpAny _ _ (if ((-1 : Int) == 0) = true then _ else _) _ _ s
  rw [if_neg (by decide)]
  refine wpAny_bind (HT.slicePart_ pl (wpAny_bind (HT.slicePart_ pu (wpAny_bind (wpAny_pure ?_)))))
  show wpAny _ _ (match Builtin.Slice.sliceAdjust none none (-1) (n : Int) with | (lo, hi) => pure (lo, (-1 : Int), Builtin.Slice.slicePlaces lo hi (-1))) _ _ s
  rw [adjust_back n]
  show wpAny _ _ (pure ((n : Int) - 1, (-1 : Int), Builtin.Slice.slicePlaces ((n : Int) - 1) (-1) (-1))) _ _ s
  rw [places_back]
  exact wpAny_pure h
theorem getItem_tuple_back {t sl : Addr} {items : Array Value} {vl vu vs : Value} {Q : Value → Shared → Prop} (ht : IsTup s.heap t items) (hs : s.heap.IsSliceOf sl vl vu vs) (pl : IsPart vl none) (pu : IsPart vu none) (ps : IsPart vs (some (-1)))
    (h : Q (.ref s.heap.objs.size) { s with heap := s.heap.push { cls := .type "tuple", data := .seq items.toList.reverse.toArray } })
    (hsz : items.size ≤ sizeLine) : wpAny (model prog w) A (getItem (.ref t) (.ref sl)) Q E s := by
  have htake : sizeOk (.seq items.toList.reverse.toArray) := by
    show items.toList.reverse.toArray.size ≤ sizeLine
    rw [List.size_toArray, List.length_reverse, Array.length_toList]
    exact hsz
  obtain ⟨os, hos, hcs, hds⟩ := id hs
  have hTs : s.TypeIs (.ref sl) "slice" := ⟨os, hos, hcs⟩
  unfold getItem
  try with_reducible refine wpAny_holding ?_
  first | refine wpAny_bind (wpAny_pure ?_) | skip
  refine wpAny_bind (wpAny_sequenceKey ht.typeIs (by decide) ?_)
  refine wpAny_bind (wpAny_callSpecial?_slot (name := Str.ofString "__getitem__") ht.typeIs PyProof.Rows.slot_tuple_getitem
    (wpAny_call_entry PyProof.Rows.slot_tuple_getitem ht.typeIs entry_tuple_getitem ?_ (args_tuple_getitem _ _)))
  show wpAny _ _ (Builtin.Tuple.tupleItemsOf (.ref t) >>= _) _ _ s
  refine wpAny_bind (tupleItemsOf_ ht ?_)
  refine wpAny_bind (wpAny_typeOf hTs ?_)
  rw [if_pos (by decide)]
  refine wpAny_bind (sliceApplied_back hs pl pu ps ?_)
  have hno : ¬ ((((items.size : Int) - 1) == 0 && (-1 : Int) == 1 && items.size == items.size) = true) := by
    intro q
    rw [Bool.and_eq_true, Bool.and_eq_true] at q
    exact absurd q.1.2 (by decide)
  show wpAny _ _ (if (((items.size : Int) - 1) == 0 && (-1 : Int) == 1 && items.size == items.size) = true then _ else _) _ _ s
  rw [if_neg hno, pick_back]
  first
    | exact wpAny_bind (m := Builtin.Tuple.tupleExact _) (wpAny_newObj_type (wpAny_pure ⟨_, rfl, wpAny_pure h⟩) htake)
    | exact wpAny_bind (m := Builtin.Tuple.tupleExact _) (wpAny_newObj_type (wpAny_bind (wpAny_pure (wpAny_pure ⟨_, rfl, wpAny_pure h⟩))) htake)
end
section
variable {X : Cx}
def tRevT (K : PySem.W.Frag) (te : TE) : TE := fun σ H Q => te σ H fun x H1 => ∃ a xs, x = .ref a ∧ SqT K H1 a xs ∧ ∀ p, H1 p = none → Q (.ref p) (upd H1 p (.tup xs.reverse))
theorem pe_revT {e : Expr} {te : TE} {k : Nat} {p1 p2 p3 pos : Pos} (he : PE X e te) : PE X (.Subscript e (.Slice none none (some (.UnaryOp .USub (.Constant (.int 1) k p1) p2)) p3) pos) (tRevT X.K te) := by
  refine ⟨fun pins s σ H Q I h => ?_⟩
  refine Subscript_ (thn (he.run pins s σ H _ I h) fun v s1 ⟨x, H1, I1, r1, q1⟩ => ?_)
  obtain ⟨a, xs, ex, hx, q⟩ := q1
  subst ex
  cases r1
  have hst : PO X (some (.UnaryOp .USub (.Constant (.int 1) k p1) p2)) (tPart (tUn (rU fun i => .int (-i)) (tC (.int 1)))) := po_some (pe_un un_neg pe_int)
  refine wpAny_Slice (thn (po_none.run pins s1 σ H1 (fun o H2 => o = none ∧ H2 = H1) I1 ⟨rfl, rfl⟩) fun vl s2 ⟨l, H2, I2, pl, el, e2⟩ => ?_)
  subst el e2
  refine thn (po_none.run pins s2 σ H2 (fun o H3 => o = none ∧ H3 = H2) I2 ⟨rfl, rfl⟩) fun vu s3 ⟨u, H3, I3, pu, eu, e3⟩ => ?_
  subst eu e3
  refine thn (hst.run pins s3 σ H3 (fun o H4 => o = some (-1) ∧ H4 = H3) I3 ⟨1, rfl, -1, rfl, rfl, rfl⟩) fun vs s4 ⟨o, H4, I4, ps, eo, e4⟩ => ?_
  subst eo e4
  have I5 : Inv X pins σ H4 { s4 with heap := s4.heap.push { cls := .type "slice", data := .fields #[vl, vu, vs] } } := I4.kept (t' := s4.toks) fun b ob q => Heap.get?_push_of_some _ q
  obtain ⟨its, r, ht, hz⟩ := I5.tuple hx
  have hlen := r.length
  show wpAny (model X.prog X.w) X.A (subscriptTail e (.Slice none none (some (.UnaryOp .USub (.Constant (.int 1) k p1) p2)) p3) (.ref a) (.ref s4.heap.objs.size)) (EP X pins σ Q) X.xe { s4 with heap := s4.heap.push { cls := .type "slice", data := .fields #[vl, vu, vs] } }
  refine tail_any (ops := [.ref a, .ref s4.heap.objs.size]) ht.typeIs (PyProof.Rows.slot_tuple_getitem.lookup) ?_ (by with_unfolding_all rfl)
  refine getItem_tuple_back ht (Heap.IsSliceOf.new _ vl vu vs) pl pu ps ?_ (by rw [List.size_toArray]; omega)
  refine ⟨.ref _, _, I5.laid (t' := s4.toks) (o := .tup xs.reverse) (fun b ob q => Heap.get?_push_of_some _ q) (Nat.le_refl _) ?_, rfl, q _ (I5.hok.fresh (Nat.le_refl _))⟩
  exact ⟨by rw [List.length_reverse]; exact hz, _, r.reverse, IsTup.new _ _⟩
end

theorem tuple_mulS (l : Addr) (items : Array Value) (n : Nat) (dd : Option Addr) (sl : Array (Option Value)) (x : Int) (u : Tok) (c0 : (decide (x < -(2 ^ 63)) || decide (x ≥ 2 ^ 63)) = false) (c1 : (items.isEmpty || x == 1) = true) :
    Meets (Builtin.«tuple.__mul__» ⟨[.ref l, .int x u], []⟩) (fun _ R s => s.heap.get? l = some { cls := .type "tuple", dict := dd, data := .seq items n, slots := sl } ∧
      R (.ok (.ret (Value.ref l))) { s with heap := s.heap, toks := s.toks }) :=
  .of_wp fun prog w A R s h => by
    obtain ⟨hp, g, d, tk, os⟩ := s
    obtain ⟨hl, h⟩ := h
    have f1 := AutoSeq1.idx_int
    wp_walk using wpAny_loadPart' hl
    repeat (first
      | (refine wpAny_ite_false (decide_eq_false (by rw [c0]; exact Bool.false_ne_true)) ?_; wp_walk using wpAny_loadPart' hl)
      | (refine wpAny_ite_true (decide_eq_true c1) ?_; wp_walk using wpAny_loadPart' hl)
      | (refine wpAny_ite_true c1 ?_; wp_walk using wpAny_loadPart' hl))
    exact ⟨_, rfl, h⟩
theorem tuple_mul0 (l : Addr) (items : Array Value) (n : Nat) (dd : Option Addr) (sl : Array (Option Value)) (x : Int) (u : Tok) (c0 : (decide (x < -(2 ^ 63)) || decide (x ≥ 2 ^ 63)) = false) (c1 : (items.isEmpty || x == 1) = false) (c2 : (decide (x ≤ 0) || items.isEmpty) = true) :
    Meets (Builtin.«tuple.__mul__» ⟨[.ref l, .int x u], []⟩) (fun _ R s => s.heap.get? l = some { cls := .type "tuple", dict := dd, data := .seq items n, slots := sl } ∧
      R (.ok (.ret (Value.ref s.heap.objs.size))) { s with heap := s.heap.push { cls := Value.type "tuple", data := Data.seq #[] }, toks := s.toks }) :=
  .of_wp fun prog w A R s h => by
    obtain ⟨hp, g, d, tk, os⟩ := s
    obtain ⟨hl, h⟩ := h
    have f1 := AutoSeq1.idx_int
    wp_walk using wpAny_loadPart' hl
    repeat (first
      | (refine wpAny_ite_false (decide_eq_false (by rw [c0]; exact Bool.false_ne_true)) ?_; wp_walk using wpAny_loadPart' hl)
      | (refine wpAny_ite_false (decide_eq_false (by rw [c1]; exact Bool.false_ne_true)) ?_; wp_walk using wpAny_loadPart' hl)
      | (refine wpAny_ite_true (decide_eq_true c2) ?_; wp_walk using wpAny_loadPart' hl))
    exact ⟨_, rfl, h⟩
/-- some tuple of these values, all else as it stood -/
def NewT (K : PySem.W.Frag) (H : Hp) (Q : VK) (xs : List V) : Prop := ∀ p H', Same H H' → SqT K H' p xs → Q (.ref p) H'
theorem same_upd {H : Hp} {p : Addr} {o : HO} (hp : H p = none) : Same H (upd H p o) := fun b u e => by
  rw [upd_ne (ne_of_none e hp)]
  exact e
theorem Same.seqT {K : PySem.W.Frag} {H H' : Hp} {a : Addr} {xs : List V} (e : Same H H') (h : SqT K H a xs) : SqT K H' a xs := by
  rcases h with h | h
  · left
    rcases h with h | ⟨o, h⟩
    · exact .inl (e _ _ h)
    · exact .inr ⟨o, e _ _ h⟩
  · exact .inr h
theorem NewT.self {K : PySem.W.Frag} {H : Hp} {Q : VK} {xs : List V} {a : Addr} (k : NewT K H Q xs) (h : SqT K H a xs) : Q (.ref a) H := k a H (Same.refl H) h
theorem NewT.new {K : PySem.W.Frag} {H : Hp} {Q : VK} {xs : List V} (k : NewT K H Q xs) {p : Addr} (hp : H p = none) : Q (.ref p) (upd H p (.tup xs)) := k p _ (same_upd hp) (SqT.of upd_same)
section
variable {X : Cx}
def rSlU (K : PySem.W.Frag) : V → Option Int → Option Int → Hp → VK → Prop := fun x lo hi H Q => ∃ a xs, x = .ref a ∧ SqT K H a xs ∧ NewT K H Q (cutV xs lo hi)
theorem sl_tupU : SlR X (rSlU X.K) := by
  intro pins s σ H x v vl vu lo hi sl Q I rx hs pl pu h
  obtain ⟨a, xs, rfl, hx, k⟩ := h
  refine sl_tupA pins s σ H _ v vl vu lo hi sl Q I rx hs pl pu ⟨a, xs, rfl, hx, fun e => ?_, fun _ p hp => k.new hp⟩
  refine k.self ?_
  have : cutV xs lo hi = xs := by
    unfold cutV
    rw [e.1, e.2, List.drop_zero, Nat.sub_zero, List.take_of_length_le (Nat.le_refl _)]
  rw [this]
  exact hx
def rCatU (K : PySem.W.Frag) : R2 := fun x y H Q => ∃ a b xs ys, x = .ref a ∧ y = .ref b ∧ SqT K H a xs ∧ SqT K H b ys ∧ xs.length + ys.length ≤ sizeLine ∧ NewT K H Q (xs ++ ys)
theorem op_catU : OpR X (binaryOp .Add) (rCatU X.K) := by
  intro pins s σ H x y v u Q I rx ry h
  obtain ⟨a, b, xs, ys, rfl, rfl, ha, hb, hz, k⟩ := h
  by_cases hx : xs = []
  · subst hx
    cases rx
    cases ry
    obtain ⟨its, r1, p1, _⟩ := I.tuple ha
    obtain ⟨its2, r2, p2, _⟩ := I.tuple hb
    cases r1
    obtain ⟨⟨cls, dd, data, sl⟩, ho, hc, n, hd⟩ := id p1
    obtain ⟨⟨cls2, dd2, data2, sl2⟩, ho2, hc2, n2, hd2⟩ := id p2
    simp only at hc hd hc2 hd2
    subst hc hd hc2 hd2
    exact concat_meets ⟨_, ho, rfl⟩ ⟨_, ho2, rfl⟩ noFill_tuple_add seq_tuple_add PySem.F.slot_tuple_add PySem.F.entry_tuple_add (PySem.F.args_tuple_add_2 _ _)
      (tuple_addW0 a b _ its2.toArray n n2 dd dd2 sl sl2 (by simp)) ⟨ho, ho2, ⟨.ref b, H, I, rfl, k.self hb⟩⟩
  · refine op_catT pins s σ H _ _ v u Q I rx ry ⟨a, b, xs, ys, rfl, rfl, ha, hb, hx, hz, fun e => ?_, fun _ p hp => k.new hp⟩
    subst e
    rw [List.append_nil] at k
    exact k.self ha
def rRepU (K : PySem.W.Frag) : R2 := fun x y H Q => ∃ l k xs, x = .ref l ∧ y = .int k ∧ SqT K H l xs ∧ 0 ≤ k ∧ k ≤ 1000 ∧ xs.length ≤ 1000 ∧ NewT K H Q (List.replicate k.toNat xs).flatten
theorem op_repU : OpR X (binaryOp .Mult) (rRepU X.K) := by
  intro pins s σ H x y v u Q I rx ry h
  obtain ⟨l, k, xs, rfl, rfl, hT, h1, h2, hz, kq⟩ := h
  by_cases hne : xs ≠ [] ∧ 2 ≤ k
  · exact op_repT pins s σ H _ _ v u Q I rx ry ⟨l, k, xs, rfl, rfl, hT, hne.1, hne.2, h2, hz, fun p hp => kq.new hp⟩
  cases rx
  obtain ⟨t, rfl⟩ := ry
  obtain ⟨its, r, ⟨⟨cls, dd, data, sl⟩, ho, hc, n, hd⟩, hs⟩ := I.tuple hT
  simp only at hc hd
  subst hc hd
  have c0 : (decide (k < -(2 ^ 63)) || decide (k ≥ 2 ^ 63)) = false := by
    rw [decide_eq_false (by omega), decide_eq_false (by omega)] <;> rfl
  by_cases hs1 : (its.toArray.isEmpty || k == 1) = true
  · refine wpAny_binaryOp_repeat_ref (T := "tuple") (U := "int") (by decide) ⟨_, ho, rfl⟩ (fun s' => typeIs_int s' k t) noFill_tuple_mul F.fills_int_mul F.slot_int_rmul repeat_tuple F.slot_int_index.lookup
      (call_meets F.slot_int_rmul (typeIs_int s k t) F.entry_int_rmul (F.args_int_rmul_2 _ _) (int_rmul_tuple k t l its.toArray n dd sl)
        ⟨ho, rfl, ⟨_, ho, rfl⟩, call_meets F.slot_tuple_mul ⟨_, ho, rfl⟩ F.entry_tuple_mul (F.args_tuple_mul_2 _ _) (tuple_mulS l its.toArray n dd sl k t c0 hs1) ⟨ho, ?_⟩⟩)
    refine ⟨.ref l, H, I, rfl, kq.self ?_⟩
    rw [Bool.or_eq_true] at hs1
    rcases hs1 with e | e
    · have ei : its = [] := by simpa using e
      have ex : xs = [] := by
        have := r.length
        rw [ei] at this
        exact List.eq_nil_of_length_eq_zero this
      subst ex
      have : (List.replicate k.toNat ([] : List V)).flatten = [] := by simp
      rw [this]
      exact hT
    · have : k = 1 := eq_of_beq e
      subst this
      have : (List.replicate (1 : Int).toNat xs).flatten = xs := by simp
      rw [this]
      exact hT
  · have hs1' : (its.toArray.isEmpty || k == 1) = false := by
      cases e : (its.toArray.isEmpty || k == 1) with
      | false => rfl
      | true => exact absurd e hs1
    have hxs : xs ≠ [] := fun e => by
      subst e
      cases r
      exact hs1 rfl
    have k1 : k ≠ 1 := fun e => by
      rw [e] at hs1'
      simp at hs1'
    have k0 : k = 0 := by
      have : ¬ 2 ≤ k := fun e => hne ⟨hxs, e⟩
      omega
    subst k0
    refine wpAny_binaryOp_repeat_ref (T := "tuple") (U := "int") (by decide) ⟨_, ho, rfl⟩ (fun s' => typeIs_int s' 0 t) noFill_tuple_mul F.fills_int_mul F.slot_int_rmul repeat_tuple F.slot_int_index.lookup
      (call_meets F.slot_int_rmul (typeIs_int s 0 t) F.entry_int_rmul (F.args_int_rmul_2 _ _) (int_rmul_tuple 0 t l its.toArray n dd sl)
        ⟨ho, rfl, ⟨_, ho, rfl⟩, call_meets F.slot_tuple_mul ⟨_, ho, rfl⟩ F.entry_tuple_mul (F.args_tuple_mul_2 _ _) (tuple_mul0 l its.toArray n dd sl 0 t c0 hs1' rfl) ⟨ho, ?_⟩⟩)
    refine ⟨.ref s.heap.objs.size, _, I.laid (t' := s.toks) (o := .tup []) (fun b ob q => Heap.get?_push_of_some _ q) (Nat.le_refl _) ?_, rfl, kq.new (xs := []) (I.hok.fresh (Nat.le_refl _))⟩
    exact ⟨Nat.zero_le _, [], .nil, IsTup.new _ _⟩
end
end WR
set_option Elab.async false
set_option linter.all false
set_option maxRecDepth 100000
set_option maxHeartbeats 2000000
/-! Words: rows of letters. -/
namespace W05
open PySem L2 PySem.Spec PyProof.Rows WR
def top (i : Nat) : Stmt := PySem.Challenge.pw_handlerims_k05_shortened_in_one_way.main.body.getD i (.Pass ⟨0, 0, 0, 0⟩)
abbrev sCon : Stmt := top 15
abbrev sShr : Stmt := top 16
abbrev sRnd : Stmt := top 17

theorem gen_heap {P : Hp → Prop} {H : Hp} (h : ∀ H3, H3 = H → P H3) : P H := h H rfl
theorem yes_te {σ : L2.St} {H : Hp} {A B : Hp → Prop} (h : A H) : tYes σ H (fun b H3 => if b = true then A H3 else B H3) := by
  show (if (true : Bool) = true then A H else B H)
  exact iteT h
/-! ### a def that the module's name x holds, with its promise -/
structure Cal (P : Program) (w : World) (K : PySem.W.Frag) (mg : Str → Option Value) (base : Heap) (x : Str) (k : Nat) (ps : List Str) (sp : Sp) : Prop where
  ex : ∃ (f : Addr) (fd : FuncData), FnOk P w K mg base CX0 k f fd ps sp ∧ mg x = some (.ref f) ∧ PySem.W.keepIn K (.ref f) = true ∧ Binds K fd ps []
section
variable {X : Cx} {x : Str} {k j : Nat} {ps : List Str} {sp : Sp} {p pos : Pos} {e : Expr} {es : List Expr} {t : TA}
theorem pe_cal (C : Cal X.prog X.w X.K X.mg X.base x k ps sp) (hr : Room j X.A) (hkj : k ≤ j) (hg : Gl X x) (ha : PA X (e :: es) t) (hdb : (x == ("__debug__" : Str)) = false := by decide)
    (he : starEach (e :: es) X.env = (false, eval e X.env) :: starEach es X.env := by rfl) (hpl : (backTo pos (starEach es X.env)).any (·.1) = false := by rfl) :
    PE X (.Call (.Name x p) (e :: es) [] pos) (tCall sp [] E0 t) := by
  obtain ⟨f, fd, F, hm, hk, hb⟩ := C.ex
  exact pe_call F (hr.mono hkj) hg hm hk hb .nil pass0 ha hdb he hpl
end
/-! ### comprehensions that change nothing -/
theorem lc_in {wi : TI} {g : TG} {tt : TT} {te : TE} {vs : List Nat} {σ : L2.St} {H : Hp} {Q : VK} (h : wi σ H fun J H1 => tLc (fun _ H R => R J H) g tt te vs σ H1 Q) : tLc wi g tt te vs σ H Q := h
theorem lcp {J : It} {xs : List V} {G : Hp → Prop} (w : Walk J xs.length G (YAt xs)) {g : TG} {tt : TT} {te : TE} {vs : List Nat} {σ : L2.St} {H1 : Hp} {Q : VK} (f : V → Bool) (v : V → V) (hz : xs.length < 40000) (hG : ∀ H, Same H1 H → G H)
    (hs : ∀ x, x ∈ xs → ∀ H, Same H1 H → ∀ (Qy : V → Hp → Prop) (Qn : Hp → Prop), (f x = true → ∀ H', Same H H' → Qy (v x) H') → (f x = false → ∀ H', Same H H' → Qn H') →
      g x (wipe σ vs) H fun σ2 H2 => wipe σ2 vs = wipe σ vs ∧ tt σ2 H2 fun b H3 => if b = true then te σ2 H3 Qy else Qn H3)
    (hd : ∀ (D : Addr) H', H1 D = none → Same H1 H' → H' D = some (.lst ((xs.filter f).map v)) → Q (.ref D) H') : tLc (fun _ H R => R J H) g tt te vs σ H1 Q := by
  intro D hD
  refine lc_it w (fun i H => Same H1 H ∧ H D = some (.lst (((xs.take i).filter f).map v))) ⟨fun b o e => by rw [upd_ne (ne_of_none e hD)]; exact e, upd_same⟩ (fun i H _ q => hG H q.1) ?_ ?_
  · rintro i x H H' hi q ⟨rfl, hx⟩
    have hm : x ∈ xs := List.mem_of_getElem? hx
    have et : xs.take (i + 1) = xs.take i ++ [x] := by
      have hx2 : xs[i] = x := (List.getElem?_eq_some_iff.mp hx).2
      rw [List.take_succ_eq_append_getElem hi, hx2]
    refine hs x hm H' q.1 _ _ (fun hf H2 s2 => ⟨_, s2 _ _ q.2, ?_, ?_, ?_⟩) (fun hf H2 s2 => ⟨fun b o e => s2 b o (q.1 b o e), ?_⟩)
    · refine Evl.sz_lt ?_
      rw [List.length_map]
      have := List.length_filter_le f (xs.take i)
      rw [List.length_take] at this
      omega
    · intro b o e
      rw [upd_ne (ne_of_none e hD)]
      exact s2 b o (q.1 b o e)
    · rw [upd_same, et, List.filter_append, List.map_append, List.filter_cons, if_pos hf]
      rfl
    · rw [et, List.filter_append, List.filter_cons, if_neg (by rw [hf]; decide)]
      show H2 D = some (.lst (((xs.take i).filter f ++ []).map v))
      rw [List.append_nil]
      exact s2 _ _ q.2
  · intro H q
    have q2 := q.2
    rw [List.take_length] at q2
    exact hd D H hD q.1 q2

theorem ret_cb {r : List V → Hp → VK → Prop} {te : TE} {D : Ends} {σ : L2.St} {H : Hp} (h : te σ H fun x H1 => r [x] H1 D.rt) : tRet (tCB r (tCons te tNil)) D σ H := h
theorem ret_e {te : TE} {D : Ends} {σ : L2.St} {H : Hp} (h : te σ H D.rt) : tRet te D σ H := h
theorem iteT' {c : Bool} {A B : Prop} (hc : c = true) (h : A) : if c = true then A else B := by rw [if_pos hc]; exact h
abbrev iv (ns : List Int) : List V := ns.map V.int
def SqE (K : PySem.W.Frag) (H : Hp) (a : Addr) (xs : List V) : Prop := SqL K H a xs ∨ SqT K H a xs
theorem SqE.same {K : PySem.W.Frag} {H H' : Hp} {a : Addr} {xs : List V} (h : SqE K H a xs) (s : Same H H') : SqE K H' a xs := by
  rcases h with h | h
  · exact .inl (s.seq h)
  · exact .inr (WR.Same.seqT s h)
def spCon (K : PySem.W.Frag) : Sp := fun vs H Q _ => ∃ (a : Addr) (ns : List Int), vs = [.ref a] ∧ SqT K H a (iv ns) ∧ ns.length ≤ 1000 ∧ NewT K H Q (iv (Fr.con ns))
def spShr (K : PySem.W.Frag) : Sp := fun vs H Q _ => ∃ (a : Addr) (ns : List Int), vs = [.ref a] ∧ SqE K H a (iv ns) ∧ ns.length ≤ 1000 ∧ NewT K H Q (iv (Fr.shr ns))
def spRnd (K : PySem.W.Frag) : Sp := fun vs H Q _ => ∃ (a : Addr) (ns : List Int), vs = [.ref a] ∧ SqE K H a (iv ns) ∧ ns.length ≤ 1000 ∧ Fr.NZ ns ∧ NewT K H Q (iv (Fr.rnd ns))
structure TxA (mg : Str → Option Value) : Prop where
  tuple : mg "tuple" = none
  len : mg "len" = none
section
variable {P : Program} {w : World} {K : PySem.W.Frag} {mg : Str → Option Value} {base : Heap}
theorem scCon : FnScope ["letters", "letter"] ["letters"] (defScope sCon) := ⟨rfl, rfl, rfl, by decide +kernel, rfl, by decide +kernel, by decide +kernel⟩
theorem ok_con {f : Addr} {fd : FuncData} (F : Fun K "contrary_letters" "contrary_letters" sCon f fd) (T : TxA mg) : FnOk P w K mg base CX0 1 f fd ["letters"] (spCon K) := by
  refine F.ok scCon (fun vs H Q E h => ?_) (fun cdv A outer s H vs Q E hr h => ?_)
  · obtain ⟨a, ns, rfl, _⟩ := h
    rfl
  · obtain ⟨a, ns, rfl, hS, hlen, k⟩ := h
    refine ⟨_, pss_one (ps_ret (pe_callTy call_tuple_of (by rfl) T.tuple (by decide +kernel) (pa_cons (pe_lc (own := [("letter", 1)]) (g := gName 1) (tt := tYes) rfl scCon.nd (pi_tup (pe_revT (pv 0)))
      (blkOk_by (N := ["letters", "letter"]) (sc := defScope sCon) (by decide +kernel)) (fun _ _ _ _ _ => pg_name (i := 1) scCon.nd rfl (Or.inl rfl)) (fun _ _ _ _ _ => pts_nil)
      (fun _ _ _ _ _ => pe_un un_neg (pv 1))) pa_nil))), ?_⟩
    refine ret_cb (lc_in ?_)
    refine ⟨_, rfl, a, iv ns, rfl, hS, fun p hp => ?_⟩
    refine ⟨p, rfl, ⟨_, SqT.of upd_same⟩, ?_⟩
    refine lcp (walk_tup (xs := (iv ns).reverse)) (fun _ => true) (fun x => match x with | .int i => .int (-i) | _ => .non) (by simp; omega) (fun H2 s2 => SqT.of (s2 _ _ upd_same)) ?_ ?_
    · intro x hx H2 s2 Qy Qn ky kn
      obtain ⟨i, rfl⟩ : ∃ i, x = V.int i := by
        simp at hx
        obtain ⟨i, _, rfl⟩ := hx
        exact ⟨i, rfl⟩
      refine ⟨rfl, yes_te ?_⟩
      exact ⟨_, rfl, i, rfl, ky rfl H2 (fun _ _ e => e)⟩
    · intro D H2 hD s2 h2
      refine ⟨D, _, rfl, .inl ⟨SqL.of h2, fun l hl => ?_⟩⟩
      have e : (((iv ns).reverse.filter fun _ => true).map fun x => match x with | .int i => V.int (-i) | _ => .non) = iv (Fr.con ns) := by
        rw [List.filter_eq_self.mpr (fun _ _ => rfl)]
        unfold Fr.con
        simp [iv, List.map_reverse, Function.comp_def]
      rw [e]
      exact k l _ ((same_upd hp).trans (s2.trans (same_upd hl))) (SqT.of upd_same)
theorem scShr : FnScope ["letters", "left", "letter"] ["letters"] (defScope sShr) := ⟨rfl, rfl, rfl, by decide +kernel, rfl, by decide +kernel, by decide +kernel⟩
theorem act_take {ns : List Int} {i : Nat} {x : Int} (h : ns[i]? = some x) : Fr.act [] (ns.take (i + 1)) = Fr.push (Fr.act [] (ns.take i)) x := by
  have hi : i < ns.length := (List.getElem?_eq_some_iff.mp h).1
  have hx : ns[i] = x := (List.getElem?_eq_some_iff.mp h).2
  rw [List.take_succ_eq_append_getElem hi, hx, Fr.act_snoc]
theorem act_len : ∀ (ns s : List Int), (Fr.act s ns).length ≤ s.length + ns.length
  | [], s => by simp [Fr.act]
  | a :: t, s => by
    rw [Fr.act_cons]
    have h1 := act_len t (Fr.push s a)
    have h2 : (Fr.push s a).length ≤ s.length + 1 := by
      cases s with
      | nil => simp [Fr.push]
      | cons b u =>
        show (if b = -a then u else a :: b :: u).length ≤ _
        split <;> simp <;> omega
    simp only [List.length_cons]
    omega
theorem shr_len (ns : List Int) : (Fr.shr ns).length ≤ ns.length := by
  unfold Fr.shr
  rw [List.length_reverse]
  simpa using act_len ns []
theorem ok_shr {f : Addr} {fd : FuncData} (F : Fun K "shortened_letters" "shortened_letters" sShr f fd) (T : TxA mg) : FnOk P w K mg base CX0 1 f fd ["letters"] (spShr K) := by
  refine F.ok scShr (fun vs H Q E h => ?_) (fun cdv A outer s H vs Q E hr h => ?_)
  · obtain ⟨a, ns, rfl, _⟩ := h
    rfl
  · obtain ⟨a, ns, rfl, hS, hlen, k⟩ := h
    rcases hS with hS | hS
    · refine ⟨_, pss_cons (ps_set (i := 1) scShr.nd rfl (Or.inl rfl) (pe_lst pa_nil))
        (pss_cons (ps_for PassesOwn.never rfl (pi_list (pv 0)) (pg_name (i := 2) scShr.nd rfl (Or.inl rfl))
          (pss_one (ps_if (PW.pt (pw_and (pt_truth (pv 1) (by intro _; rfl)) (pw_and1 (pt_cmpR op_eq (pe_ix ix_list (pv 1) (pe_un un_neg pe_int) (fun _ _ => rfl)) (pe_un un_neg (pv 2)) (nomark _)))))
            (pss_one (ps_expr (pe_bm0 PySem.F.plainAttrs_list PySem.F.slot_list_pop PySem.F.type_list_pop mt_pop (pv 1))))
            (pss_one (ps_expr (pe_bm PySem.F.plainAttrs_list PySem.F.slot_list_append PySem.F.type_list_append mt_append (pv 1) (pa_cons (pv 2) pa_nil)))))))
        (pss_one (ps_ret (pe_callTy call_tuple_of (by rfl) T.tuple (by decide +kernel) (pa_cons (pv 1) pa_nil))))), ?_⟩
      refine ⟨Nat.zero_le _, fun l hl => ?_⟩
      refine ⟨_, rfl, a, rfl, ⟨_, (by have s := same_upd (o := HO.lst []) hl; exact (s.seq hS))⟩, for_list (K := K) (a := a) (xs := iv ns) (fun i σ H1 => ∃ v, σ = [some (.ref a), some (.ref l), v] ∧ Same H H1 ∧ H1 l = some (.lst (iv (Fr.act [] (ns.take i)).reverse)))
        ⟨none, rfl, same_upd hl, by rw [upd_same]; rfl⟩ (fun i σ H1 _ ⟨_, _, s, _⟩ => (s.seq hS)) ?_ ?_⟩
      · rintro i y σ H1 hi ⟨v, rfl, sm, hL⟩
        obtain ⟨x, hx, rfl⟩ : ∃ x, ns[i]? = some x ∧ y = V.int x := by
          rw [List.getElem?_map] at hi
          cases e : ns[i]? with
          | none => rw [e] at hi; cases hi
          | some x => rw [e] at hi; exact ⟨x, rfl, (Option.some.inj hi).symm⟩
        have hi2 : i < ns.length := (List.getElem?_eq_some_iff.mp hx).1
        have nx := act_take hx
        have hsz : (Fr.act [] (ns.take i)).length ≤ 1000 := by
          have := act_len (ns.take i) []
          rw [List.length_take] at this
          simp at this
          omega
        have put : ∀ xs, Same H (L2.upd H1 l (.lst xs)) := fun xs b o e => by
          rw [upd_ne (ne_of_none e hl)]
          exact sm b o e
        refine ⟨_, rfl, _, .inl ⟨_, SqL.of hL, rfl⟩, ?_⟩
        cases est : Fr.act [] (ns.take i) with
        | nil =>
          rw [est] at hL nx
          refine iteF ?_
          refine iteF ?_
          refine ⟨_, rfl, .inl ⟨rfl, _, SqL.of hL⟩, _, rfl, l, _, _, rfl, rfl, hL, Evl.sz_lt (by simp), ?_⟩
          refine ⟨_, rfl, put _, ?_⟩
          rw [upd_same, nx]
          rfl
        | cons b t =>
          rw [est] at hL nx hsz
          have eL : iv (b :: t).reverse = iv t.reverse ++ [V.int b] := by simp [iv]
          refine iteT' (by simp [iv]) ?_
          refine ⟨_, rfl, _, rfl, l, _, _, _, rfl, rfl, SqL.of hL, (by rw [eL]; exact atI_last _ _), _, rfl, x, rfl, rfl, _, rfl, ?_⟩
          refine ite2 (fun hb => ?_) (fun hb => ?_)
          · have eb : b = -x := by
              have := of_decide_eq_true hb
              injection this
            refine ⟨_, rfl, .inl ⟨rfl, _, SqL.of hL⟩, l, _, V.int b, rfl, rfl, hL, (by rw [eL]; simp), ?_⟩
            refine ⟨_, rfl, put _, ?_⟩
            rw [upd_same, nx]
            have : Fr.push (b :: t) x = t := by simp [Fr.push, eb]
            rw [this, eL, List.dropLast_concat]
          · have eb : ¬ b = -x := fun e => hb (decide_eq_true (by rw [e]))
            refine ⟨_, rfl, .inl ⟨rfl, _, SqL.of hL⟩, _, rfl, l, _, _, rfl, rfl, hL, Evl.sz_lt (by simp [iv] at hsz ⊢; omega), ?_⟩
            refine ⟨_, rfl, put _, ?_⟩
            rw [upd_same, nx]
            have : Fr.push (b :: t) x = x :: b :: t := by simp [Fr.push, eb]
            rw [this]
            simp [iv]
      · rintro σ H1 ⟨v, rfl, sm, hL⟩
        rw [List.take_of_length_le (by simp)] at hL
        refine ⟨_, rfl, l, _, rfl, .inl ⟨SqL.of hL, fun p hp => ?_⟩⟩
        exact k p _ (sm.trans (same_upd hp)) (SqT.of (by rw [upd_same]; rfl))
    · refine ⟨_, pss_cons (ps_set (i := 1) scShr.nd rfl (Or.inl rfl) (pe_lst pa_nil))
        (pss_cons (ps_for PassesOwn.never rfl (pi_tup (pv 0)) (pg_name (i := 2) scShr.nd rfl (Or.inl rfl))
          (pss_one (ps_if (PW.pt (pw_and (pt_truth (pv 1) (by intro _; rfl)) (pw_and1 (pt_cmpR op_eq (pe_ix ix_list (pv 1) (pe_un un_neg pe_int) (fun _ _ => rfl)) (pe_un un_neg (pv 2)) (nomark _)))))
            (pss_one (ps_expr (pe_bm0 PySem.F.plainAttrs_list PySem.F.slot_list_pop PySem.F.type_list_pop mt_pop (pv 1))))
            (pss_one (ps_expr (pe_bm PySem.F.plainAttrs_list PySem.F.slot_list_append PySem.F.type_list_append mt_append (pv 1) (pa_cons (pv 2) pa_nil)))))))
        (pss_one (ps_ret (pe_callTy call_tuple_of (by rfl) T.tuple (by decide +kernel) (pa_cons (pv 1) pa_nil))))), ?_⟩
      refine ⟨Nat.zero_le _, fun l hl => ?_⟩
      refine ⟨_, rfl, a, rfl, ⟨_, (by have s := same_upd (o := HO.lst []) hl; exact (WR.Same.seqT s hS))⟩, for_tup (K := K) (a := a) (xs := iv ns) (fun i σ H1 => ∃ v, σ = [some (.ref a), some (.ref l), v] ∧ Same H H1 ∧ H1 l = some (.lst (iv (Fr.act [] (ns.take i)).reverse)))
        ⟨none, rfl, same_upd hl, by rw [upd_same]; rfl⟩ (fun i σ H1 _ ⟨_, _, s, _⟩ => (WR.Same.seqT s hS)) ?_ ?_⟩
      · rintro i y σ H1 hi ⟨v, rfl, sm, hL⟩
        obtain ⟨x, hx, rfl⟩ : ∃ x, ns[i]? = some x ∧ y = V.int x := by
          rw [List.getElem?_map] at hi
          cases e : ns[i]? with
          | none => rw [e] at hi; cases hi
          | some x => rw [e] at hi; exact ⟨x, rfl, (Option.some.inj hi).symm⟩
        have hi2 : i < ns.length := (List.getElem?_eq_some_iff.mp hx).1
        have nx := act_take hx
        have hsz : (Fr.act [] (ns.take i)).length ≤ 1000 := by
          have := act_len (ns.take i) []
          rw [List.length_take] at this
          simp at this
          omega
        have put : ∀ xs, Same H (L2.upd H1 l (.lst xs)) := fun xs b o e => by
          rw [upd_ne (ne_of_none e hl)]
          exact sm b o e
        refine ⟨_, rfl, _, .inl ⟨_, SqL.of hL, rfl⟩, ?_⟩
        cases est : Fr.act [] (ns.take i) with
        | nil =>
          rw [est] at hL nx
          refine iteF ?_
          refine iteF ?_
          refine ⟨_, rfl, .inl ⟨rfl, _, SqL.of hL⟩, _, rfl, l, _, _, rfl, rfl, hL, Evl.sz_lt (by simp), ?_⟩
          refine ⟨_, rfl, put _, ?_⟩
          rw [upd_same, nx]
          rfl
        | cons b t =>
          rw [est] at hL nx hsz
          have eL : iv (b :: t).reverse = iv t.reverse ++ [V.int b] := by simp [iv]
          refine iteT' (by simp [iv]) ?_
          refine ⟨_, rfl, _, rfl, l, _, _, _, rfl, rfl, SqL.of hL, (by rw [eL]; exact atI_last _ _), _, rfl, x, rfl, rfl, _, rfl, ?_⟩
          refine ite2 (fun hb => ?_) (fun hb => ?_)
          · have eb : b = -x := by
              have := of_decide_eq_true hb
              injection this
            refine ⟨_, rfl, .inl ⟨rfl, _, SqL.of hL⟩, l, _, V.int b, rfl, rfl, hL, (by rw [eL]; simp), ?_⟩
            refine ⟨_, rfl, put _, ?_⟩
            rw [upd_same, nx]
            have : Fr.push (b :: t) x = t := by simp [Fr.push, eb]
            rw [this, eL, List.dropLast_concat]
          · have eb : ¬ b = -x := fun e => hb (decide_eq_true (by rw [e]))
            refine ⟨_, rfl, .inl ⟨rfl, _, SqL.of hL⟩, _, rfl, l, _, _, rfl, rfl, hL, Evl.sz_lt (by simp [iv] at hsz ⊢; omega), ?_⟩
            refine ⟨_, rfl, put _, ?_⟩
            rw [upd_same, nx]
            have : Fr.push (b :: t) x = x :: b :: t := by simp [Fr.push, eb]
            rw [this]
            simp [iv]
      · rintro σ H1 ⟨v, rfl, sm, hL⟩
        rw [List.take_of_length_le (by simp)] at hL
        refine ⟨_, rfl, l, _, rfl, .inl ⟨SqL.of hL, fun p hp => ?_⟩⟩
        exact k p _ (sm.trans (same_upd hp)) (SqT.of (by rw [upd_same]; rfl))
end
end W05
set_option Elab.async false
set_option linter.all false
set_option maxRecDepth 100000
set_option maxHeartbeats 2000000
namespace W05
open PySem L2 PySem.Spec PyProof.Rows WR
section
variable {P : Program} {w : World} {K : PySem.W.Frag} {mg : Str → Option Value} {base : Heap}
theorem iteF' {c : Bool} {A B : Prop} (hc : c = false) (h : B) : if c = true then A else B := by rw [if_neg (by rw [hc]; exact Bool.false_ne_true)]; exact h
theorem iv_get {ns : List Int} {i : Nat} {x : Int} (h : ns[i]? = some x) : (iv ns)[i]? = some (V.int x) := by
  rw [List.getElem?_map, h]
  rfl
theorem con_get {u : List Int} {j : Nat} (h : j < u.length) : (Fr.con u)[u.length - 1 - j]? = some (-u[j]) := by
  unfold Fr.con
  rw [List.getElem?_map, List.getElem?_reverse (by omega)]
  have e : u.length - 1 - (u.length - 1 - j) = j := by omega
  rw [e, List.getElem?_eq_getElem h]
  rfl
theorem whole_len (u w : List Int) : (u ++ w ++ Fr.con u).length = 2 * u.length + w.length := by
  rw [List.length_append, List.length_append, Fr.con_length]
  omega
theorem whole_lo {u w : List Int} {j : Nat} (h : j < u.length) : (u ++ w ++ Fr.con u)[j]? = some u[j] := by
  rw [List.append_assoc, List.getElem?_append_left h, List.getElem?_eq_getElem h]
theorem whole_hi {u w : List Int} {j : Nat} (h : j < u.length) : (u ++ w ++ Fr.con u)[2 * u.length + w.length - 1 - j]? = some (-u[j]) := by
  rw [List.getElem?_append_right (by rw [List.length_append]; omega), List.length_append]
  have e : 2 * u.length + w.length - 1 - j - (u.length + w.length) = u.length - 1 - j := by omega
  rw [e, con_get h]
theorem mid_lo {u w : List Int} (hw : w ≠ []) : (u ++ w ++ Fr.con u)[u.length]? = w.head? := by
  have : 0 < w.length := List.length_pos_iff.mpr hw
  rw [List.append_assoc, List.getElem?_append_right (Nat.le_refl _), Nat.sub_self, List.getElem?_append_left this, List.head?_eq_getElem?]
theorem mid_hi {u w : List Int} (hw : w ≠ []) : (u ++ w ++ Fr.con u)[2 * u.length + w.length - 1 - u.length]? = w.getLast? := by
  have : 0 < w.length := List.length_pos_iff.mpr hw
  rw [List.append_assoc, List.getElem?_append_right (by omega)]
  have e : 2 * u.length + w.length - 1 - u.length - u.length = w.length - 1 := by omega
  rw [e, List.getElem?_append_left (by omega), List.getLast?_eq_getElem?]
theorem whole_cut (u w : List Int) : ((u ++ w ++ Fr.con u).drop u.length).take w.length = w := by
  rw [List.append_assoc, List.drop_left, List.take_left]
theorem scRnd : FnScope ["letters", "left", "skipped"] ["letters"] (defScope sRnd) := ⟨rfl, rfl, rfl, by decide +kernel, rfl, by decide +kernel, by decide +kernel⟩
theorem cut_nat {xs : List V} {i j : Nat} (hi : i ≤ xs.length) (hj : j ≤ xs.length) : cutV xs (some (i : Int)) (some (j : Int)) = (xs.drop i).take (j - i) := by
  unfold cutV
  rw [HT.sIx_nat, HT.sIx_nat, Nat.min_eq_left hi, Nat.min_eq_left hj]
theorem ok_rnd {f : Addr} {fd : FuncData} (F : Fun K "rounded_letters" "rounded_letters" sRnd f fd) (GS : Cal P w K mg base "shortened_letters" 1 ["letters"] (spShr K)) (T : TxA mg) : FnOk P w K mg base CX0 2 f fd ["letters"] (spRnd K) := by
  refine F.ok scRnd (fun vs H Q E h => ?_) (fun cdv A outer s H vs Q E hr h => ?_)
  · obtain ⟨a, ns, rfl, _⟩ := h
    rfl
  · obtain ⟨a, ns, rfl, hS, hlen, nz, k⟩ := h
    refine ⟨_, pss_cons (ps_set (i := 1) scRnd.nd rfl (Or.inl rfl) (pe_cal GS hr (by decide) (by rfl) (pa_cons (pv 0) pa_nil)))
      (pss_cons (ps_set (i := 2) scRnd.nd rfl (Or.inl rfl) pe_int)
      (pss_cons (ps_while PassesOwn.never (PW.pt (pw_and (pt_cmpR op_lt (pe_op op_mul pe_int (pv 2)) (pe_callB call_len_seq (by rfl) T.len PySem.boot_len (pa_cons (pv 1) pa_nil)) (nomark _))
          (pw_and1 (pt_cmpR op_eq (pe_ix ix_tup (pv 1) (pv 2) (fun _ _ => rfl)) (pe_un un_neg (pe_ix ix_tup (pv 1) (pe_op op_sub (pe_op op_sub (pe_callB call_len_seq (by rfl) T.len PySem.boot_len (pa_cons (pv 1) pa_nil)) pe_int) (pv 2)) (fun _ _ => rfl))) (nomark _)))))
        (pss_one (ps_aug (i := 2) scRnd.nd rfl (Or.inl rfl) pe_int ip_add)))
      (pss_one (ps_ret (pe_slice sl_tupU (pv 1) (po_some (pv 2)) (po_some (pe_op op_sub (pe_callB call_len_seq (by rfl) T.len PySem.boot_len (pa_cons (pv 1) pa_nil)) (pv 2)))))))), ?_⟩
    refine ⟨_, rfl, a, ns, rfl, hS, hlen, fun p H1 sm hP => ?_⟩
    obtain ⟨u, m, e, c, z⟩ := Fr.parted (Fr.shr ns) nz.shr (Fr.rd_shr ns)
    have er : Fr.rnd ns = m := by
      unfold Fr.rnd
      rw [e, Fr.ends_eq c z]
    rw [er] at k
    have hl := shr_len ns
    rw [e] at hP hl
    rw [whole_len] at hl
    have L : (iv (u ++ m ++ Fr.con u)).length = 2 * u.length + m.length := by rw [List.length_map, whole_len]
    refine ⟨fun n σ H' => ∃ j, n = u.length - j ∧ j ≤ u.length ∧ σ = [some (.ref a), some (.ref p), some (.int ((j : Nat) : Int))] ∧ H' = H1, ⟨_, 0, rfl, Nat.zero_le _, rfl, rfl⟩, ?_⟩
    rintro n σ H' ⟨j, rfl, hj, rfl, rfl⟩
    refine ⟨_, rfl, _, _, rfl, rfl, .inl ⟨by decide, by decide⟩, _, rfl, p, _, rfl, .inr hP, _, _, rfl, rfl, _, rfl, ?_⟩
    have hback : ((iv (u ++ m ++ Fr.con u)).length : Int) - 1 - (j : Int) = ((2 * u.length + m.length - 1 - j : Nat) : Int) ∨ 2 * u.length + m.length = 0 := by
      rw [L]
      by_cases h0 : 2 * u.length + m.length = 0
      · exact .inr h0
      · left; omega
    by_cases hlt : j < u.length
    · refine iteT' (decide_eq_true (by rw [L]; omega)) ?_
      have hb := hback.resolve_right (by omega)
      refine ⟨_, rfl, _, rfl, p, _, _, _, rfl, rfl, hP, atI_nat (iv_get (whole_lo hlt)), ?_⟩
      refine ⟨_, rfl, _, rfl, p, _, rfl, .inr hP, _, _, rfl, rfl, _, rfl, _, _, rfl, rfl, p, _, _, _, rfl, rfl, hP, (by rw [hb]; exact atI_nat (iv_get (whole_hi hlt))), _, rfl, rfl, _, rfl, ?_⟩
      refine iteT' (decide_eq_true (by show V.int _ = V.int (- -_); rw [Int.neg_neg])) ?_
      refine ⟨fun σ' H'' => ∃ j', u.length - (j + 1) = u.length - j' ∧ j' ≤ u.length ∧ σ' = [some (.ref a), some (.ref p), some (.int ((j' : Nat) : Int))] ∧ H'' = H', fun σ' H'' ⟨j', q1, q2, q3, q4⟩ => ⟨_, by omega, j', q1, q2, q3, q4⟩, ?_⟩
      refine ⟨_, rfl, _, _, rfl, rfl, ?_⟩
      exact ⟨j + 1, rfl, hlt, by rfl, rfl⟩
    · have hj2 : j = u.length := by omega
      subst hj2
      have fin : NewT K H' Q (cutV (iv (u ++ m ++ Fr.con u)) (some ((u.length : Nat) : Int)) (some (((iv (u ++ m ++ Fr.con u)).length : Int) - ((u.length : Nat) : Int)))) := by
        have e1 : ((iv (u ++ m ++ Fr.con u)).length : Int) - ((u.length : Nat) : Int) = ((u.length + m.length : Nat) : Int) := by rw [L]; omega
        rw [e1, cut_nat (by rw [L]; omega) (by rw [L]; omega)]
        have e2 : u.length + m.length - u.length = m.length := by omega
        rw [e2]
        have e3 : ((iv (u ++ m ++ Fr.con u)).drop u.length).take m.length = iv m := by
          rw [← List.map_drop, ← List.map_take, whole_cut]
        rw [e3]
        exact fun q H2 s2 h2 => k q H2 (sm.trans s2) h2
      by_cases hm : m = []
      · have hu := z hm
        refine iteF' (decide_eq_false (by rw [L, hm, hu]; simp)) ?_
        refine iteF ?_
        exact ⟨_, rfl, _, rfl, _, rfl, _, rfl, p, _, rfl, .inr hP, _, rfl, _, _, rfl, rfl, _, rfl, p, _, rfl, hP, fin⟩
      · refine iteT' (decide_eq_true (by have := List.length_pos_iff.mpr hm; rw [L]; omega)) ?_
        have hb := hback.resolve_right (by have := List.length_pos_iff.mpr hm; omega)
        obtain ⟨x, hx⟩ : ∃ x, m.head? = some x := by
          cases m with
          | nil => exact absurd rfl hm
          | cons x t => exact ⟨x, rfl⟩
        obtain ⟨y, hy⟩ : ∃ y, m.getLast? = some y := ⟨_, List.getLast?_eq_some_getLast hm⟩
        have lo := (mid_lo (u := u) hm).trans hx
        have hi := (mid_hi (u := u) hm).trans hy
        refine ⟨_, rfl, _, rfl, p, _, _, _, rfl, rfl, hP, atI_nat (iv_get lo), ?_⟩
        refine ⟨_, rfl, _, rfl, p, _, rfl, .inr hP, _, _, rfl, rfl, _, rfl, _, _, rfl, rfl, p, _, _, _, rfl, rfl, hP, (by rw [hb]; exact atI_nat (iv_get hi)), _, rfl, rfl, _, rfl, ?_⟩
        refine iteF' (decide_eq_false fun q => ?_) ?_
        · have q2 : V.int x = V.int (-y) := q
          injection q2 with q3
          exact c.2 x y hx hy q3
        exact ⟨_, rfl, _, rfl, _, rfl, _, rfl, p, _, rfl, .inr hP, _, rfl, _, _, rfl, rfl, _, rfl, p, _, rfl, hP, fin⟩
end
end W05
set_option Elab.async false
set_option linter.all false
set_option maxRecDepth 100000
set_option maxHeartbeats 2000000
namespace W05
open PySem L2 PySem.Spec PyProof.Rows WR WS
abbrev sKinds : Stmt := top 18
theorem pigeon : ∀ (m : Nat) (L : List Int), L.Nodup → (∀ k ∈ L, 1 ≤ k ∧ k ≤ (m : Int)) → L.length ≤ m
  | 0, L, _, h => by
    cases L with
    | nil => simp
    | cons a t =>
      have := h a (by simp)
      omega
  | m + 1, L, nd, h => by
    by_cases hm : ((m + 1 : Nat) : Int) ∈ L
    · have ih := pigeon m (L.erase ((m + 1 : Nat) : Int)) (nd.erase _) fun k hk => by
        have h1 := (nd.mem_erase_iff).mp hk
        have h2 := h k h1.2
        have h3 := h1.1
        omega
      rw [List.length_erase_of_mem hm] at ih
      omega
    · have ih := pigeon m L nd fun k hk => by
        have h2 := h k hk
        have : k ≠ ((m + 1 : Nat) : Int) := fun e => hm (e ▸ hk)
        omega
      omega
theorem sci {w : World} {J : It} {xs : List V} {G : Hp → Prop} (wk : Walk J xs.length G (YAt xs)) {g : TG} {tt : TT} {te : TE} {vs : List Nat} {σ : L2.St} {H1 : Hp} {Q : VK} (v : V → Int)
    (hv : ∀ x ∈ xs, 1 ≤ v x ∧ v x ≤ 26) (hG : ∀ H, Same H1 H → G H)
    (hs : ∀ x, x ∈ xs → ∀ H, Same H1 H → ∀ (Qy : V → Hp → Prop) (Qn : Hp → Prop), Qy (.int (v x)) H →
      g x (wipe σ vs) H fun σ2 H2 => wipe σ2 vs = wipe σ vs ∧ tt σ2 H2 fun b H3 => if b = true then te σ2 H3 Qy else Qn H3)
    (hd : ∀ (D : Addr) (S : Int → Bool) (n : Nat) H', H1 D = none → Same H1 H' → H' D = some (SetO w D S n) → n ≤ 26 → (∀ k, S k = true ↔ ∃ x ∈ xs, k = v x) → Q (.ref D) H') : tSetI w (fun _ H R => R J H) g tt te vs σ H1 Q := by
  intro D hD
  refine ⟨fun i m H => m = xs.length - i ∧ i ≤ xs.length ∧ Same H1 H ∧ ∃ (S : Int → Bool) (L : List Int), H D = some (SetO w D S L.length) ∧ L.Nodup ∧ (∀ k, S k = true ↔ k ∈ L) ∧ ∀ k, k ∈ L ↔ ∃ x ∈ xs.take i, k = v x, ?_, ?_⟩
  · refine ⟨_, rfl, Nat.zero_le _, same_upd hD, fun _ => false, [], by rw [upd_same]; rfl, List.nodup_nil, fun k => by simp, fun k => by simp⟩
  · rintro i m H ⟨rfl, hi, sm, S, L, hS, nd, hL, hm⟩
    have bound : L.length ≤ 26 := pigeon 26 L nd fun k hk => by
      obtain ⟨x, hx, e⟩ := (hm k).mp hk
      have := hv x (List.mem_of_mem_take hx)
      omega
    by_cases hlt : i < xs.length
    · right
      refine ⟨wk.goes i H hlt (hG H sm), fun H' => Same H1 H' ∧ ∃ (S : Int → Bool) (L : List Int), H' D = some (SetO w D S L.length) ∧ L.Nodup ∧ (∀ k, S k = true ↔ k ∈ L) ∧ ∀ k, k ∈ L ↔ ∃ x ∈ xs.take (i + 1), k = v x, ?_, ?_⟩
      · rintro H' ⟨s2, q⟩
        exact ⟨xs.length - (i + 1), by omega, rfl, hlt, s2, q⟩
      · intro x H' hy
        obtain ⟨rfl, hx⟩ := wk.yields i H x H' hlt (hG H sm) hy
        have hmem : x ∈ xs := List.mem_of_getElem? hx
        have et : xs.take (i + 1) = xs.take i ++ [x] := by
          have hx2 : xs[i] = x := (List.getElem?_eq_some_iff.mp hx).2
          rw [List.take_succ_eq_append_getElem hlt, hx2]
        refine hs x hmem H' sm _ _ ?_
        refine ⟨D, v x, S, L.length, rfl, rfl, hS, ?_, ?_⟩
        · have : scanBound = 40000 ∨ 64 < scanBound := by right; decide
          have h64 : 64 < scanBound := by decide
          omega
        refine ⟨fun b o e => by rw [upd_ne (ne_of_none e hD)]; exact sm b o e, fun j => S j || decide (j = v x), if S (v x) = true then L else v x :: L, ?_, ?_, ?_, ?_⟩
        · rw [upd_same]
          by_cases c : S (v x) = true
          · rw [if_pos c, if_pos c]
          · rw [if_neg c, if_neg c]; rfl
        · by_cases c : S (v x) = true
          · rw [if_pos c]; exact nd
          · rw [if_neg c]
            exact List.nodup_cons.mpr ⟨fun h => c ((hL _).mpr h), nd⟩
        · intro k
          rw [Bool.or_eq_true, decide_eq_true_eq]
          by_cases c : S (v x) = true
          · rw [if_pos c, ← hL]
            constructor
            · rintro (h | rfl)
              · exact h
              · exact c
            · exact .inl
          · rw [if_neg c, List.mem_cons, ← hL]
            exact or_comm
        · intro k
          have e : (k ∈ if S (v x) = true then L else v x :: L) ↔ (k = v x ∨ k ∈ L) := by
            by_cases c : S (v x) = true
            · rw [if_pos c]
              constructor
              · exact .inr
              · rintro (rfl | h)
                · exact (hL _).mp c
                · exact h
            · rw [if_neg c, List.mem_cons]
          rw [e, hm, et]
          constructor
          · rintro (rfl | ⟨y, hy, rfl⟩)
            · exact ⟨x, by simp, rfl⟩
            · exact ⟨y, by simp [hy], rfl⟩
          · rintro ⟨y, hy, rfl⟩
            rw [List.mem_append, List.mem_singleton] at hy
            rcases hy with hy | rfl
            · exact .inr ⟨y, hy, rfl⟩
            · exact .inl rfl
    · left
      have hi2 : i = xs.length := by omega
      subst hi2
      rw [List.take_length] at hm
      exact ⟨wk.stops H (hG H sm), hd D S L.length H hD sm hS bound fun k => (hL k).trans (hm k)⟩
def kindsOk (ns ks : List Int) : Prop := ks.Pairwise (· < ·) ∧ ∀ k : Int, k ∈ ks ↔ ∃ x ∈ ns, k = (x.natAbs : Int)
/-- every letter of a kind from 1 to 26 -/
def Lts (ns : List Int) : Prop := ∀ x ∈ ns, 1 ≤ x.natAbs ∧ x.natAbs ≤ 26
def spKinds (K : PySem.W.Frag) : Sp := fun vs H Q _ => ∃ (a : Addr) (ns : List Int), vs = [.ref a] ∧ SqE K H a (iv ns) ∧ ns.length ≤ 1000 ∧ Lts ns ∧ ∀ ks, kindsOk ns ks → NewT K H Q (iv ks)
structure TxB (mg : Str → Option Value) : Prop where
  sorted : mg "sorted" = none
  abs : mg "abs" = none
section
variable {P : Program} {w : World} {K : PySem.W.Frag} {mg : Str → Option Value} {base : Heap}
theorem scKinds : FnScope ["letters", "letter"] ["letters"] (defScope sKinds) := ⟨rfl, rfl, rfl, by decide +kernel, rfl, by decide +kernel, by decide +kernel⟩
theorem ok_kinds {f : Addr} {fd : FuncData} (F : Fun K "kinds_of" "kinds_of" sKinds f fd) (T : TxA mg) (T2 : TxB mg) : FnOk P w K mg base CX0 1 f fd ["letters"] (spKinds K) := by
  refine F.ok scKinds (fun vs H Q E h => ?_) (fun cdv A outer s H vs Q E hr h => ?_)
  · obtain ⟨a, ns, rfl, _⟩ := h
    rfl
  · obtain ⟨a, ns, rfl, hS, hlen, hk, k⟩ := h
    have fin : ∀ (D : Addr) (S : Int → Bool) (n : Nat) H', H D = none → Same H H' → H' D = some (SetO w D S n) → n ≤ 26 → (∀ k, S k = true ↔ ∃ x ∈ iv ns, k = (match x with | .int i => (i.natAbs : Int) | _ => 0)) →
        rSortedSet w [.ref D] H' fun x H2 => ∃ p ys, [x] = [V.ref p] ∧ ((SqL K H2 p ys ∧ ∀ l, H2 l = none → Q (.ref l) (L2.upd H2 l (.tup ys))) ∨ (SqT K H2 p ys ∧ Q (.ref p) H2)) := by
      intro D S n H' hD sm hS hn hm
      refine ⟨D, S, n, rfl, hS, by omega, fun ks p up mem _ hp => ?_⟩
      refine ⟨p, _, rfl, .inl ⟨SqL.of upd_same, fun l hl => ?_⟩⟩
      refine k ks ⟨up, fun j => ?_⟩ l _ ((sm.trans (same_upd hp)).trans (same_upd hl)) (SqT.of upd_same)
      rw [mem, hm]
      constructor
      · rintro ⟨x, hx, e⟩
        obtain ⟨i, hi, rfl⟩ := List.mem_map.mp hx
        exact ⟨i, hi, e⟩
      · rintro ⟨i, hi, e⟩
        exact ⟨_, List.mem_map_of_mem hi, e⟩
    have turn : ∀ x, x ∈ iv ns → ∀ H2, Same H H2 → ∀ (Qy : V → Hp → Prop) (Qn : Hp → Prop), Qy (.int (match x with | .int i => (i.natAbs : Int) | _ => 0)) H2 →
        gName 1 x (wipe [some (.ref a), none] [1]) H2 fun σ2 H2 => wipe σ2 [1] = wipe [some (.ref a), none] [1] ∧ tYes σ2 H2 fun b H3 => if b = true then tCB (fun xs H Q => ∃ i, xs = [.int i] ∧ Q (.int (if i < 0 then -i else i)) H) (tCons (tVar 1) tNil) σ2 H3 Qy else Qn H3 := by
      intro x hx H2 s2 Qy Qn ky
      obtain ⟨i, hi, rfl⟩ := List.mem_map.mp hx
      refine ⟨rfl, yes_te ⟨_, rfl, i, rfl, ?_⟩⟩
      have e : (if i < 0 then -i else i) = (i.natAbs : Int) := by split <;> omega
      rw [e]
      exact ky
    have bd : ∀ x ∈ iv ns, 1 ≤ (match x with | .int i => (i.natAbs : Int) | _ => 0) ∧ (match x with | .int i => (i.natAbs : Int) | _ => 0) ≤ 26 := by
      intro x hx
      obtain ⟨i, hi, rfl⟩ := List.mem_map.mp hx
      have := hk i hi
      show 1 ≤ (i.natAbs : Int) ∧ (i.natAbs : Int) ≤ 26
      omega
    rcases hS with hS | hS
    · refine ⟨_, pss_one (ps_ret (pe_callTy call_tuple_of (by rfl) T.tuple (by decide +kernel) (pa_cons (pe_callB (cr_sortedSet rfl) (by rfl) T2.sorted (by decide +kernel) (pa_cons (pe_setI (own := [("letter", 1)]) (g := gName 1) (tt := tYes) rfl scKinds.nd (pi_list (pv 0))
        (blkOk_by (N := ["letters", "letter"]) (sc := defScope sKinds) (by decide +kernel)) (fun _ _ _ _ _ => pg_name (i := 1) scKinds.nd rfl (Or.inl rfl)) (fun _ _ _ _ _ => pts_nil)
        (fun _ _ _ _ _ => pe_callB call_abs (by rfl) T2.abs (by decide +kernel) (pa_cons (pv 1) pa_nil))) pa_nil)) pa_nil))), ?_⟩
      refine ⟨_, rfl, a, rfl, ⟨_, hS⟩, ?_⟩
      exact sci (walk_list (xs := iv ns)) _ bd (fun H2 s2 => s2.seq hS) turn fin
    · refine ⟨_, pss_one (ps_ret (pe_callTy call_tuple_of (by rfl) T.tuple (by decide +kernel) (pa_cons (pe_callB (cr_sortedSet rfl) (by rfl) T2.sorted (by decide +kernel) (pa_cons (pe_setI (own := [("letter", 1)]) (g := gName 1) (tt := tYes) rfl scKinds.nd (pi_tup (pv 0))
        (blkOk_by (N := ["letters", "letter"]) (sc := defScope sKinds) (by decide +kernel)) (fun _ _ _ _ _ => pg_name (i := 1) scKinds.nd rfl (Or.inl rfl)) (fun _ _ _ _ _ => pts_nil)
        (fun _ _ _ _ _ => pe_callB call_abs (by rfl) T2.abs (by decide +kernel) (pa_cons (pv 1) pa_nil))) pa_nil)) pa_nil))), ?_⟩
      refine ⟨_, rfl, a, rfl, ⟨_, hS⟩, ?_⟩
      exact sci (walk_tup (xs := iv ns)) _ bd (fun H2 s2 => WR.Same.seqT s2 hS) turn fin
end
end W05
set_option Elab.async false
set_option linter.all false
set_option maxRecDepth 100000
set_option maxHeartbeats 2000000
namespace W05
open PySem L2 PySem.Spec PyProof.Rows WR
abbrev sIsInt : Stmt := top 10
abbrev sWithin : Stmt := top 11
abbrev sLetter : Stmt := top 12
abbrev sListed : Stmt := top 13
abbrev sNeedW : Stmt := top 28
abbrev sFew : Stmt := top 29
/-! ### values and their classes -/
inductive Typ (H : Hp) : V → String → Prop
  | int (i : Int) : Typ H (.int i) "int"
  | bl (b : Bool) : Typ H (.bl b) "bool"
  | str (z : Str) : Typ H (.str z) "str"
  | non : Typ H .non "NoneType"
  | lst {p : Addr} {xs : List V} (e : H p = some (.lst xs)) : Typ H (.ref p) "list"
  | tup {p : Addr} {xs : List V} (e : H p = some (.tup xs)) : Typ H (.ref p) "tuple"
  | dct {p : Addr} {kvs : List (Key × V)} (e : H p = some (.dK kvs)) : Typ H (.ref p) "dict"
def isI : V → Bool
  | .int _ => true
  | _ => false
def isB : V → Bool
  | .bl _ => true
  | _ => false
def isS : V → Bool
  | .str _ => true
  | _ => false
theorem Typ.same {H H' : Hp} {x : V} {t : String} (h : Typ H x t) (s : Same H H') : Typ H' x t := by
  cases h with
  | int i => exact .int i
  | bl b => exact .bl b
  | str z => exact .str z
  | non => exact .non
  | lst e => exact .lst (s _ _ e)
  | tup e => exact .tup (s _ _ e)
  | dct e => exact .dct (s _ _ e)
theorem Typ.ty {K : PySem.W.Frag} {H : Hp} {x : V} {t : String} (h : Typ H x t) : TyX K H x (.type t) := by
  cases h with
  | int i => exact .base (.int i)
  | bl b => exact .base (.bl b)
  | str z => exact .base (.str z)
  | non => exact .base .non
  | lst e => exact .base (.lst e)
  | tup e => exact .base (.tup e)
  | dct e => exact .base (.dK e)
theorem Typ.kInt {K : PySem.W.Frag} {H : Hp} {x : V} {t : String} (h : Typ H x t) : PySem.W.kitOne K (.type t) (.type "int") = some (isI x || isB x) := by
  cases h <;> first | exact kit_ty (show kitB _ _ = some true by decide +kernel) | exact kit_ty (show kitB _ _ = some false by decide +kernel)
theorem Typ.kBool {K : PySem.W.Frag} {H : Hp} {x : V} {t : String} (h : Typ H x t) : PySem.W.kitOne K (.type t) (.type "bool") = some (isB x) := by
  cases h <;> first | exact kit_ty (show kitB _ _ = some true by decide +kernel) | exact kit_ty (show kitB _ _ = some false by decide +kernel)
theorem Typ.kStr {K : PySem.W.Frag} {H : Hp} {x : V} {t : String} (h : Typ H x t) : PySem.W.kitOne K (.type t) (.type "str") = some (isS x) := by
  cases h <;> first | exact kit_ty (show kitB _ _ = some true by decide +kernel) | exact kit_ty (show kitB _ _ = some false by decide +kernel)
theorem Typ.kTup {K : PySem.W.Frag} {H : Hp} {x : V} {t : String} (h : Typ H x t) : PySem.W.kitOne K (.type t) (.type "tuple") = some (t == "tuple") := by
  cases h <;> first | exact kit_ty (show kitB _ _ = some true by decide +kernel) | exact kit_ty (show kitB _ _ = some false by decide +kernel)
theorem Typ.kList {K : PySem.W.Frag} {H : Hp} {x : V} {t : String} (h : Typ H x t) : PySem.W.kitOne K (.type t) (.type "list") = some (t == "list") := by
  cases h <;> first | exact kit_ty (show kitB _ _ = some true by decide +kernel) | exact kit_ty (show kitB _ _ = some false by decide +kernel)
theorem Typ.kSeq {K : PySem.W.Frag} {H : Hp} {x : V} {t : String} (h : Typ H x t) : PySem.W.kitAny K (.type t) [.type "list", .type "tuple"] = some (t == "list" || t == "tuple") := by
  refine kitAny_cons h.kList (fun e => ?_) (fun e => by rw [e]; rfl)
  refine kitAny_cons h.kTup (fun e2 => ?_) (fun e2 => by rw [e2]; simp)
  rw [kitAny_nil, e, e2]
  rfl

def spIsInt : Sp := fun vs H Q _ => ∃ (x : V) (t : String), vs = [x] ∧ Typ H x t ∧ Q (.bl (isI x)) H
structure TxI (mg : Str → Option Value) : Prop where
  isin : mg "isinstance" = none
  int : mg "int" = none
  bool : mg "bool" = none
  str : mg "str" = none
  list : mg "list" = none
  tuple : mg "tuple" = none
section
variable {P : Program} {w : World} {K : PySem.W.Frag} {mg : Str → Option Value} {base : Heap}
theorem scIsInt : FnScope ["value"] ["value"] (defScope sIsInt) := ⟨rfl, rfl, rfl, by decide +kernel, rfl, by decide +kernel, by decide +kernel⟩
theorem ok_isInt {f : Addr} {fd : FuncData} (F : Fun K "is_integer" "is_integer" sIsInt f fd) (T : TxI mg) : FnOk P w K mg base CX0 1 f fd ["value"] spIsInt := by
  refine F.ok scIsInt (fun vs H Q E h => ?_) (fun cdv A outer s H vs Q E hr h => ?_)
  · obtain ⟨x, t, rfl, _⟩ := h
    rfl
  · obtain ⟨x, t, rfl, ht, k⟩ := h
    refine ⟨_, pss_one (ps_ret (pe_and (pe_callB call_isi (by rfl) T.isin (by decide +kernel) (pa_cons (pv 0) (pa_cons (pe_bltn (v := .ty "int") (by rfl) T.int (by decide +kernel) rfl) pa_nil)))
      (pe_one (pe_not (pe_callB call_isi (by rfl) T.isin (by decide +kernel) (pa_cons (pv 0) (pa_cons (pe_bltn (v := .ty "bool") (by rfl) T.bool (by decide +kernel) rfl) pa_nil))))))), ?_⟩
    refine ⟨_, rfl, x, _, _, _, _, rfl, .ty _, ht.ty, ht.kInt, _, rfl, ?_⟩
    refine ite2 (fun hi => ?_) (fun hn => ?_)
    · refine ⟨_, rfl, x, _, _, _, _, rfl, .ty _, ht.ty, ht.kBool, _, rfl, ?_⟩
      have e : (!isB x) = isI x := by cases ht <;> first | rfl | exact absurd hi Bool.false_ne_true
      show Q (.bl (!isB x)) H
      rw [e]
      exact k
    · have e : isI x = false := by cases ht <;> first | rfl | exact absurd rfl hn
      show Q (.bl false) H
      rw [← e]
      exact k
end
def Bnd (v : V) : Prop := v = .non ∨ ∃ i, v = .int i
def geB (i : Int) : V → Bool
  | .int a => decide (a ≤ i)
  | _ => true
def leB (i : Int) : V → Bool
  | .int b => decide (i ≤ b)
  | _ => true
def within : V → V → V → Bool
  | .int i, l, m => geB i l && leB i m
  | _, _, _ => false
def spWithin : Sp := fun vs H Q _ => ∃ (x l m : V) (t : String), vs = [x, l, m] ∧ Typ H x t ∧ Bnd l ∧ Bnd m ∧ Q (.bl (within x l m)) H
def letterB : V → Bool
  | .int i => (decide (-26 ≤ i) && decide (i ≤ 26)) && !decide (i = 0)
  | _ => false
def spLetter : Sp := fun vs H Q _ => ∃ (x : V) (t : String), vs = [x] ∧ Typ H x t ∧ Q (.bl (letterB x)) H
def spListed : Sp := fun vs H Q _ => ∃ (x : V) (t : String), vs = [x] ∧ Typ H x t ∧ ∀ H', Same H H' → Q (.bl (t == "list" || t == "tuple")) H'
structure TxC (mg : Str → Option Value) : Prop where
  kind : ∃ t, mg "MOST_KIND" = some (.int 26 t)
  all : mg "all" = none
section
variable {P : Program} {w : World} {K : PySem.W.Frag} {mg : Str → Option Value} {base : Heap}
theorem scWithin : FnScope ["value", "least", "most"] ["value", "least", "most"] (defScope sWithin) := ⟨rfl, rfl, rfl, by decide +kernel, rfl, by decide +kernel, by decide +kernel⟩
theorem ok_within {f : Addr} {fd : FuncData} (F : Fun K "is_within" "is_within" sWithin f fd) (GI : Cal P w K mg base "is_integer" 1 ["value"] spIsInt) : FnOk P w K mg base CX0 2 f fd ["value", "least", "most"] spWithin := by
  refine F.ok scWithin (fun vs H Q E h => ?_) (fun cdv A outer s H vs Q E hr h => ?_)
  · obtain ⟨x, l, m, t, rfl, _⟩ := h
    rfl
  · obtain ⟨x, l, m, t, rfl, ht, hl, hm, k⟩ := h
    refine ⟨_, pss_cons (ps_if (pt_not (pt_val (pe_cal GI hr (by decide) (by rfl) (pa_cons (pv 0) pa_nil)))) (pss_one (ps_ret pe_bl)) pss_nil)
      (pss_one (ps_ret (pe_and (pe_or (pe_cmpR op_isN (pv 1) pe_non (nomark _)) (pe_one (pe_cmpR op_ge (pv 0) (pv 1) (nomark _)))) (pe_one (pe_or (pe_cmpR op_isN (pv 2) pe_non (nomark _)) (pe_one (pe_cmpR op_le (pv 0) (pv 2) (nomark _)))))))), ?_⟩
    refine ⟨_, rfl, x, t, rfl, ht, _, rfl, ?_⟩
    refine ite2 (fun hn => ?_) (fun hi => ?_)
    · have e : within x l m = false := by cases ht <;> first | rfl | exact absurd hn Bool.false_ne_true
      rw [e] at k
      exact k
    · obtain ⟨i, rfl⟩ : ∃ i, x = .int i := by cases ht <;> first | exact ⟨_, rfl⟩ | exact absurd rfl hi
      -- the second half, whatever the first one says
      have half : ∀ H1 : Hp, H1 = H → ∀ Q1 : VK, Q1 (.bl (leB i m)) H1 → tOrV (tOp (fun x y H Q => y = .non ∧ Q (.bl (decide (x = .non))) H) (tVar 2) (tC .non)) (tOp (rI0 fun i j => .bl (decide (i ≤ j))) (tVar 0) (tVar 2)) [some (.int i), some l, some m] H1 Q1 := by
        intro H1 _ Q1 q
        rcases hm with rfl | ⟨b, rfl⟩
        · exact ⟨_, rfl, rfl, _, rfl, iteT q⟩
        · exact ⟨_, rfl, rfl, _, rfl, iteF ⟨_, rfl, _, rfl, _, _, rfl, rfl, q⟩⟩
      rcases hl with rfl | ⟨a, rfl⟩
      · refine ⟨_, rfl, rfl, _, rfl, iteT ⟨_, rfl, iteT (half H rfl _ ?_)⟩⟩
        exact k
      · refine ⟨_, rfl, rfl, _, rfl, iteF ⟨_, rfl, _, rfl, _, _, rfl, rfl, _, rfl, ?_⟩⟩
        refine ite2 (fun hg => half H rfl _ ?_) (fun hg => ?_)
        · have e : within (.int i) (.int a) m = leB i m := by
            show (decide (a ≤ i) && leB i m) = leB i m
            rw [hg]
            rfl
          rw [e] at k
          exact k
        · have e : within (.int i) (.int a) m = false := by
            show (decide (a ≤ i) && leB i m) = false
            rw [Bool.eq_false_iff.mpr hg]
            rfl
          rw [e] at k
          exact k
theorem scLetter : FnScope ["value"] ["value"] (defScope sLetter) := ⟨rfl, rfl, rfl, by decide +kernel, rfl, by decide +kernel, by decide +kernel⟩
theorem ok_letter {f : Addr} {fd : FuncData} (F : Fun K "is_letter" "is_letter" sLetter f fd) (GW : Cal P w K mg base "is_within" 2 ["value", "least", "most"] spWithin) (T : TxC mg) : FnOk P w K mg base CX0 3 f fd ["value"] spLetter := by
  refine F.ok scLetter (fun vs H Q E h => ?_) (fun cdv A outer s H vs Q E hr h => ?_)
  · obtain ⟨x, t, rfl, _⟩ := h
    rfl
  · obtain ⟨x, t, rfl, ht, k⟩ := h
    obtain ⟨tk, mK⟩ := T.kind
    refine ⟨_, pss_one (ps_ret (pe_and (pe_cal GW hr (by decide) (by rfl) (pa_cons (pv 0) (pa_cons (pe_un un_neg (pe_glob (v := .int 26) (by rfl) mK ⟨_, rfl⟩)) (pa_cons (pe_glob (v := .int 26) (by rfl) mK ⟨_, rfl⟩) pa_nil)))) (pe_one (pe_cmpR op_ne (pv 0) pe_int (nomark _))))), ?_⟩
    refine ⟨_, rfl, _, rfl, x, _, _, t, rfl, ht, .inr ⟨_, rfl⟩, .inr ⟨_, rfl⟩, _, rfl, ?_⟩
    refine ite2 (fun hi => ?_) (fun hn => ?_)
    · obtain ⟨i, rfl⟩ : ∃ i, x = .int i := by cases ht <;> first | exact ⟨_, rfl⟩ | exact absurd hi Bool.false_ne_true
      refine ⟨_, rfl, rfl, ?_⟩
      have e : letterB (.int i) = !decide (V.int i = V.int 0) := by
        have h2 : (decide (-26 ≤ i) && decide (i ≤ 26)) = true := hi
        show ((decide (-26 ≤ i) && decide (i ≤ 26)) && !decide (i = 0)) = _
        rw [h2, Bool.true_and]
        congr 1
        by_cases h0 : i = 0
        · subst h0; rfl
        · rw [decide_eq_false h0, decide_eq_false (fun q => h0 (by injection q))]
      rw [e] at k
      exact k
    · have e : letterB x = false := by
        cases ht with
        | int i =>
          have h2 : (decide (-26 ≤ i) && decide (i ≤ 26)) = false := Bool.eq_false_iff.mpr hn
          show ((decide (-26 ≤ i) && decide (i ≤ 26)) && !decide (i = 0)) = false
          rw [h2]
          rfl
        | _ => rfl
      rw [e] at k
      exact k
theorem scListed : FnScope ["value"] ["value"] (defScope sListed) := ⟨rfl, rfl, rfl, by decide +kernel, rfl, by decide +kernel, by decide +kernel⟩
theorem ok_listed {f : Addr} {fd : FuncData} (F : Fun K "is_listed" "is_listed" sListed f fd) (T : TxI mg) : FnOk P w K mg base CX0 1 f fd ["value"] spListed := by
  refine F.ok scListed (fun vs H Q E h => ?_) (fun cdv A outer s H vs Q E hr h => ?_)
  · obtain ⟨x, t, rfl, _⟩ := h
    rfl
  · obtain ⟨x, t, rfl, ht, k⟩ := h
    refine ⟨_, pss_one (ps_ret (pe_callB call_isiT (by rfl) T.isin (by decide +kernel) (pa_cons (pv 0) (pa_cons (pe_tup (pa_cons (pe_bltn (v := .ty "list") (by rfl) T.list (by decide +kernel) rfl) (pa_cons (pe_bltn (v := .ty "tuple") (by rfl) T.tuple (by decide +kernel) rfl) pa_nil))) pa_nil)))), ?_⟩
    refine ⟨_, rfl, (by show 2 ≤ sizeLine; decide), fun p hp => ?_⟩
    have sm : Same H (upd H p (.tup [.ty "list", .ty "tuple"])) := fun b o e => by rw [upd_ne (ne_of_none e hp)]; exact e
    exact ⟨x, p, _, _, _, _, rfl, upd_same, .cons (.ty _) (.cons (.ty _) .nil), (ht.same sm).ty, (ht.same sm).kSeq, k _ sm⟩
end
end W05
set_option Elab.async false
set_option linter.all false
set_option maxRecDepth 100000
set_option maxHeartbeats 2000000
namespace W05
open PySem L2 PySem.Spec PyProof.Rows WR
abbrev sInit : Stmt := inClass (top 30) 0
theorem SqL.tyx {K : PySem.W.Frag} {H : Hp} {a : Addr} {xs : List V} (h : SqL K H a xs) : TyX K H (.ref a) (.type "list") := by
  rcases h with h | ⟨o, its, n, e, c, _⟩
  · rcases h with h | ⟨o, h⟩
    · exact .base (.lst h)
    · exact .base (.frz h)
  · exact .kList e c
theorem SqT.tyx {K : PySem.W.Frag} {H : Hp} {a : Addr} {xs : List V} (h : SqT K H a xs) : TyX K H (.ref a) (.type "tuple") := by
  rcases h with h | ⟨o, its, n, e, c, _⟩
  · rcases h with h | ⟨o, h⟩
    · exact .base (.tup h)
    · exact .fTuple h
  · exact .kTuple e c
def spListE (K : PySem.W.Frag) : Sp := fun vs H Q _ => ∃ (a : Addr) (xs : List V), vs = [.ref a] ∧ SqE K H a xs ∧ ∀ H', Same H H' → Q (.bl true) H'
def spFew : Sp := fun vs H Q _ => ∃ n : Int, vs = [.int n] ∧ n ≤ 500 ∧ Q .non H
structure TxW (K : PySem.W.Frag) (mg : Str → Option Value) (C : Addr) : Prop where
  cl : Cls K C
  nL : NoAttr K C "letters"
  nN : NoAttr K C "length"
  nK : NoAttr K C "kinds"
  nS : NoAttr K C "is_short"
  nR : NoAttr K C "is_short_round"
  ca : PySem.W.findIn K (.ref C) "__class__" = some (some (.builtin "object.__class__"))
  cn : PySem.W.specialIn K (.builtin "object.__class__") "__get__" = some (some (.builtin "getset_descriptor.__get__"))
  ct : PySem.W.takesIn K (.builtin "object.__class__") = some true
  cm : PySem.W.mroIn K C (.type "object") = some true
  mgW : mg "Word" = some (.ref C)
  most : ∃ t, mg "MOST_LETTERS" = some (.int 500 t)
  isin : mg "isinstance" = none
  all : mg "all" = none
/-! ### a word -/
def wf (tl : Addr) (n : Nat) (tk : Addr) (b1 b2 : Bool) : List (Str × V) := [("letters", .ref tl), ("length", .int (n : Int)), ("kinds", .ref tk), ("is_short", .bl b1), ("is_short_round", .bl b2)]
theorem ne1 : ¬ (("letters" : Str) = "length") := by decide +kernel
theorem ne2 : ¬ (("letters" : Str) = "kinds") := by decide +kernel
theorem ne3 : ¬ (("letters" : Str) = "is_short") := by decide +kernel
theorem ne4 : ¬ (("letters" : Str) = "is_short_round") := by decide +kernel
theorem ne5 : ¬ (("length" : Str) = "kinds") := by decide +kernel
theorem ne6 : ¬ (("length" : Str) = "is_short") := by decide +kernel
theorem ne7 : ¬ (("length" : Str) = "is_short_round") := by decide +kernel
theorem ne8 : ¬ (("kinds" : Str) = "is_short") := by decide +kernel
theorem ne9 : ¬ (("kinds" : Str) = "is_short_round") := by decide +kernel
theorem ne10 : ¬ (("is_short" : Str) = "is_short_round") := by decide +kernel
theorem lk_eq {k : Str} {v : V} {t : List (Str × V)} : List.lookup k ((k, v) :: t) = some v := by
  rw [List.lookup_cons, beq_self_eq_true k]
theorem lk_ne {k g : Str} {v : V} {t : List (Str × V)} (h : ¬ k = g) : List.lookup k ((g, v) :: t) = List.lookup k t := by
  rw [List.lookup_cons, show (k == g) = false from beq_eq_false_iff_ne.mpr h]
theorem pf_ne {k g : Str} {v x : V} {t : List (Str × V)} (h : ¬ g = k) : putF k v ((g, x) :: t) = (g, x) :: putF k v t := by
  show (if g = k then _ else _) = _
  rw [if_neg h]
theorem wf_letters {tl tk n b1 b2} : (wf tl n tk b1 b2).lookup ("letters" : Str) = some (.ref tl) := lk_eq
theorem wf_length {tl tk n b1 b2} : (wf tl n tk b1 b2).lookup ("length" : Str) = some (.int (n : Int)) := by
  unfold wf
  rw [lk_ne fun e => ne1 e.symm, lk_eq]
theorem wf_kinds {tl tk n b1 b2} : (wf tl n tk b1 b2).lookup ("kinds" : Str) = some (.ref tk) := by
  unfold wf
  rw [lk_ne fun e => ne2 e.symm, lk_ne fun e => ne5 e.symm, lk_eq]
theorem wf_short {tl tk n b1 b2} : (wf tl n tk b1 b2).lookup ("is_short" : Str) = some (.bl b1) := by
  unfold wf
  rw [lk_ne fun e => ne3 e.symm, lk_ne fun e => ne6 e.symm, lk_ne fun e => ne8 e.symm, lk_eq]
theorem wf_round {tl tk n b1 b2} : (wf tl n tk b1 b2).lookup ("is_short_round" : Str) = some (.bl b2) := by
  unfold wf
  rw [lk_ne fun e => ne4 e.symm, lk_ne fun e => ne7 e.symm, lk_ne fun e => ne9 e.symm, lk_ne fun e => ne10 e.symm, lk_eq]
theorem wf_no {tl tk n b1 b2} {m : Str} (h1 : ¬ m = "letters") (h2 : ¬ m = "length") (h3 : ¬ m = "kinds") (h4 : ¬ m = "is_short") (h5 : ¬ m = "is_short_round") : (wf tl n tk b1 b2).lookup m = none := by
  unfold wf
  rw [lk_ne h1, lk_ne h2, lk_ne h3, lk_ne h4, lk_ne h5]
  rfl
def WordAt (K : PySem.W.Frag) (C : Addr) (H : Hp) (p : Addr) (ns : List Int) : Prop :=
  ∃ (dx tl tk : Addr) (ks : List Int), H p = some (.ins C dx (wf tl ns.length tk (decide (Fr.shr ns = ns)) (decide (Fr.rnd ns = ns)))) ∧ SqT K H tl (iv ns) ∧ SqT K H tk (iv ks) ∧ kindsOk ns ks
theorem WordAt.same {K : PySem.W.Frag} {C : Addr} {H H' : Hp} {p : Addr} {ns : List Int} (h : WordAt K C H p ns) (s : Same H H') : WordAt K C H' p ns := by
  obtain ⟨dx, tl, tk, ks, h1, h2, h3, h4⟩ := h
  exact ⟨dx, tl, tk, ks, s _ _ h1, WR.Same.seqT s h2, WR.Same.seqT s h3, h4⟩
theorem Lts.nz {ns : List Int} (h : Lts ns) : Fr.NZ ns := fun a ha => by
  have := h a ha
  omega
def spInit (K : PySem.W.Frag) (C : Addr) : Sp := fun vs H Q _ => ∃ (H0 : Hp) (p dx a : Addr) (ns : List Int), vs = [.ref p, .ref a] ∧ Same H0 H ∧ H0 p = none ∧ H p = some (.ins C dx []) ∧ SqE K H0 a (iv ns) ∧ ns.length ≤ 500 ∧ Lts ns ∧
  ∀ H', Same H0 H' → WordAt K C H' p ns → Q .non H'
/-! ### tuples of ints held against one another -/
theorem dp_iv {K : PySem.W.Frag} {H : Hp} : ∀ ns : List Int, DpAll K H (iv ns) (ns.map PyData.int)
  | [] => .nil
  | n :: r => .cons (.int n) (dp_iv r)
theorem eqvAll_ints : ∀ ns ms : List Int, PyData.eqvAll (ns.map PyData.int) (ms.map PyData.int) = decide (ns = ms)
  | [], [] => rfl
  | [], b :: r => rfl
  | a :: r, [] => rfl
  | a :: r, b :: q => by
    have ih := eqvAll_ints r q
    show (PyData.eqv (.int a) (.int b) && PyData.eqvAll (r.map PyData.int) (q.map PyData.int)) = _
    rw [ih]
    have : PyData.eqv (.int a) (.int b) = decide (a = b) := by
      simp only [PyData.eqv]
      exact Bool.eq_iff_iff.mpr (by simp)
    rw [this]
    by_cases e1 : a = b <;> by_cases e2 : r = q <;> simp [e1, e2]
theorem eqv_ints (ns ms : List Int) : PyData.eqv (.tuple (ns.map .int)) (.tuple (ms.map .int)) = decide (ns = ms) := by
  show PyData.eqvAll _ _ = _
  exact eqvAll_ints ns ms
theorem lay_ints : ∀ ns : List Int, PyData.canLayAll0 (ns.map PyData.int) = true ∧ PyData.depthAll (ns.map PyData.int) = 0
  | [] => ⟨rfl, rfl⟩
  | n :: r => by
    obtain ⟨h1, h2⟩ := lay_ints r
    exact ⟨by simp [PyData.canLayAll0, PyData.canLay0, h1], by simp [PyData.depthAll, PyData.depth, h2]⟩
theorem shaped_ints (ns : List Int) : SeqAt.shaped (.tuple (ns.map .int)) = true := by
  obtain ⟨h1, h2⟩ := lay_ints ns
  simp [SeqAt.shaped, PyData.canLay0, PyData.depth, h1, h2]
section
variable {P : Program} {w : World} {K : PySem.W.Frag} {mg : Str → Option Value} {base : Heap}
theorem ok_listE {f : Addr} {fd : FuncData} (F : Fun K "is_listed" "is_listed" sListed f fd) (T : TxI mg) : FnOk P w K mg base CX0 1 f fd ["value"] (spListE K) := by
  refine F.ok scListed (fun vs H Q E h => ?_) (fun cdv A outer s H vs Q E hr h => ?_)
  · obtain ⟨a, xs, rfl, _⟩ := h
    rfl
  · obtain ⟨a, xs, rfl, hS, k⟩ := h
    refine ⟨_, pss_one (ps_ret (pe_callB call_isiT (by rfl) T.isin (by decide +kernel) (pa_cons (pv 0) (pa_cons (pe_tup (pa_cons (pe_bltn (v := .ty "list") (by rfl) T.list (by decide +kernel) rfl) (pa_cons (pe_bltn (v := .ty "tuple") (by rfl) T.tuple (by decide +kernel) rfl) pa_nil))) pa_nil)))), ?_⟩
    refine ⟨_, rfl, (by show 2 ≤ sizeLine; decide), fun p hp => ?_⟩
    have sm : Same H (upd H p (.tup [.ty "list", .ty "tuple"])) := same_upd hp
    rcases hS.same sm with hS | hS
    · exact ⟨_, p, _, _, _, _, rfl, upd_same, .cons (.ty _) (.cons (.ty _) .nil), SqL.tyx hS, (by rfl), k _ sm⟩
    · exact ⟨_, p, _, _, _, _, rfl, upd_same, .cons (.ty _) (.cons (.ty _) .nil), SqT.tyx hS, (Typ.tup (H := fun _ => some (.tup [])) (p := a) (xs := []) rfl).kSeq, k _ sm⟩
theorem scFew : FnScope ["many"] ["many"] (defScope sFew) := ⟨rfl, rfl, rfl, by decide +kernel, rfl, by decide +kernel, by decide +kernel⟩
theorem ok_few {C : Addr} {f : Addr} {fd : FuncData} (F : Fun K "need_few_letters" "need_few_letters" sFew f fd) (T : TxW K mg C) : FnOk P w K mg base CX0 1 f fd ["many"] spFew := by
  refine F.ok scFew (fun vs H Q E h => ?_) (fun cdv A outer s H vs Q E hr h => ?_)
  · obtain ⟨n, rfl, _⟩ := h
    rfl
  · obtain ⟨n, rfl, hn, k⟩ := h
    obtain ⟨tk, mM⟩ := T.most
    refine ⟨_, pss_one (ps_if (pt_cmpR op_gt (pv 0) (pe_glob (v := .int 500) (by rfl) mM ⟨_, rfl⟩) (nomark _)) (pss_one ps_never) pss_nil), ?_⟩
    refine ⟨_, rfl, _, _, rfl, rfl, _, rfl, ?_⟩
    exact iteF' (decide_eq_false (by omega)) k
end
end W05
set_option Elab.async false
set_option linter.all false
set_option maxRecDepth 100000
set_option maxHeartbeats 2000000
namespace W05
open PySem L2 PySem.Spec PyProof.Rows WR
theorem SqT.put {K : PySem.W.Frag} {H : Hp} {a p C dx : Addr} {fs : List (Str × V)} {o : HO} {xs : List V} (h : SqT K H a xs) (hp : H p = some (.ins C dx fs)) : SqT K (L2.upd H p o) a xs := by
  rcases h with h | h
  · left
    have ne : ∀ u, H a = some u → (∀ C dx fs, u ≠ .ins C dx fs) → a ≠ p := fun u e q z => by
      rw [z, hp] at e
      exact q _ _ _ (Option.some.inj e).symm
    rcases h with h | ⟨o', h⟩
    · exact .inl (by rw [upd_ne (ne _ h fun _ _ _ => by intro z; cases z)]; exact h)
    · exact .inr ⟨o', by rw [upd_ne (ne _ h fun _ _ _ => by intro z; cases z)]; exact h⟩
  · exact .inr h
theorem same_put {H0 H : Hp} {p : Addr} {o : HO} (s : Same H0 H) (hp : H0 p = none) : Same H0 (L2.upd H p o) := fun b u e => by
  have : b ≠ p := fun z => by rw [z, hp] at e; cases e
  rw [upd_ne this]
  exact s _ _ e
theorem letter_ok {i : Int} (h : 1 ≤ i.natAbs ∧ i.natAbs ≤ 26) : letterB (.int i) = true := by
  show ((decide (-26 ≤ i) && decide (i ≤ 26)) && !decide (i = 0)) = true
  rw [decide_eq_true (by omega), decide_eq_true (by omega), decide_eq_false (by omega)]
  rfl
theorem all_ok {ns : List Int} (h : Lts ns) : ((ns.map fun i => letterB (.int i)).all id) = true := by
  rw [List.all_eq_true]
  intro b hb
  obtain ⟨i, hi, rfl⟩ := List.mem_map.mp hb
  exact letter_ok (h i hi)
theorem bl_of {b c : Bool} (h : b = c) : V.bl b = V.bl c := by rw [h]
theorem kindsOk_ex (ns : List Int) : True := trivial
theorem not_lc {r : List V → Hp → VK → Prop} {wi : TI} {g : TG} {tt : TT} {te : TE} {vs : List Nat} {σ : L2.St} {H : Hp} {Q : Bool → Hp → Prop}
    (h : wi σ H fun J H1 => tLc (fun _ H R => R J H) g tt te vs σ H1 fun x H2 => r [x] H2 fun v H3 => ∃ c, v = .bl c ∧ Q (!c) H3) :
    tNot (fun σ H Q => tCB r (tCons (tLc wi g tt te vs) tNil) σ H fun x H1 => ∃ c, x = .bl c ∧ Q c H1) σ H Q := h
abbrev nInit : List Str := ["self", "letters", "letter"]
section
variable {P : Program} {w : World} {K : PySem.W.Frag} {mg : Str → Option Value} {base : Heap}
theorem scInit : FnScope nInit ["self", "letters"] (defScope sInit) := ⟨rfl, rfl, rfl, by decide +kernel, rfl, by decide +kernel, by decide +kernel⟩
theorem ok_init {C f : Addr} {fd : FuncData} (F : Fun K "__init__" "Word.__init__" sInit f fd) (T : TxW K mg C) (TA : TxA mg) (GL : Cal P w K mg base "is_listed" 1 ["value"] (spListE K)) (GX : Cal P w K mg base "is_letter" 3 ["value"] spLetter)
    (GF : Cal P w K mg base "need_few_letters" 1 ["many"] spFew) (GK : Cal P w K mg base "kinds_of" 1 ["letters"] (spKinds K)) (GS : Cal P w K mg base "shortened_letters" 1 ["letters"] (spShr K)) (GR : Cal P w K mg base "rounded_letters" 2 ["letters"] (spRnd K)) :
    FnOk P w K mg base CX0 4 f fd ["self", "letters"] (spInit K C) := by
  refine F.ok scInit (fun vs H Q E h => ?_) (fun cdv A outer s H vs Q E hr h => ?_)
  · obtain ⟨H0, p, dx, a, ns, rfl, _⟩ := h
    rfl
  · obtain ⟨H0, p, dx, a, ns, rfl, s0, p0, hp, hS, hlen, hl, k⟩ := h
    rcases hS with hS | hS
    · refine ⟨_, pss_cons (ps_if (PW.pt (pw_or (pt_not (pt_val (pe_cal GL hr (by decide) (by rfl) (pa_cons (pv 1) pa_nil)))) (pw_or1 (pt_not (pt_val (pe_callB (cr_all rfl) (by rfl) T.all (by decide +kernel) (pa_cons (pe_lc (own := [("letter", 2)]) (g := gName 2) (tt := tYes) rfl scInit.nd (pi_list (pv 1))
          (blkOk_by (N := nInit) (sc := defScope sInit) (by decide +kernel)) (fun _ _ _ _ _ => pg_name (i := 2) scInit.nd rfl (Or.inl rfl)) (fun _ _ _ _ _ => pts_nil)
          (fun _ _ _ _ _ => pe_cal GX hr (by decide) (by rfl) (pa_cons (pv 2) pa_nil))) pa_nil))))))) (pss_one ps_never) pss_nil)
        (pss_cons (ps_expr (pe_cal GF hr (by decide) (by rfl) (pa_cons (pe_callB call_len_seq (by rfl) TA.len PySem.boot_len (pa_cons (pv 1) pa_nil)) pa_nil)))
        (pss_cons (ps_fld (pv 0) (pe_callTy call_tuple_of (by rfl) TA.tuple (by decide +kernel) (pa_cons (pv 1) pa_nil)) rfl)
        (pss_cons (ps_fld (pv 0) (pe_callB call_len_seq (by rfl) TA.len PySem.boot_len (pa_cons (pv 1) pa_nil)) rfl)
        (pss_cons (ps_fld (pv 0) (pe_cal GK hr (by decide) (by rfl) (pa_cons (pv 1) pa_nil)) rfl)
        (pss_cons (ps_fld (pv 0) (pe_cmpR (op_eqD hr.units) (pe_cal GS hr (by decide) (by rfl) (pa_cons (pv 1) pa_nil)) (pe_fld (pv 0) rfl) (nomark _)) rfl)
        (pss_one (ps_fld (pv 0) (pe_cmpR (op_eqD hr.units) (pe_cal GR hr (by decide) (by rfl) (pa_cons (pv 1) pa_nil)) (pe_fld (pv 0) rfl) (nomark _)) rfl))))))), ?_⟩
      have E0 : SqE K H0 a (iv ns) := .inl hS
      refine ⟨_, rfl, a, _, rfl, E0.same s0, fun H1 s1 => ⟨_, rfl, ?_⟩⟩
      have s01 := s0.trans s1
      refine iteF ?_
      refine not_lc ?_
      refine ⟨_, rfl, a, rfl, ⟨_, (s01.seq hS)⟩, ?_⟩
      refine lcp (walk_list (xs := iv ns)) (fun _ => true) (fun x => .bl (letterB x)) (by simp; omega) (fun H2 s2 => (s01.trans s2).seq hS) ?_ ?_
      · intro x hx H2 s2 Qy Qn ky kn
        obtain ⟨i, hi, rfl⟩ := List.mem_map.mp hx
        exact ⟨rfl, yes_te ⟨_, rfl, .int i, _, rfl, .int i, ky rfl H2 (fun _ _ e => e)⟩⟩
      intro D H2 hD s2 h2
      have s02 := s01.trans s2
      refine ⟨D, ns.map fun i => letterB (.int i), rfl, SqL.of (by
        rw [h2, List.filter_eq_self.mpr (fun _ _ => rfl), List.map_map, List.map_map]
        rfl), ?_⟩
      rw [all_ok hl]
      refine ⟨_, rfl, iteF ?_⟩
      -- not too many
      refine ⟨_, rfl, a, _, rfl, E0.same s02, ((iv ns).length : Int), rfl, by rw [List.length_map]; omega, ?_⟩
      have hp2 : H2 p = some (.ins C dx []) := s2 _ _ (s1 _ _ hp)
      -- its letters
      refine ⟨_, rfl, a, _, rfl, .inl ⟨s02.seq hS, fun tl htl => ?_⟩⟩
      have s3 := s02.trans (same_upd (o := .tup (iv ns)) htl)
      have hp3 : L2.upd H2 tl (.tup (iv ns)) p = some (.ins C dx []) := by rw [upd_ne (ne_of_none hp2 htl)]; exact hp2
      have t3 : SqT K (L2.upd H2 tl (.tup (iv ns))) tl (iv ns) := SqT.of upd_same
      refine gen_heap fun H3 e3 => ?_
      rw [← e3] at s3 hp3 t3
      refine ⟨_, rfl, p, C, dx, _, rfl, hp3, T.cl, T.nL, (by show 0 < 1000; decide), ?_⟩
      have hp4 : L2.upd H3 p (.ins C dx (putF "letters" (.ref tl) [])) p = some (.ins C dx [("letters", .ref tl)]) := by rw [upd_same]; rfl
      have s4 := same_put (o := .ins C dx (putF "letters" (.ref tl) [])) s3 p0
      have t4 := SqT.put (o := .ins C dx (putF "letters" (.ref tl) [])) t3 hp3
      refine gen_heap fun H4 e4 => ?_
      rw [← e4] at hp4 s4 t4
      -- how many
      refine ⟨_, rfl, a, _, rfl, E0.same s4, _, rfl, p, C, dx, _, rfl, hp4, T.cl, T.nN, (by show 1 < 1000; decide), ?_⟩
      have hp5 : L2.upd H4 p (.ins C dx (putF "length" (.int ((iv ns).length : Nat)) [("letters", .ref tl)])) p = some (.ins C dx [("letters", .ref tl), ("length", .int (ns.length : Nat))]) := by
        rw [upd_same, pf_ne ne1, List.length_map]
        rfl
      have s5 := same_put (o := .ins C dx (putF "length" (.int ((iv ns).length : Nat)) [("letters", .ref tl)])) s4 p0
      have t5 := SqT.put (o := .ins C dx (putF "length" (.int ((iv ns).length : Nat)) [("letters", .ref tl)])) t4 hp4
      refine gen_heap fun H5 e5 => ?_
      rw [← e5] at hp5 s5 t5
      -- its kinds
      refine ⟨_, rfl, a, ns, rfl, E0.same s5, by omega, hl, fun ks hk tk H6 s6 tk6 => ?_⟩
      have hp6 := s6 _ _ hp5
      have s06 := s5.trans s6
      have t6 := WR.Same.seqT s6 t5
      refine ⟨_, rfl, p, C, dx, _, rfl, hp6, T.cl, T.nK, (by show 2 < 1000; decide), ?_⟩
      have hp7 : L2.upd H6 p (.ins C dx (putF "kinds" (.ref tk) [("letters", .ref tl), ("length", .int (ns.length : Nat))])) p = some (.ins C dx [("letters", .ref tl), ("length", .int (ns.length : Nat)), ("kinds", .ref tk)]) := by
        rw [upd_same, pf_ne ne2, pf_ne ne5]
        rfl
      have s7 := same_put (o := .ins C dx (putF "kinds" (.ref tk) [("letters", .ref tl), ("length", .int (ns.length : Nat))])) s06 p0
      have t7 := SqT.put (o := .ins C dx (putF "kinds" (.ref tk) [("letters", .ref tl), ("length", .int (ns.length : Nat))])) t6 hp6
      have k7 := SqT.put (o := .ins C dx (putF "kinds" (.ref tk) [("letters", .ref tl), ("length", .int (ns.length : Nat))])) tk6 hp6
      refine gen_heap fun H7 e7 => ?_
      rw [← e7] at hp7 s7 t7 k7
      -- short
      refine ⟨_, rfl, a, ns, rfl, E0.same s7, by omega, fun q H8 s8 q8 => ?_⟩
      have hp8 := s8 _ _ hp7
      have s08 := s7.trans s8
      have t8 := WR.Same.seqT s8 t7
      have k8 := WR.Same.seqT s8 k7
      refine ⟨_, rfl, p, C, dx, _, _, rfl, hp8, T.cl, T.nL, lk_eq, ?_⟩
      refine ⟨_, _, .tup q8 (dp_iv _), .tup t8 (dp_iv _), shaped_ints _, shaped_ints _, ?_⟩
      rw [eqv_ints]
      refine ⟨_, rfl, p, C, dx, _, rfl, hp8, T.cl, T.nS, (by show 3 < 1000; decide), ?_⟩
      have hp9 : L2.upd H8 p (.ins C dx (putF "is_short" (.bl (decide (Fr.shr ns = ns))) [("letters", .ref tl), ("length", .int (ns.length : Nat)), ("kinds", .ref tk)])) p = some (.ins C dx [("letters", .ref tl), ("length", .int (ns.length : Nat)), ("kinds", .ref tk), ("is_short", .bl (decide (Fr.shr ns = ns)))]) := by
        rw [upd_same, pf_ne ne3, pf_ne ne6, pf_ne ne8]
        rfl
      have s9 := same_put (o := .ins C dx (putF "is_short" (.bl (decide (Fr.shr ns = ns))) [("letters", .ref tl), ("length", .int (ns.length : Nat)), ("kinds", .ref tk)])) s08 p0
      have t9 := SqT.put (o := .ins C dx (putF "is_short" (.bl (decide (Fr.shr ns = ns))) [("letters", .ref tl), ("length", .int (ns.length : Nat)), ("kinds", .ref tk)])) t8 hp8
      have k9 := SqT.put (o := .ins C dx (putF "is_short" (.bl (decide (Fr.shr ns = ns))) [("letters", .ref tl), ("length", .int (ns.length : Nat)), ("kinds", .ref tk)])) k8 hp8
      refine gen_heap fun H9 e9 => ?_
      rw [← e9] at hp9 s9 t9 k9
      -- short round
      refine ⟨_, rfl, a, ns, rfl, E0.same s9, by omega, hl.nz, fun q2 Ha sa qa => ?_⟩
      have hpa := sa _ _ hp9
      have s0a := s9.trans sa
      have ta := WR.Same.seqT sa t9
      have ka := WR.Same.seqT sa k9
      refine ⟨_, rfl, p, C, dx, _, _, rfl, hpa, T.cl, T.nL, lk_eq, ?_⟩
      refine ⟨_, _, .tup qa (dp_iv _), .tup ta (dp_iv _), shaped_ints _, shaped_ints _, ?_⟩
      rw [eqv_ints]
      refine ⟨_, rfl, p, C, dx, _, rfl, hpa, T.cl, T.nR, (by show 4 < 1000; decide), ?_⟩
      refine k _ (same_put s0a p0) ⟨dx, tl, tk, ks, ?_, SqT.put ta hpa, SqT.put ka hpa, hk⟩
      rw [upd_same, pf_ne ne4, pf_ne ne7, pf_ne ne9, pf_ne ne10]
      rfl
    · refine ⟨_, pss_cons (ps_if (PW.pt (pw_or (pt_not (pt_val (pe_cal GL hr (by decide) (by rfl) (pa_cons (pv 1) pa_nil)))) (pw_or1 (pt_not (pt_val (pe_callB (cr_all rfl) (by rfl) T.all (by decide +kernel) (pa_cons (pe_lc (own := [("letter", 2)]) (g := gName 2) (tt := tYes) rfl scInit.nd (pi_tup (pv 1))
          (blkOk_by (N := nInit) (sc := defScope sInit) (by decide +kernel)) (fun _ _ _ _ _ => pg_name (i := 2) scInit.nd rfl (Or.inl rfl)) (fun _ _ _ _ _ => pts_nil)
          (fun _ _ _ _ _ => pe_cal GX hr (by decide) (by rfl) (pa_cons (pv 2) pa_nil))) pa_nil))))))) (pss_one ps_never) pss_nil)
        (pss_cons (ps_expr (pe_cal GF hr (by decide) (by rfl) (pa_cons (pe_callB call_len_seq (by rfl) TA.len PySem.boot_len (pa_cons (pv 1) pa_nil)) pa_nil)))
        (pss_cons (ps_fld (pv 0) (pe_callTy call_tuple_of (by rfl) TA.tuple (by decide +kernel) (pa_cons (pv 1) pa_nil)) rfl)
        (pss_cons (ps_fld (pv 0) (pe_callB call_len_seq (by rfl) TA.len PySem.boot_len (pa_cons (pv 1) pa_nil)) rfl)
        (pss_cons (ps_fld (pv 0) (pe_cal GK hr (by decide) (by rfl) (pa_cons (pv 1) pa_nil)) rfl)
        (pss_cons (ps_fld (pv 0) (pe_cmpR (op_eqD hr.units) (pe_cal GS hr (by decide) (by rfl) (pa_cons (pv 1) pa_nil)) (pe_fld (pv 0) rfl) (nomark _)) rfl)
        (pss_one (ps_fld (pv 0) (pe_cmpR (op_eqD hr.units) (pe_cal GR hr (by decide) (by rfl) (pa_cons (pv 1) pa_nil)) (pe_fld (pv 0) rfl) (nomark _)) rfl))))))), ?_⟩
      have E0 : SqE K H0 a (iv ns) := .inr hS
      refine ⟨_, rfl, a, _, rfl, E0.same s0, fun H1 s1 => ⟨_, rfl, ?_⟩⟩
      have s01 := s0.trans s1
      refine iteF ?_
      refine not_lc ?_
      refine ⟨_, rfl, a, rfl, ⟨_, (WR.Same.seqT s01 hS)⟩, ?_⟩
      refine lcp (walk_tup (xs := iv ns)) (fun _ => true) (fun x => .bl (letterB x)) (by simp; omega) (fun H2 s2 => WR.Same.seqT (s01.trans s2) hS) ?_ ?_
      · intro x hx H2 s2 Qy Qn ky kn
        obtain ⟨i, hi, rfl⟩ := List.mem_map.mp hx
        exact ⟨rfl, yes_te ⟨_, rfl, .int i, _, rfl, .int i, ky rfl H2 (fun _ _ e => e)⟩⟩
      intro D H2 hD s2 h2
      have s02 := s01.trans s2
      refine ⟨D, ns.map fun i => letterB (.int i), rfl, SqL.of (by
        rw [h2, List.filter_eq_self.mpr (fun _ _ => rfl), List.map_map, List.map_map]
        rfl), ?_⟩
      rw [all_ok hl]
      refine ⟨_, rfl, iteF ?_⟩
      -- not too many
      refine ⟨_, rfl, a, _, rfl, E0.same s02, ((iv ns).length : Int), rfl, by rw [List.length_map]; omega, ?_⟩
      have hp2 : H2 p = some (.ins C dx []) := s2 _ _ (s1 _ _ hp)
      -- its letters
      refine ⟨_, rfl, a, _, rfl, .inr ⟨WR.Same.seqT s02 hS, ?_⟩⟩
      have s3 := s02
      have hp3 := hp2
      have t3 : SqT K H2 a (iv ns) := WR.Same.seqT s02 hS
      refine gen_heap fun H3 e3 => ?_
      rw [← e3] at s3 hp3 t3
      refine ⟨_, rfl, p, C, dx, _, rfl, hp3, T.cl, T.nL, (by show 0 < 1000; decide), ?_⟩
      have hp4 : L2.upd H3 p (.ins C dx (putF "letters" (.ref a) [])) p = some (.ins C dx [("letters", .ref a)]) := by rw [upd_same]; rfl
      have s4 := same_put (o := .ins C dx (putF "letters" (.ref a) [])) s3 p0
      have t4 := SqT.put (o := .ins C dx (putF "letters" (.ref a) [])) t3 hp3
      refine gen_heap fun H4 e4 => ?_
      rw [← e4] at hp4 s4 t4
      -- how many
      refine ⟨_, rfl, a, _, rfl, E0.same s4, _, rfl, p, C, dx, _, rfl, hp4, T.cl, T.nN, (by show 1 < 1000; decide), ?_⟩
      have hp5 : L2.upd H4 p (.ins C dx (putF "length" (.int ((iv ns).length : Nat)) [("letters", .ref a)])) p = some (.ins C dx [("letters", .ref a), ("length", .int (ns.length : Nat))]) := by
        rw [upd_same, pf_ne ne1, List.length_map]
        rfl
      have s5 := same_put (o := .ins C dx (putF "length" (.int ((iv ns).length : Nat)) [("letters", .ref a)])) s4 p0
      have t5 := SqT.put (o := .ins C dx (putF "length" (.int ((iv ns).length : Nat)) [("letters", .ref a)])) t4 hp4
      refine gen_heap fun H5 e5 => ?_
      rw [← e5] at hp5 s5 t5
      -- its kinds
      refine ⟨_, rfl, a, ns, rfl, E0.same s5, by omega, hl, fun ks hk tk H6 s6 tk6 => ?_⟩
      have hp6 := s6 _ _ hp5
      have s06 := s5.trans s6
      have t6 := WR.Same.seqT s6 t5
      refine ⟨_, rfl, p, C, dx, _, rfl, hp6, T.cl, T.nK, (by show 2 < 1000; decide), ?_⟩
      have hp7 : L2.upd H6 p (.ins C dx (putF "kinds" (.ref tk) [("letters", .ref a), ("length", .int (ns.length : Nat))])) p = some (.ins C dx [("letters", .ref a), ("length", .int (ns.length : Nat)), ("kinds", .ref tk)]) := by
        rw [upd_same, pf_ne ne2, pf_ne ne5]
        rfl
      have s7 := same_put (o := .ins C dx (putF "kinds" (.ref tk) [("letters", .ref a), ("length", .int (ns.length : Nat))])) s06 p0
      have t7 := SqT.put (o := .ins C dx (putF "kinds" (.ref tk) [("letters", .ref a), ("length", .int (ns.length : Nat))])) t6 hp6
      have k7 := SqT.put (o := .ins C dx (putF "kinds" (.ref tk) [("letters", .ref a), ("length", .int (ns.length : Nat))])) tk6 hp6
      refine gen_heap fun H7 e7 => ?_
      rw [← e7] at hp7 s7 t7 k7
      -- short
      refine ⟨_, rfl, a, ns, rfl, E0.same s7, by omega, fun q H8 s8 q8 => ?_⟩
      have hp8 := s8 _ _ hp7
      have s08 := s7.trans s8
      have t8 := WR.Same.seqT s8 t7
      have k8 := WR.Same.seqT s8 k7
      refine ⟨_, rfl, p, C, dx, _, _, rfl, hp8, T.cl, T.nL, lk_eq, ?_⟩
      refine ⟨_, _, .tup q8 (dp_iv _), .tup t8 (dp_iv _), shaped_ints _, shaped_ints _, ?_⟩
      rw [eqv_ints]
      refine ⟨_, rfl, p, C, dx, _, rfl, hp8, T.cl, T.nS, (by show 3 < 1000; decide), ?_⟩
      have hp9 : L2.upd H8 p (.ins C dx (putF "is_short" (.bl (decide (Fr.shr ns = ns))) [("letters", .ref a), ("length", .int (ns.length : Nat)), ("kinds", .ref tk)])) p = some (.ins C dx [("letters", .ref a), ("length", .int (ns.length : Nat)), ("kinds", .ref tk), ("is_short", .bl (decide (Fr.shr ns = ns)))]) := by
        rw [upd_same, pf_ne ne3, pf_ne ne6, pf_ne ne8]
        rfl
      have s9 := same_put (o := .ins C dx (putF "is_short" (.bl (decide (Fr.shr ns = ns))) [("letters", .ref a), ("length", .int (ns.length : Nat)), ("kinds", .ref tk)])) s08 p0
      have t9 := SqT.put (o := .ins C dx (putF "is_short" (.bl (decide (Fr.shr ns = ns))) [("letters", .ref a), ("length", .int (ns.length : Nat)), ("kinds", .ref tk)])) t8 hp8
      have k9 := SqT.put (o := .ins C dx (putF "is_short" (.bl (decide (Fr.shr ns = ns))) [("letters", .ref a), ("length", .int (ns.length : Nat)), ("kinds", .ref tk)])) k8 hp8
      refine gen_heap fun H9 e9 => ?_
      rw [← e9] at hp9 s9 t9 k9
      -- short round
      refine ⟨_, rfl, a, ns, rfl, E0.same s9, by omega, hl.nz, fun q2 Ha sa qa => ?_⟩
      have hpa := sa _ _ hp9
      have s0a := s9.trans sa
      have ta := WR.Same.seqT sa t9
      have ka := WR.Same.seqT sa k9
      refine ⟨_, rfl, p, C, dx, _, _, rfl, hpa, T.cl, T.nL, lk_eq, ?_⟩
      refine ⟨_, _, .tup qa (dp_iv _), .tup ta (dp_iv _), shaped_ints _, shaped_ints _, ?_⟩
      rw [eqv_ints]
      refine ⟨_, rfl, p, C, dx, _, rfl, hpa, T.cl, T.nR, (by show 4 < 1000; decide), ?_⟩
      refine k _ (same_put s0a p0) ⟨dx, a, tk, ks, ?_, SqT.put ta hpa, SqT.put ka hpa, hk⟩
      rw [upd_same, pf_ne ne4, pf_ne ne7, pf_ne ne9, pf_ne ne10]
      rfl
end
end W05
set_option Elab.async false
set_option linter.all false
set_option maxRecDepth 100000
set_option maxHeartbeats 2000000
namespace W05
open PySem L2 PySem.Spec PyProof.Rows WR
abbrev sEq : Stmt := inClass (top 30) 1
abbrev sContrary : Stmt := inClass (top 30) 4
abbrev sShort : Stmt := inClass (top 30) 5
abbrev sRound : Stmt := inClass (top 30) 6
abbrev sThen : Stmt := inClass (top 30) 8
abbrev sTimes : Stmt := inClass (top 30) 9
abbrev sNeedI : Stmt := top 20
/-- some word of these letters, all else as it stood -/
def NewW (K : PySem.W.Frag) (C : Addr) (H : Hp) (Q : VK) (ns : List Int) : Prop := ∀ p H', Same H H' → WordAt K C H' p ns → Q (.ref p) H'
theorem make_word {K : PySem.W.Frag} {C : Addr} {H1 : Hp} {q : Addr} {ms : List Int} {Q : VK} {E : XK} (hq : SqE K H1 q (iv ms)) (hlen : ms.length ≤ 500) (hl : Lts ms) (k : NewW K C H1 Q ms) :
    ∀ x dx, H1 x = none → H1 dx = none → dx ≠ x → spInit K C [.ref x, .ref q] (L2.upd (L2.upd H1 dx (.own x)) x (.ins C dx [])) (fun v H2 => v = .non ∧ Q (.ref x) H2) E := by
  intro x dx nx ndx nex
  have s0 : Same H1 (L2.upd (L2.upd H1 dx (.own x)) x (.ins C dx [])) := fun b o e => by
    rw [upd_ne (ne_of_none e nx), upd_ne (ne_of_none e ndx)]
    exact e
  exact ⟨H1, x, dx, q, ms, rfl, s0, nx, upd_same, hq, hlen, hl, fun H' s' W' => ⟨rfl, k x H' s' W'⟩⟩
def spOne (K : PySem.W.Frag) (C : Addr) (fn : List Int → List Int) : Sp := fun vs H Q _ => ∃ (p : Addr) (ns : List Int), vs = [.ref p] ∧ WordAt K C H p ns ∧ ns.length ≤ 500 ∧ Lts ns ∧ NewW K C H Q (fn ns)
def spEq (K : PySem.W.Frag) (C : Addr) : Sp := fun vs H Q _ => ∃ (p q : Addr) (ns ms : List Int), vs = [.ref p, .ref q] ∧ WordAt K C H p ns ∧ WordAt K C H q ms ∧ Q (.bl (decide (ns = ms))) H
def spThen (K : PySem.W.Frag) (C : Addr) : Sp := fun vs H Q _ => ∃ (p q : Addr) (ns ms : List Int), vs = [.ref p, .ref q] ∧ WordAt K C H p ns ∧ WordAt K C H q ms ∧ ns.length + ms.length ≤ 500 ∧ Lts ns ∧ Lts ms ∧ NewW K C H Q (ns ++ ms)
/-- so many times, for a number below 0 the contrary so many times -/
def tms (n : Int) (ns : List Int) : List Int := if 0 < n then Fr.rep n.natAbs ns else Fr.rep n.natAbs (Fr.con ns)
def spTimes (K : PySem.W.Frag) (C : Addr) : Sp := fun vs H Q _ => ∃ (p : Addr) (n : Int) (ns : List Int), vs = [.ref p, .int n] ∧ WordAt K C H p ns ∧ ns.length ≤ 500 ∧ ns.length * n.natAbs ≤ 500 ∧ Lts ns ∧ NewW K C H Q (tms n ns)
def spNeedW (K : PySem.W.Frag) (C : Addr) : Sp := fun vs H Q _ => ∃ (q : Addr) (z : V) (ms : List Int), vs = [.ref q, z] ∧ WordAt K C H q ms ∧ Q .non H
def spNeedI : Sp := fun vs H Q _ => ∃ (n : Int) (z : V), vs = [.int n, z] ∧ Q .non H
theorem Lts.con {ns : List Int} (h : Lts ns) : Lts (Fr.con ns) := fun x hx => by
  unfold Fr.con at hx
  obtain ⟨y, hy, rfl⟩ := List.mem_map.mp hx
  have := h y (List.mem_reverse.mp hy)
  rw [Int.natAbs_neg]
  exact this
theorem Lts.app {ns ms : List Int} (h : Lts ns) (k : Lts ms) : Lts (ns ++ ms) := fun x hx => by
  rcases List.mem_append.mp hx with e | e
  · exact h x e
  · exact k x e
theorem Lts.shr {ns : List Int} (h : Lts ns) : Lts (Fr.shr ns) := fun x hx => h x (Fr.shr_mem hx)
theorem Lts.rep {ns : List Int} (h : Lts ns) : ∀ n, Lts (Fr.rep n ns)
  | 0 => fun x hx => nomatch hx
  | n + 1 => h.app (Lts.rep h n)
theorem rnd_sub {ns : List Int} (nz : Fr.NZ ns) : ∃ u, Fr.shr ns = u ++ Fr.rnd ns ++ Fr.con u := by
  obtain ⟨u, m, e, c, z⟩ := Fr.parted (Fr.shr ns) nz.shr (Fr.rd_shr ns)
  refine ⟨u, ?_⟩
  have er : Fr.rnd ns = m := by
    unfold Fr.rnd
    rw [e, Fr.ends_eq c z]
  rw [er]
  exact e
theorem Lts.rnd {ns : List Int} (h : Lts ns) : Lts (Fr.rnd ns) := fun x hx => by
  obtain ⟨u, e⟩ := rnd_sub h.nz
  refine h.shr x ?_
  rw [e]
  simp [hx]
theorem rnd_len {ns : List Int} (h : Lts ns) : (Fr.rnd ns).length ≤ ns.length := by
  obtain ⟨u, e⟩ := rnd_sub h.nz
  have h1 := shr_len ns
  rw [e] at h1
  rw [whole_len] at h1
  omega
theorem rep_flat (n : Nat) (ns : List Int) : (List.replicate n (iv ns)).flatten = iv (Fr.rep n ns) := by
  induction n with
  | zero => rfl
  | succ n ih => 
    rw [List.replicate_succ, List.flatten_cons, ih, Fr.rep_succ]
    exact List.map_append.symm
theorem WordAt.tyx {K : PySem.W.Frag} {mg : Str → Option Value} {C : Addr} {H : Hp} {p : Addr} {ns : List Int} (h : WordAt K C H p ns) (T : TxW K mg C) : TyX K H (.ref p) (.ref C) := by
  obtain ⟨dx, tl, tk, ks, h1, _⟩ := h
  exact .base (.ins h1 T.cl T.ca T.cn T.ct T.cm)
theorem kit_self {K : PySem.W.Frag} (C : Addr) : PySem.W.kitOne K (.ref C) (.ref C) = some true := by
  unfold PySem.W.kitOne
  rw [if_pos (by simp)]
structure MkW (P : Program) (w : World) (K : PySem.W.Frag) (mg : Str → Option Value) (base : Heap) (C : Addr) : Prop where
  ex : ∃ (f : Addr) (fd : FuncData), Mk K C f ∧ FnOk P w K mg base CX0 4 f fd ["self", "letters"] (spInit K C) ∧ Binds K fd ["self", "letters"] []
section
variable {X : Cx} {C : Addr} {p pos : Pos} {e : Expr} {es : List Expr} {t : TA} {j : Nat}
theorem pe_word (M : MkW X.prog X.w X.K X.mg X.base C) (T : TxW X.K X.mg C) (hr : Room j X.A) (hkj : 5 ≤ j) (hg : Gl X "Word") (ha : PA X (e :: es) t)
    (he : starEach (e :: es) X.env = (false, eval e X.env) :: starEach es X.env := by rfl) (hpl : (backTo pos (starEach es X.env)).any (·.1) = false := by rfl) :
    PE X (.Call (.Name "Word" p) (e :: es) [] pos) (tMake C (spInit X.K C) [] E0 t) := by
  obtain ⟨f, fd, M, F, hb⟩ := M.ex
  exact pe_make M F (hr.mono hkj) hg T.mgW hb .nil pass0 ha (by decide) he hpl
end
section
variable {P : Program} {w : World} {K : PySem.W.Frag} {mg : Str → Option Value} {base : Heap}
theorem scEq : FnScope ["self", "other"] ["self", "other"] (defScope sEq) := ⟨rfl, rfl, rfl, by decide +kernel, rfl, by decide +kernel, by decide +kernel⟩
theorem ok_eq {C f : Addr} {fd : FuncData} (F : Fun K "__eq__" "Word.__eq__" sEq f fd) (T : TxW K mg C) : FnOk P w K mg base CX0 1 f fd ["self", "other"] (spEq K C) := by
  refine F.ok scEq (fun vs H Q E h => ?_) (fun cdv A outer s H vs Q E hr h => ?_)
  · obtain ⟨p, q, ns, ms, rfl, _⟩ := h
    rfl
  · obtain ⟨p, q, ns, ms, rfl, W1, W2, k⟩ := h
    refine ⟨_, pss_one (ps_ret (pe_and (pe_callB call_isi (by rfl) T.isin (by decide +kernel) (pa_cons (pv 1) (pa_cons (pe_glob (v := .ref C) (by rfl) T.mgW rfl) pa_nil)))
      (pe_one (pe_cmpR (op_eqD hr.units) (pe_fld (pv 0) rfl) (pe_fld (pv 1) rfl) (nomark _))))), ?_⟩
    refine ⟨_, rfl, _, _, _, _, _, rfl, .own C, W2.tyx T, kit_self C, _, rfl, ?_⟩
    refine iteT ?_
    obtain ⟨dx, tl, tk, ks, h1, h2, h3, h4⟩ := W1
    obtain ⟨dx', tl', tk', ks', h1', h2', h3', h4'⟩ := W2
    refine ⟨_, rfl, p, C, dx, _, _, rfl, h1, T.cl, T.nL, wf_letters, _, rfl, q, C, dx', _, _, rfl, h1', T.cl, T.nL, wf_letters, ?_⟩
    refine ⟨_, _, .tup h2 (dp_iv _), .tup h2' (dp_iv _), shaped_ints _, shaped_ints _, ?_⟩
    rw [eqv_ints]
    exact k
theorem scNeedW : FnScope ["value", "part"] ["value", "part"] (defScope sNeedW) := ⟨rfl, rfl, rfl, by decide +kernel, rfl, by decide +kernel, by decide +kernel⟩
theorem ok_needW {C f : Addr} {fd : FuncData} (F : Fun K "need_word" "need_word" sNeedW f fd) (T : TxW K mg C) : FnOk P w K mg base CX0 1 f fd ["value", "part"] (spNeedW K C) := by
  refine F.ok scNeedW (fun vs H Q E h => ?_) (fun cdv A outer s H vs Q E hr h => ?_)
  · obtain ⟨q, z, ms, rfl, _⟩ := h
    rfl
  · obtain ⟨q, z, ms, rfl, W2, k⟩ := h
    refine ⟨_, pss_one (ps_if (pt_not (pt_val (pe_callB call_isi (by rfl) T.isin (by decide +kernel) (pa_cons (pv 0) (pa_cons (pe_glob (v := .ref C) (by rfl) T.mgW rfl) pa_nil))))) (pss_one ps_never) pss_nil), ?_⟩
    exact ⟨_, rfl, _, _, _, _, _, rfl, .own C, W2.tyx T, kit_self C, _, rfl, iteF k⟩
theorem scNeedI : FnScope ["value", "part"] ["value", "part"] (defScope sNeedI) := ⟨rfl, rfl, rfl, by decide +kernel, rfl, by decide +kernel, by decide +kernel⟩
theorem ok_needI {f : Addr} {fd : FuncData} (F : Fun K "need_integer" "need_integer" sNeedI f fd) (GI : Cal P w K mg base "is_integer" 1 ["value"] spIsInt) : FnOk P w K mg base CX0 2 f fd ["value", "part"] spNeedI := by
  refine F.ok scNeedI (fun vs H Q E h => ?_) (fun cdv A outer s H vs Q E hr h => ?_)
  · obtain ⟨n, z, rfl, _⟩ := h
    rfl
  · obtain ⟨n, z, rfl, k⟩ := h
    refine ⟨_, pss_one (ps_if (pt_not (pt_val (pe_cal GI hr (by decide) (by rfl) (pa_cons (pv 0) pa_nil)))) (pss_one ps_never) pss_nil), ?_⟩
    exact ⟨_, rfl, .int n, _, rfl, .int n, _, rfl, iteF k⟩
theorem scContrary : FnScope ["self"] ["self"] (defScope sContrary) := ⟨rfl, rfl, rfl, by decide +kernel, rfl, by decide +kernel, by decide +kernel⟩
theorem ok_contrary {C f : Addr} {fd : FuncData} (F : Fun K "contrary" "Word.contrary" sContrary f fd) (T : TxW K mg C) (M : MkW P w K mg base C) (GC : Cal P w K mg base "contrary_letters" 1 ["letters"] (spCon K)) :
    FnOk P w K mg base CX0 6 f fd ["self"] (spOne K C Fr.con) := by
  refine F.ok scContrary (fun vs H Q E h => ?_) (fun cdv A outer s H vs Q E hr h => ?_)
  · obtain ⟨p, ns, rfl, _⟩ := h
    rfl
  · obtain ⟨p, ns, rfl, ⟨dx, tl, tk, ks, h1, h2, h3, h4⟩, hlen, hl, k⟩ := h
    refine ⟨_, pss_one (ps_ret (pe_word M T hr (by decide) (by rfl) (pa_cons (pe_cal GC hr (by decide) (by rfl) (pa_cons (pe_fld (pv 0) rfl) pa_nil)) pa_nil))), ?_⟩
    refine ⟨_, rfl, p, C, dx, _, _, rfl, h1, T.cl, T.nL, wf_letters, tl, ns, rfl, h2, by omega, fun q H1 s1 hq => ?_⟩
    exact make_word (.inr hq) (by rw [Fr.con_length]; exact hlen) hl.con fun x H' s' W => k x H' (s1.trans s') W
theorem scShort : FnScope ["self"] ["self"] (defScope sShort) := ⟨rfl, rfl, rfl, by decide +kernel, rfl, by decide +kernel, by decide +kernel⟩
theorem ok_shortened {C f : Addr} {fd : FuncData} (F : Fun K "shortened" "Word.shortened" sShort f fd) (T : TxW K mg C) (M : MkW P w K mg base C) (GS : Cal P w K mg base "shortened_letters" 1 ["letters"] (spShr K)) :
    FnOk P w K mg base CX0 6 f fd ["self"] (spOne K C Fr.shr) := by
  refine F.ok scShort (fun vs H Q E h => ?_) (fun cdv A outer s H vs Q E hr h => ?_)
  · obtain ⟨p, ns, rfl, _⟩ := h
    rfl
  · obtain ⟨p, ns, rfl, ⟨dx, tl, tk, ks, h1, h2, h3, h4⟩, hlen, hl, k⟩ := h
    refine ⟨_, pss_one (ps_ret (pe_word M T hr (by decide) (by rfl) (pa_cons (pe_cal GS hr (by decide) (by rfl) (pa_cons (pe_fld (pv 0) rfl) pa_nil)) pa_nil))), ?_⟩
    refine ⟨_, rfl, p, C, dx, _, _, rfl, h1, T.cl, T.nL, wf_letters, tl, ns, rfl, .inr h2, by omega, fun q H1 s1 hq => ?_⟩
    exact make_word (.inr hq) (Nat.le_trans (shr_len ns) hlen) hl.shr fun x H' s' W => k x H' (s1.trans s') W
theorem scRound : FnScope ["self"] ["self"] (defScope sRound) := ⟨rfl, rfl, rfl, by decide +kernel, rfl, by decide +kernel, by decide +kernel⟩
theorem ok_round {C f : Addr} {fd : FuncData} (F : Fun K "shortened_round" "Word.shortened_round" sRound f fd) (T : TxW K mg C) (M : MkW P w K mg base C) (GR : Cal P w K mg base "rounded_letters" 2 ["letters"] (spRnd K)) :
    FnOk P w K mg base CX0 6 f fd ["self"] (spOne K C Fr.rnd) := by
  refine F.ok scRound (fun vs H Q E h => ?_) (fun cdv A outer s H vs Q E hr h => ?_)
  · obtain ⟨p, ns, rfl, _⟩ := h
    rfl
  · obtain ⟨p, ns, rfl, ⟨dx, tl, tk, ks, h1, h2, h3, h4⟩, hlen, hl, k⟩ := h
    refine ⟨_, pss_one (ps_ret (pe_word M T hr (by decide) (by rfl) (pa_cons (pe_cal GR hr (by decide) (by rfl) (pa_cons (pe_fld (pv 0) rfl) pa_nil)) pa_nil))), ?_⟩
    refine ⟨_, rfl, p, C, dx, _, _, rfl, h1, T.cl, T.nL, wf_letters, tl, ns, rfl, .inr h2, by omega, hl.nz, fun q H1 s1 hq => ?_⟩
    exact make_word (.inr hq) (Nat.le_trans (rnd_len hl) hlen) hl.rnd fun x H' s' W => k x H' (s1.trans s') W
theorem scThen : FnScope ["self", "other"] ["self", "other"] (defScope sThen) := ⟨rfl, rfl, rfl, by decide +kernel, rfl, by decide +kernel, by decide +kernel⟩
theorem ok_then {C f : Addr} {fd : FuncData} (F : Fun K "then" "Word.then" sThen f fd) (T : TxW K mg C) (M : MkW P w K mg base C) (GN : Cal P w K mg base "need_word" 1 ["value", "part"] (spNeedW K C)) :
    FnOk P w K mg base CX0 6 f fd ["self", "other"] (spThen K C) := by
  refine F.ok scThen (fun vs H Q E h => ?_) (fun cdv A outer s H vs Q E hr h => ?_)
  · obtain ⟨p, q, ns, ms, rfl, _⟩ := h
    rfl
  · obtain ⟨p, q, ns, ms, rfl, W1, W2, hlen, hl, hl2, k⟩ := h
    refine ⟨_, pss_cons (ps_expr (pe_cal GN hr (by decide) (by rfl) (pa_cons (pv 1) (pa_cons pe_str pa_nil))))
      (pss_one (ps_ret (pe_word M T hr (by decide) (by rfl) (pa_cons (pe_op op_catU (pe_fld (pv 0) rfl) (pe_fld (pv 1) rfl)) pa_nil)))), ?_⟩
    refine ⟨_, rfl, q, _, ms, rfl, W2, ?_⟩
    obtain ⟨dx, tl, tk, ks, h1, h2, h3, h4⟩ := W1
    obtain ⟨dx', tl', tk', ks', h1', h2', h3', h4'⟩ := W2
    refine ⟨_, rfl, p, C, dx, _, _, rfl, h1, T.cl, T.nL, wf_letters, _, rfl, q, C, dx', _, _, rfl, h1', T.cl, T.nL, wf_letters, ?_⟩
    refine ⟨tl, tl', _, _, rfl, rfl, h2, h2', Evl.sz_of (by simp; omega), fun r H1 s1 hr1 => ?_⟩
    rw [← List.map_append] at hr1
    exact make_word (.inr hr1) (by rw [List.length_append]; exact hlen) (hl.app hl2) fun x H' s' W => k x H' (s1.trans s') W
theorem scTimes : FnScope ["self", "number", "once"] ["self", "number"] (defScope sTimes) := ⟨rfl, rfl, rfl, by decide +kernel, rfl, by decide +kernel, by decide +kernel⟩
theorem abs_eq (n : Int) : (if n < 0 then -n else n) = (n.natAbs : Int) := by split <;> omega
theorem ok_times {C f : Addr} {fd : FuncData} (F : Fun K "times" "Word.times" sTimes f fd) (T : TxW K mg C) (T2 : TxB mg) (M : MkW P w K mg base C) (GN : Cal P w K mg base "need_integer" 2 ["value", "part"] spNeedI)
    (GF : Cal P w K mg base "need_few_letters" 1 ["many"] spFew) (GC : Cal P w K mg base "contrary_letters" 1 ["letters"] (spCon K)) :
    FnOk P w K mg base CX0 6 f fd ["self", "number"] (spTimes K C) := by
  refine F.ok scTimes (fun vs H Q E h => ?_) (fun cdv A outer s H vs Q E hr h => ?_)
  · obtain ⟨p, n, ns, rfl, _⟩ := h
    rfl
  · obtain ⟨p, n, ns, rfl, ⟨dx, tl, tk, ks, h1, h2, h3, h4⟩, hns, hlen, hl, k⟩ := h
    refine ⟨_, pss_cons (ps_expr (pe_cal GN hr (by decide) (by rfl) (pa_cons (pv 1) (pa_cons pe_str pa_nil))))
      (pss_cons (ps_if (pt_cmpR op_eq (pe_fld (pv 0) rfl) pe_int (nomark _)) (pss_one (ps_ret (pe_word M T hr (by decide) (by rfl) (pa_cons (pe_lst pa_nil) pa_nil)))) pss_nil)
      (pss_cons (ps_expr (pe_cal GF hr (by decide) (by rfl) (pa_cons (pe_op op_mul (pe_fld (pv 0) rfl) (pe_callB call_abs (by rfl) T2.abs (by decide +kernel) (pa_cons (pv 1) pa_nil))) pa_nil)))
      (pss_cons (ps_set (i := 2) scTimes.nd rfl (Or.inl rfl) (pe_ifExp (pt_cmpR op_gt (pv 1) pe_int (nomark _)) (pe_fld (pv 0) rfl) (pe_cal GC hr (by decide) (by rfl) (pa_cons (pe_fld (pv 0) rfl) pa_nil))))
      (pss_one (ps_ret (pe_word M T hr (by decide) (by rfl) (pa_cons (pe_op op_repU (pv 2) (pe_callB call_abs (by rfl) T2.abs (by decide +kernel) (pa_cons (pv 1) pa_nil))) pa_nil))))))), ?_⟩
    refine ⟨_, rfl, n, _, rfl, ?_⟩
    refine ⟨_, rfl, p, C, dx, _, _, rfl, h1, T.cl, T.nN, wf_length, rfl, _, rfl, ?_⟩
    by_cases hz : ns = []
    · subst hz
      have e : tms n [] = [] := by
        unfold tms
        split
        · exact Fr.rep_nil _
        · exact Fr.rep_nil _
      rw [e] at k
      refine iteT' (decide_eq_true rfl) ?_
      refine ⟨Nat.zero_le _, fun q hq => ?_⟩
      exact make_word (q := q) (ms := []) (.inl (SqL.of upd_same)) (by simp) (fun x hx => nomatch hx) fun x H' s' W => k x H' ((same_upd hq).trans s') W
    · have hpos : 0 < ns.length := List.length_pos_iff.mpr hz
      have hn : n.natAbs ≤ 500 := Nat.le_trans (Nat.le_mul_of_pos_left _ hpos) hlen
      refine iteF' (decide_eq_false fun e => ?_) ?_
      · have e2 : V.int (ns.length : Int) = V.int 0 := e
        injection e2 with e3
        omega
      refine ⟨_, rfl, p, C, dx, _, _, rfl, h1, T.cl, T.nN, wf_length, _, rfl, n, rfl, _, _, rfl, rfl, .inl ⟨by omega, by omega⟩, _, rfl, ?_, ?_⟩
      · rw [abs_eq, ← Int.natCast_mul]
        omega
      have fin : ∀ (q : Addr) (ms : List Int) (H1 : Hp), Same H H1 → SqT K H1 q (iv ms) → ms.length = ns.length → Lts ms → Fr.rep n.natAbs ms = tms n ns →
          rRepU K (.ref q) (.int (if n < 0 then -n else n)) H1 fun v H2 => ∀ x dx, H2 x = none → H2 dx = none → dx ≠ x → spInit K C [.ref x, v] (L2.upd (L2.upd H2 dx (.own x)) x (.ins C dx [])) (fun v H3 => v = .non ∧ Q (.ref x) H3) L2.E0 := by
        intro q ms H1 s1 hq hm hlm e
        refine ⟨q, _, iv ms, rfl, rfl, hq, by rw [abs_eq]; omega, by rw [abs_eq]; omega, by rw [List.length_map]; omega, fun r H2 s2 hr2 => ?_⟩
        rw [abs_eq, Int.toNat_natCast, rep_flat, e] at hr2
        have el : (tms n ns).length ≤ 500 := by
          rw [← e, Fr.rep_length, hm, Nat.mul_comm]
          exact hlen
        exact make_word (.inr hr2) el (by rw [← e]; exact hlm.rep _) fun x H' s' W => k x H' ((s1.trans s2).trans s') W
      refine ⟨_, rfl, _, _, rfl, rfl, _, rfl, ?_⟩
      refine ite2 (fun hpn => ?_) (fun hpn => ?_)
      · have hpn' : 0 < n := of_decide_eq_true hpn
        refine ⟨_, rfl, p, C, dx, _, _, rfl, h1, T.cl, T.nL, wf_letters, ?_⟩
        exact ⟨_, rfl, _, rfl, n, rfl, fin tl ns H (Same.refl H) h2 rfl hl (by unfold tms; rw [if_pos hpn'])⟩
      · have hpn' : ¬ 0 < n := fun z => hpn (decide_eq_true z)
        refine ⟨_, rfl, p, C, dx, _, _, rfl, h1, T.cl, T.nL, wf_letters, tl, ns, rfl, h2, by omega, fun q H1 s1 hq => ?_⟩
        exact ⟨_, rfl, _, rfl, n, rfl, fin q (Fr.con ns) H1 s1 hq (Fr.con_length ns) hl.con (by unfold tms; rw [if_neg hpn'])⟩
end
end W05
set_option Elab.async false
set_option linter.all false
set_option maxRecDepth 100000
set_option maxHeartbeats 2000000
namespace W05
open PySem L2
abbrev sJar : Stmt := top 32
abbrev sDraw : Stmt := top 33
/-! ### the hand that draws -/
/-- at a: a hand, of which at most n cells were begun -/
def HandAt (H : Hp) (a c : Addr) (n : Nat) : Prop := ∃ (ns : List Int) (i r : Int), H a = some (.lst [.ref c, .int i, .int r]) ∧ H c = some (.lst (ns.map V.int)) ∧ c ≠ a ∧ ns.length ≤ 1000 ∧ 0 ≤ i ∧ i ≤ (n : Int) ∧ 0 ≤ r
/-- all but what is at a stands as it did -/
def Kept (a : Addr) (H H' : Hp) : Prop := ∀ b o, b ≠ a → H b = some o → H' b = some o
theorem Kept.refl {a : Addr} {H : Hp} : Kept a H H := fun _ _ _ e => e
theorem Kept.trans {a : Addr} {H H1 H2 : Hp} (h1 : Kept a H H1) (h2 : Kept a H1 H2) : Kept a H H2 := fun b o n e => h2 b o n (h1 b o n e)
theorem Kept.upd {a : Addr} {H : Hp} {o : HO} : Kept a H (upd H a o) := fun b u n e => by rw [upd_ne n]; exact e
theorem Kept.new {a p : Addr} {H H' : Hp} {o : HO} (k : Kept a H H') (hp : H' p = none) : Kept a H (L2.upd H' p o) := fun b u n e => by
  rw [upd_ne (ne_of_none (k b u n e) hp)]
  exact k b u n e

theorem HandAt.put {H : Hp} {a c : Addr} {ns : List Int} {i r : Int} {n : Nat} (hC : H c = some (.lst (ns.map V.int))) (hca : c ≠ a) (hl : ns.length ≤ 1000) (i0 : 0 ≤ i) (hi : i ≤ (n : Int)) (r0 : 0 ≤ r) :
    HandAt (L2.upd H a (.lst [.ref c, .int i, .int r])) a c n := ⟨ns, i, r, upd_same, by rw [upd_ne hca]; exact hC, hca, hl, i0, hi, r0⟩
def spHand (K : PySem.W.Frag) : Sp := fun vs H Q _ => ∃ (a : Addr) (ns : List Int), vs = [.ref a] ∧ SqL K H a (ns.map V.int) ∧ ns.length ≤ 1000 ∧
  ∀ (H' : Hp) (p c : Addr), Same H H' → H p = none → H c = none → HandAt H' p c 0 → Q (.ref p) H'
def spTake : Sp := fun vs H Q _ => ∃ (a c : Addr) (m : Int) (n : Nat), vs = [.ref a, .int m] ∧ HandAt H a c n ∧ n ≤ 10000 ∧ 0 < m ∧ m.natAbs < 2 ^ 200 ∧
  ∀ (H' : Hp) (q : Int), 0 ≤ q → q < m → HandAt H' a c (n + 1) → Kept a H H' → Q (.int q) H'

theorem dpInts {K : PySem.W.Frag} {H : Hp} : ∀ ns : List Int, DpAll K H (ns.map V.int) (ns.map PyData.int)
  | [] => .nil
  | n :: r => .cons (.int n) (dpInts r)
structure TxL (mg : Str → Option Value) : Prop where
  int : mg "int" = none
  len : mg "len" = none
  abs : mg "abs" = none
section
variable {P : Program} {w : World} {K : PySem.W.Frag} {mg : Str → Option Value} {base : Heap}
theorem scHand : FnScope ["_law_script", "_law_cell"] ["_law_script"] (defScope sJar) := ⟨rfl, rfl, rfl, by decide +kernel, rfl, by decide +kernel, by decide +kernel⟩
theorem ok_hand {f : Addr} {fd : FuncData} (F : Fun K "_law_jar" "_law_jar" sJar f fd) (T : TxL mg) : FnOk P w K mg base CX0 1 f fd ["_law_script"] (spHand K) := by
  refine F.ok scHand (fun vs H Q E h => ?_) (fun cdv A outer s H vs Q E hr h => ?_)
  · obtain ⟨a, ns, rfl, _⟩ := h
    rfl
  · obtain ⟨a, ns, rfl, hS, hlen, k⟩ := h
    refine ⟨_, pss_one (ps_ret (pe_lst (pa_cons (pe_lc (own := [("_law_cell", 1)]) (g := gName 1) (tt := tYes) rfl scHand.nd (pi_list (pe_slice sl_list (pv 0) po_none (po_some pe_int)))
      (blkOk_by (N := ["_law_script", "_law_cell"]) (sc := defScope sJar) (by decide +kernel)) (fun _ _ _ _ _ => pg_name (i := 1) scHand.nd rfl (Or.inl rfl)) (fun _ _ _ _ _ => pts_nil)
      (fun _ _ _ _ _ => pe_callTy call_int1 (by rfl) T.int (by decide +kernel) (pa_cons (pv 1) pa_nil))) (pa_cons pe_int (pa_cons pe_int pa_nil))))), ?_⟩
    refine ⟨_, rfl, 60, rfl, a, ns.map V.int, rfl, hS, fun p hp => ?_⟩
    refine ⟨p, rfl, ⟨_, SqL.of upd_same⟩, fun D hD => ?_⟩
    have hDp : D ≠ p := fun e => by
      rw [e, upd_same] at hD
      cases hD
    have hD0 : H D = none := by
      rw [upd_ne hDp] at hD
      exact hD
    have hc : cutV (ns.map V.int) none (some 60) = (ns.take 60).map V.int := by
      unfold cutV
      rw [List.map_take, List.length_map]
      have e0 : HT.sIx ns.length 0 none = 0 := rfl
      rw [e0, List.drop_zero]
      have e1 : HT.sIx ns.length ns.length (some 60) = min 60 ns.length := by
        unfold HT.sIx
        simp
        try omega
      rw [e1, Nat.sub_zero]
      by_cases h : 60 ≤ ns.length
      · rw [Nat.min_eq_left h]
      · rw [Nat.min_eq_right (by omega), List.take_of_length_le (by simp), List.take_of_length_le (by simp; omega)]
    refine lc_list (K := K) (a := p) (xs := (ns.take 60).map V.int) (fun i H' => H' D = some (.lst (((ns.take 60).take i).map V.int)) ∧ H' p = some (.lst ((ns.take 60).map V.int)) ∧ Same H H') ⟨upd_same, ?_, ?_⟩ (fun i H' _ q => SqL.of q.2.1) ?_ ?_
    · rw [upd_ne hDp.symm, upd_same, hc]
    · intro b o e
      rw [upd_ne (ne_of_none e hD0), upd_ne (ne_of_none e hp)]
      exact e
    · intro i x H' hi q
      obtain ⟨z, hz, rfl⟩ : ∃ z, (ns.take 60)[i]? = some z ∧ x = V.int z := by
        rw [List.getElem?_map] at hi
        cases e : (ns.take 60)[i]? with
        | none =>
          rw [e] at hi
          cases hi
        | some z =>
          rw [e] at hi
          exact ⟨z, rfl, (Option.some.inj hi).symm⟩
      have hli : i < (ns.take 60).length := (List.getElem?_eq_some_iff.mp hz).1
      have hl60 : (ns.take 60).length ≤ 60 := by rw [List.length_take]; omega
      refine ⟨rfl, ?_⟩
      refine yes_te ?_
      refine ⟨_, rfl, .inl ⟨z, rfl, _, q.1, Evl.sz_lt (by rw [List.length_map, List.length_take]; omega), ?_⟩⟩
      refine ⟨?_, ?_, ?_⟩
      · rw [upd_same]
        congr 2
        have ez : (ns.take 60)[i] = z := (List.getElem?_eq_some_iff.mp hz).2
        rw [List.take_succ_eq_append_getElem hli, ez, List.map_append]
        rfl
      · rw [upd_ne hDp.symm]
        exact q.2.1
      · intro b o e
        rw [upd_ne (ne_of_none e hD0)]
        exact q.2.2 b o e
    · intro H' q
      refine ⟨by show 3 ≤ sizeLine; decide, fun l hl => ?_⟩
      have hlD : D ≠ l := ne_of_none q.1 hl
      have hl0 : H l = none := by
        cases e : H l with
        | none => rfl
        | some o => rw [q.2.2 l o e] at hl; cases hl
      refine k _ l D (fun b o e => by rw [upd_ne (ne_of_none e hl0)]; exact q.2.2 b o e) hl0 hD0 ?_
      have q1 := q.1
      rw [List.length_map, List.take_length] at q1
      exact ⟨ns.take 60, 0, 0, upd_same, by rw [upd_ne hlD]; exact q1, hlD, by rw [List.length_take]; omega, Int.le_refl _, Int.le_refl _, Int.le_refl _⟩

theorem scTake : FnScope ["_law_jar_here", "_law_many", "_law_rest", "_law_at", "_law_cell", "_law_mixed"] ["_law_jar_here", "_law_many"] (defScope sDraw) := ⟨rfl, rfl, rfl, by decide +kernel, rfl, by decide +kernel, by decide +kernel⟩
theorem ok_take {f : Addr} {fd : FuncData} (F : Fun K "_law_draw" "_law_draw" sDraw f fd) (T : TxL mg) : FnOk P w K mg base CX0 1 f fd ["_law_jar_here", "_law_many"] spTake := by
  refine F.ok scTake (fun vs H Q E h => ?_) (fun cdv A outer s H vs Q E hr h => ?_)
  · obtain ⟨a, c, m, n, rfl, _⟩ := h
    rfl
  · obtain ⟨a, c, m, n, rfl, ⟨ns, i, r, hA, hC, hca, hlen, i0, hi, r0⟩, hn, m0, hm, k⟩ := h
    refine ⟨_, pss_cons (ps_if (pt_cmpR op_gt (pe_ix ix_list (pv 0) pe_int (fun _ _ => rfl)) pe_int (nomark _))
        (pss_cons (ps_set (i := 2) scTake.nd rfl (Or.inl rfl) (pe_callTy call_int1 (by rfl) T.int (by decide +kernel) (pa_cons (pe_ix ix_list (pv 0) pe_int (fun _ _ => rfl)) pa_nil)))
        (pss_cons (ps_asg (pe_op op_fdivW (pv 2) (pv 1)) (pg_sub (pv 0) pe_int set_list))
        (pss_one (ps_ret (pe_op op_mod (pe_callTy call_int1 (by rfl) T.int (by decide +kernel) (pa_cons (pv 2) pa_nil)) (pv 1)))))) pss_nil)
      (pss_cons (ps_set (i := 3) scTake.nd rfl (Or.inl rfl) (pe_ix ix_list (pv 0) pe_int (fun _ _ => rfl)))
      (pss_cons (ps_asg (pe_op op_add (pv 3) pe_int) (pg_sub (pv 0) pe_int set_list))
      (pss_cons (ps_set (i := 4) scTake.nd rfl (Or.inl rfl) (pe_op op_add (pe_op op_mul pe_int (pv 3)) pe_int))
      (Evl.pss_cut (ps_if (pt_cmpR (op_neD hr.units) (pe_ix ix_list (pv 0) pe_int (fun _ _ => rfl)) (pe_lst pa_nil) (nomark _))
        (pss_one (ps_set (i := 4) scTake.nd rfl (Or.inl rfl) (pe_ix ix_list (pe_ix ix_list (pv 0) pe_int (fun _ _ => rfl)) (pe_op op_mod (pe_callTy call_int1 (by rfl) T.int (by decide +kernel) (pa_cons (pv 3) pa_nil)) (pe_callB call_len_seq (by rfl) T.len PySem.boot_len (pa_cons (pe_ix ix_list (pv 0) pe_int (fun _ _ => rfl)) pa_nil))) (fun _ _ => rfl)))) pss_nil)
      (Evl.pss_cut (ps_if (PW.pt (pw_and (pt_cmpR op_lt (pv 3) (pe_callB call_len_seq (by rfl) T.len PySem.boot_len (pa_cons (pe_ix ix_list (pv 0) pe_int (fun _ _ => rfl)) pa_nil)) (nomark _)) (pw_and1 (pt_cmpR op_ge (pe_callB call_abs (by rfl) T.abs (by decide +kernel) (pa_cons (pv 4) pa_nil)) (pe_op op_pow pe_int pe_int) (nomark _)))))
        (pss_cons (ps_set (i := 2) scTake.nd rfl (Or.inl rfl) (pe_op op_add (pe_op op_mul pe_int (pe_op op_sub (pe_callB call_abs (by rfl) T.abs (by decide +kernel) (pa_cons (pv 4) pa_nil)) (pe_op op_pow pe_int pe_int))) (pe_callTy call_int1 (by rfl) T.int (by decide +kernel) (pa_cons (pe_cmpR op_lt (pv 4) pe_int (nomark _)) pa_nil))))
        (pss_cons (ps_asg (pe_op op_fdivW (pe_callTy call_int1 (by rfl) T.int (by decide +kernel) (pa_cons (pv 2) pa_nil)) (pv 1)) (pg_sub (pv 0) pe_int set_list))
        (pss_one (ps_ret (pe_op op_mod (pe_callTy call_int1 (by rfl) T.int (by decide +kernel) (pa_cons (pv 2) pa_nil)) (pv 1)))))) pss_nil)
      (pss_cons (ps_set (i := 5) scTake.nd rfl (Or.inl rfl) (pe_op op_mod (pe_callTy call_int1 (by rfl) T.int (by decide +kernel) (pa_cons (pe_op op_pow (pe_op op_add (pe_op op_add (pe_op op_mod (pe_callTy call_int1 (by rfl) T.int (by decide +kernel) (pa_cons (pv 4) pa_nil)) pe_int) (pe_op op_mul pe_int (pv 3))) pe_int) pe_int) pa_nil)) pe_int))
      (pss_cons (ps_set (i := 5) scTake.nd rfl (Or.inl rfl) (pe_op op_mod (pe_callTy call_int1 (by rfl) T.int (by decide +kernel) (pa_cons (pe_op op_pow (pe_op op_add (pe_op op_add (pe_op op_mul (pv 5) (pe_op op_add (pe_op op_mul pe_int (pv 3)) pe_int)) (pe_op op_mul (pe_op op_mul pe_int (pv 3)) (pv 3))) pe_int) pe_int) pa_nil)) pe_int))
      (pss_one (ps_ret (pe_op op_mod (pe_callTy call_int1 (by rfl) T.int (by decide +kernel) (pa_cons (pe_op op_fdiv (pv 5) pe_int) pa_nil)) (pv 1)))))))))))
      , ?_⟩
    have hdv : ∀ x : Int, CDivW x m := fun x => wide_div m0 hm (by decide) (by decide)
    -- if hand[2] > 0
    refine ⟨_, rfl, a, _, 2, _, rfl, rfl, SqL.of hA, rfl, _, _, rfl, rfl, _, rfl, ?_⟩
    refine ite2 (fun hp => ?_) (fun _ => ?_)
    · refine ⟨_, rfl, a, _, 2, _, rfl, rfl, SqL.of hA, rfl, .inl ⟨_, rfl, ?_⟩⟩
      refine ⟨_, rfl, _, rfl, _, _, rfl, rfl, hdv _, _, rfl, a, _, 2, 2, rfl, rfl, hA, rfl, ?_⟩
      refine ⟨_, rfl, .inl ⟨_, rfl, _, rfl, _, _, rfl, rfl, m0, ?_⟩⟩
      exact k _ (r % m) (Int.emod_nonneg _ (by omega)) (Int.emod_lt_of_pos _ m0) (HandAt.put hC hca hlen i0 (by omega) (Int.ediv_nonneg r0 (by omega))) Kept.upd
    -- at = hand[1]; hand[1] = at + 1; cell = ..
    refine ⟨_, rfl, a, _, 1, _, rfl, rfl, SqL.of hA, rfl, ?_⟩
    refine ⟨_, rfl, _, _, rfl, rfl, _, rfl, a, _, 1, 1, rfl, rfl, hA, rfl, ?_⟩
    refine ⟨_, rfl, _, _, rfl, rfl, .inl ⟨by decide, by decide⟩, _, _, rfl, rfl, ?_⟩
    -- H1: the heap behind this
    obtain ⟨H1, eH1⟩ : ∃ H1, H1 = upd H a (.lst [.ref c, .int (i + 1), .int r]) := ⟨_, rfl⟩
    have kH : Kept a H H1 := by rw [eH1]; exact Kept.upd
    have hA1 : H1 a = some (.lst [.ref c, .int (i + 1), .int r]) := by rw [eH1]; exact upd_same
    have hC1 : H1 c = some (.lst (ns.map V.int)) := by rw [eH1, upd_ne hca]; exact hC
    show Evl.tCut _ _ _ _ (upd H a (.lst [.ref c, .int (i + 1), .int r]))
    rw [← eH1]
    refine ⟨fun σ' H' => Same H1 H' ∧ ∃ cell : Int, σ' = [some (.ref a), some (.int m), none, some (.int i), some (.int cell), none], ?_, ?_⟩
    · refine ⟨_, rfl, a, _, 0, _, rfl, rfl, SqL.of hA1, rfl, Nat.zero_le _, fun p hp => ?_⟩
      have hcp : c ≠ p := ne_of_none hC1 hp
      have hap : a ≠ p := ne_of_none hA1 hp
      have sm : Same H1 (upd H1 p (.lst [])) := fun b o e => by rw [upd_ne (ne_of_none e hp)]; exact e
      refine ⟨.list (ns.map PyData.int), .list [], .lst (SqL.of (sm _ _ hC1)) (dpInts ns), .lst (SqL.of upd_same) .nil, PySem.W.ke_shaped_ints ns, rfl, _, rfl, ?_⟩
      refine ite2 (fun hne => ?_) (fun _ => ?_)
      · have hn0 : 0 < ns.length := by
          cases ns with
          | nil => exact absurd hne (by decide)
          | cons x xs => exact Nat.succ_pos _
        have hl0 : (0 : Int) < (((ns.map V.int).length : Nat) : Int) := by rw [List.length_map]; omega
        have hj0 : 0 ≤ i % (((ns.map V.int).length : Nat) : Int) := Int.emod_nonneg _ (by omega)
        have hj1 : i % (((ns.map V.int).length : Nat) : Int) < (((ns.map V.int).length : Nat) : Int) := Int.emod_lt_of_pos _ hl0
        obtain ⟨j, hj⟩ : ∃ j : Nat, i % (((ns.map V.int).length : Nat) : Int) = (j : Int) := ⟨(i % (((ns.map V.int).length : Nat) : Int)).toNat, by omega⟩
        have hjl : j < ns.length := by rw [List.length_map] at hj1 hj; omega
        refine ⟨_, rfl, a, _, 0, _, rfl, rfl, SqL.of (sm _ _ hA1), rfl, _, rfl, .inl ⟨_, rfl, ?_⟩⟩
        refine ⟨_, rfl, a, _, 0, _, rfl, rfl, SqL.of (sm _ _ hA1), rfl, c, _, rfl, .inl (SqL.of (sm _ _ hC1)), _, _, rfl, rfl, hl0, c, _, _, .int ns[j], rfl, rfl, SqL.of (sm _ _ hC1), ?_, ?_⟩
        · rw [hj]
          exact atI_nat (by rw [List.getElem?_map, List.getElem?_eq_getElem hjl]; rfl)
        · exact ⟨sm, ns[j], rfl⟩
      · exact ⟨sm, _, rfl⟩
    · rintro σ' H2 ⟨sm, cell, rfl⟩
      have hA2 := sm _ _ hA1
      have hC2 := sm _ _ hC1
      have kH2 : Kept a H H2 := fun b o e q => sm b o (kH b o e q)
      -- a great cell: what is left of it
      refine ⟨fun σ' H' => σ' = [some (.ref a), some (.int m), none, some (.int i), some (.int cell), none] ∧ H' = H2, ?_, ?_⟩
      · refine ⟨_, rfl, _, rfl, a, _, 0, _, rfl, rfl, SqL.of hA2, rfl, c, _, rfl, .inl (SqL.of hC2), _, _, rfl, rfl, _, rfl, ?_⟩
        refine ite2 (fun _ => ?_) (fun _ => ?_)
        · refine ⟨_, rfl, cell, rfl, _, _, rfl, rfl, ⟨by decide, by decide, by decide⟩, _, _, rfl, rfl, _, rfl, ?_⟩
          refine ite2 (fun hge => ?_) (fun _ => ⟨rfl, rfl⟩)
          have hge' := of_decide_eq_true hge
          refine ⟨_, rfl, cell, rfl, _, _, rfl, rfl, ⟨by decide, by decide, by decide⟩, _, _, rfl, rfl, _, _, rfl, rfl, .inl ⟨by decide, by decide⟩, _, rfl, _, _, rfl, rfl, .inr ⟨_, rfl, _, _, rfl, rfl, ?_⟩⟩
          have hr2 : ∀ b : Bool, 0 ≤ 2 * ((if cell < 0 then -cell else cell) - (10 : Int) ^ Int.toNat 18) + (if b = true then 1 else 0) := by
            intro b
            have e1 : (if b = true then (1 : Int) else 0) ≥ 0 := by cases b <;> decide
            have e2 : (10 : Int) ^ Int.toNat 18 ≤ (if cell < 0 then -cell else cell) := hge'
            omega
          refine ⟨_, rfl, .inl ⟨_, rfl, _, rfl, _, _, rfl, rfl, hdv _, _, rfl, a, _, 2, 2, rfl, rfl, hA2, rfl, ?_⟩⟩
          refine ⟨_, rfl, .inl ⟨_, rfl, _, rfl, _, _, rfl, rfl, m0, ?_⟩⟩
          exact k _ _ (Int.emod_nonneg _ (by omega)) (Int.emod_lt_of_pos _ m0) (HandAt.put hC2 hca hlen (by omega) (by omega) (Int.ediv_nonneg (hr2 _) (by omega))) (kH2.trans Kept.upd)
        · exact ⟨rfl, rfl⟩
      · rintro σ' H3 ⟨rfl, rfl⟩
        have hin : i ≤ 10000 := by omega
        have b1 : 0 ≤ cell % 2147483587 := Int.emod_nonneg _ (by decide)
        have b2 : cell % 2147483587 < 2147483587 := Int.emod_lt_of_pos _ (by decide)
        refine ⟨_, rfl, .inl ⟨_, rfl, _, _, rfl, rfl, (by decide : (0 : Int) < 2147483587), _, rfl, _, _, rfl, rfl, .inl ⟨by decide, by decide⟩, _, _, rfl, rfl, _, _, rfl, rfl, _, _, rfl, rfl, ⟨by decide, by decide, ?_⟩, ?_⟩⟩
        · show (cell % 2147483587 + 33311 * i + 6029).natAbs < 2 ^ 64
          have e : (2 : Nat) ^ 64 = 18446744073709551616 := by decide
          rw [e]
          omega
        have hb : ∀ x : Int, ((x % 2147483629) * (2 * i + 1823) + 51131 * i * i + 44119).natAbs < 2 ^ 64 := by
          intro x
          have b3 : 0 ≤ x % 2147483629 := Int.emod_nonneg _ (by decide)
          have b4 : x % 2147483629 < 2147483629 := Int.emod_lt_of_pos _ (by decide)
          have e : (2 : Nat) ^ 64 = 18446744073709551616 := by decide
          have c1 : 0 ≤ (x % 2147483629) * (2 * i + 1823) := Int.mul_nonneg b3 (by omega)
          have c2 : (x % 2147483629) * (2 * i + 1823) ≤ 2147483629 * 21823 := Int.mul_le_mul (by omega) (by omega) (by omega) (by omega)
          have c3 : 0 ≤ 51131 * i * i := Int.mul_nonneg (by omega) i0
          have c4 : 51131 * i * i ≤ 511310000 * 10000 := Int.mul_le_mul (by omega) hin i0 (by omega)
          rw [e]
          omega
        have hc : ∀ x : Int, CMul (x % 2147483629) (2 * i + 1823) := by
          intro x
          have b3 : 0 ≤ x % 2147483629 := Int.emod_nonneg _ (by decide)
          have b4 : x % 2147483629 < 2147483629 := Int.emod_lt_of_pos _ (by decide)
          exact .inl ⟨by omega, by omega⟩
        refine .inl ⟨_, rfl, _, _, rfl, rfl, (by decide : (0 : Int) < 2147483629), ?_⟩
        refine ⟨_, rfl, _, rfl, _, _, rfl, rfl, .inl ⟨by decide, by decide⟩, _, _, rfl, rfl, _, _, rfl, rfl, hc _, _, rfl, _, _, rfl, rfl, .inl ⟨by decide, by decide⟩, _, rfl, _, _, rfl, rfl, .inl ⟨by omega, by omega⟩, _, _, rfl, rfl, _, _, rfl, rfl, _, _, rfl, rfl, ⟨by decide, by decide, hb _⟩, ?_⟩
        refine .inl ⟨_, rfl, _, _, rfl, rfl, (by decide : (0 : Int) < 2147483549), ?_⟩
        refine ⟨_, rfl, _, _, rfl, rfl, ⟨by decide, by decide⟩, .inl ⟨_, rfl, _, rfl, _, _, rfl, rfl, m0, ?_⟩⟩
        exact k _ _ (Int.emod_nonneg _ (by omega)) (Int.emod_lt_of_pos _ m0) ⟨ns, i + 1, r, hA2, hC2, hca, hlen, by omega, by omega, r0⟩ kH2
end
end W05
set_option Elab.async false
set_option linter.all false
set_option maxRecDepth 100000
set_option maxHeartbeats 2000000
namespace W05
open PySem L2 PySem.Spec PyProof.Rows WR
structure EqW (P : Program) (w : World) (K : PySem.W.Frag) (mg : Str → Option Value) (base : Heap) (C : Addr) : Prop where
  ex : ∃ (f : Addr) (fd : FuncData), FnOk P w K mg base CX0 1 f fd ["self", "other"] (spEq K C) ∧ PySem.W.findIn K (.ref C) "__eq__" = some (some (.ref f)) ∧ PySem.W.isFn K (.ref f) = true ∧ Binds K fd ["self", "other"] []
/-- two words, held against one another -/
def rEqW (K : PySem.W.Frag) (C : Addr) : R2 := fun x y H Q => ∃ (p q : Addr) (ns ms : List Int), x = .ref p ∧ y = .ref q ∧ WordAt K C H p ns ∧ WordAt K C H q ms ∧ Q (.bl (decide (ns = ms))) H
section
variable {X : Cx} {C : Addr}
theorem op_eqW (M : EqW X.prog X.w X.K X.mg X.base C) {j : Nat} (hr : Room j X.A) (hj : 1 ≤ j) : OpR X (compareOp .Eq) (rEqW X.K C) := by
  intro pins s σ H x y u v Q I rx ry d
  obtain ⟨f, fd, F, hs, hf, hb⟩ := M.ex
  obtain ⟨a, b, ns, ms, rfl, rfl, W1, W2, hq⟩ := d
  cases rx
  cases ry
  obtain ⟨dx, tl, tk, ks, ha, _⟩ := id W1
  obtain ⟨dx', tl', tk', ks', hb', _⟩ := id W2
  obtain ⟨mA, J, _⟩ := ins_get I.hok ha
  obtain ⟨mB, J', _⟩ := ins_get I.hok hb'
  obtain ⟨od, J, _⟩ := J.look
  obtain ⟨od', J', _⟩ := J'.look
  obtain ⟨m, hF⟩ := I.fr
  have rm : Room 1 X.A := hr.mono hj
  show wpAny (model X.prog X.w) X.A (richCompare .Eq (.ref a) (.ref b)) (EP X pins σ Q) X.xe s
  refine PySem.W.cmp_K (op := .Eq) (tb := .ref C) rm.units0 hF I.ok.mod.kin J J'.type (by simp [PySem.W.notFirst]) hs hf ?_
  have hsp : spEq X.K C [.ref a, .ref b] H (fun v H' => ∃ c, v = .bl c ∧ Q (.bl c) H') E0 := ⟨a, b, ns, ms, rfl, W1, W2, _, rfl, hq⟩
  have e0 : Env0 X.prog X.w X.K X.mg X.base X.A X.stack s H := I.env0
  have hl := F.len _ _ _ _ hsp
  have r2 : Vals [V.ref a, V.ref b] [Value.ref a, Value.ref b] := .cons rfl (.cons rfl .nil)
  refine wpAny_call (codeAny_mono (F.run X.A X.stack s H ⟨[.ref a, .ref b], []⟩ [.ref a, .ref b] [.ref a, .ref b] _ E0 rm e0 (by
    have := hb s [.ref a, .ref b] I.kIn (by simpa using hl)
    simpa using this) r2 hsp) fun r s' hq => ?_)
  cases r with
  | error e => exact pass0 pins σ H s e s' I hq
  | ok fl =>
    cases fl with
    | ret w =>
      obtain ⟨z, H', I', rz, c, ez, q⟩ := I.after hq
      subst ez
      cases rz
      exact ⟨.bl c, H', I', rfl, q⟩
    | next => exact False.elim hq
    | brk => exact False.elim hq
    | cont => exact False.elim hq
end
end W05
set_option Elab.async false
set_option linter.all false
set_option maxRecDepth 100000
set_option maxHeartbeats 2000000
/-! x != y, of two instances whose class has an own == and no own !=. -/
namespace NeK
open PySem PySem.Spec PyProof.Rows PySem.SeqAt
section
variable {M : Model} {prog : Program} {w : World} {A : Around} {E : Value → Shared → Prop} {s : Shared} {K : PySem.W.Frag} {x y f C : Addr} {ox oy : Obj} {od od' : Option Obj}
theorem ne_entry (hu : A.units < cLine) (X : K.In s.heap) (I : PySem.W.InstAt s.heap x ox C od) (hs : PySem.W.findIn K (.ref C) "__eq__" = some (some (.ref f))) (hf : PySem.W.isFn K (.ref f) = true) {Q : Fin → Shared → Prop}
    (hcall : wpAny (model prog w) A (call (.ref f) [.ref x, .ref y]) (fun v s' => ∃ b, v = .bool b ∧ Q (.done (.ret (.bool (!b)))) s') E s) :
    wpAny (model prog w) A (Builtin.«object.__ne__» ⟨[.ref x, .ref y], []⟩) Q E s := by
  unfold Builtin.«object.__ne__»
  repeat (first
    | with_reducible refine wpAny_cRoomFor hu ?_
    | (refine wpAny_bind (m := callSpecialIfBound? (.ref x) (Str.ofString "__eq__") [.ref y])
        (PySem.W.ifBound_K X I hs hf (wpAny_mono hcall (fun r s' hr => by
          obtain ⟨b, rfl, hq⟩ := hr
          repeat (first | exact hq | exact wpAny_pure hq | exact wpAny_truthy_bool hq | (refine wpAny_bind (m := truthy (.bool _)) (wpAny_truthy_bool ?_)) | wp_step)) fun _ _ e => e)))
    | wp_step)
theorem ifBound_ne {args : List Value} {Q : Option Value → Shared → Prop} (X : K.In s.heap) (I : PySem.W.InstAt s.heap x ox C od) (hs : PySem.W.findIn K (.ref C) "__ne__" = some (some (.builtin "object.__ne__")))
    (h : wpAny M A (call (.builtin "object.__ne__") (.ref x :: args)) (fun v => Q (some v)) E s) : wpAny M A (callSpecialIfBound? (.ref x) "__ne__" args) Q E s := by
  simp only [callSpecialIfBound?, bindSpecialIfBound?]
  refine wpAny_holding (wpAny_bind (wpAny_bind (wpAny_bind (I.type.here ((PySem.W.looks_findIn X hs).here ?_)))))
  refine wpAny_bind (wpAny_askSetting (wpAny_ite ?_))
  have fin : wpAny M A (call (.builtin "object.__ne__") ([.ref x] ++ args) >>= fun v => pure (some v)) Q E s := wpAny_bind (wpAny_mono h (fun v s' h' => wpAny_pure h') fun _ _ h' => h')
  split
  · exact wpAny_bind (wpAny_of_eq (F.cmp_object.ne.bind _) (wpAny_pure (by exact fin)))
  · exact wpAny_tryCatch (wpAny_bind (wpAny_of_eq (F.cmp_object.ne.bind _) (wpAny_pure (by exact fin))))
theorem rc_ne (hu : A.units + 1 < cLine) (X : K.In s.heap) (I : PySem.W.InstAt s.heap x ox C od) (I' : PySem.W.InstAt s.heap y oy C od') (hm : PySem.W.mroIn K C (.type "object") = some true) (hs : PySem.W.findIn K (.ref C) "__eq__" = some (some (.ref f))) (hf : PySem.W.isFn K (.ref f) = true)
    (hn : PySem.W.findIn K (.ref C) "__ne__" = some (some (.builtin "object.__ne__"))) {Q : Value → Shared → Prop}
    (hcall : wpAny (model prog w) A.in1 (call (.ref f) [.ref x, .ref y]) (fun v s' => ∃ b, v = .bool b ∧ Q (.bool (!b)) s') E s) :
    wpAny (model prog w) A (richCompare .NotEq (.ref x) (.ref y)) Q E s := by
  have one : wpAny (model prog w) A (tryCompare (.ref x) "__ne__" (.ref y)) (fun r s' => ∃ b, r = some (.bool b) ∧ Q (.bool b) s') E s := by
    unfold tryCompare
    refine wpAny_bind (ifBound_ne X I hn (wpAny_call (codeAny_call_builtin F.cmp_object.ne.plain F.cmpEntry_ne (PySem.W.check_slot F.cmpKind_ne F.cmpSplit_ne (I.type.andThen (PySem.W.looks_mroIn X hm)) (F.cmpArgs_ne _ _)
      (ne_entry (A := A.in1) hu X I hs hf (wpAny_mono hcall (fun v s' hv => ?_) fun _ _ e => e))))))
    obtain ⟨b, rfl, hq⟩ := hv
    first | exact ⟨b, rfl, wpAny_pure ⟨_, rfl, hq⟩⟩ | exact ⟨b, rfl, wpAny_pure (wpAny_pure ⟨_, rfl, hq⟩)⟩ | exact ⟨b, rfl, _, rfl, hq⟩
  unfold richCompare
  simp only [oneThing_ref]
  refine wpAny_holding (wpAny_bind (wpAny_cRoomFor (Nat.lt_of_succ_lt hu) ?_))
  rw [cmpInfo_NotEq]
  dsimp only
  refine wpAny_bind (I.type.here (wpAny_bind (I'.type.here ?_)))
  rw [show (Value.ref C != Value.ref C) = false from by simp]
  simp only [Bool.false_eq_true, if_false]
  refine wpAny_bind (wpAny_pure ?_)
  simp only [Bool.false_eq_true, if_false]
  refine wpAny_bind (wpAny_mono one (fun v s' hv => ?_) fun _ _ e => e)
  obtain ⟨b, rfl, hq⟩ := hv
  first | exact wpAny_pure hq | exact wpAny_pure (wpAny_pure hq) | exact hq
end
end NeK
namespace W05
open PySem L2 PySem.Spec PyProof.Rows WR
def rNeW (K : PySem.W.Frag) (C : Addr) : R2 := fun x y H Q => ∃ (p q : Addr) (ns ms : List Int), x = .ref p ∧ y = .ref q ∧ WordAt K C H p ns ∧ WordAt K C H q ms ∧ Q (.bl (!decide (ns = ms))) H
section
variable {X : Cx} {C : Addr}
theorem op_neW (M : EqW X.prog X.w X.K X.mg X.base C) (hne : PySem.W.findIn X.K (.ref C) "__ne__" = some (some (.builtin "object.__ne__"))) (hmr : PySem.W.mroIn X.K C (.type "object") = some true) {j : Nat} (hr : Room j X.A) (hj : 2 ≤ j) : OpR X (compareOp .NotEq) (rNeW X.K C) := by
  intro pins s σ H x y u v Q I rx ry d
  obtain ⟨f, fd, F, hs, hf, hb⟩ := M.ex
  obtain ⟨a, b, ns, ms, rfl, rfl, W1, W2, hq⟩ := d
  cases rx
  cases ry
  obtain ⟨dx, tl, tk, ks, ha, _⟩ := id W1
  obtain ⟨dx', tl', tk', ks', hb', _⟩ := id W2
  obtain ⟨mA, J, _⟩ := ins_get I.hok ha
  obtain ⟨mB, J', _⟩ := ins_get I.hok hb'
  obtain ⟨od, J, _⟩ := J.look
  obtain ⟨od', J', _⟩ := J'.look
  have rm2 : Room 2 X.A := hr.mono hj
  have rm : Room 1 X.A.in1 := rm2.in1
  show wpAny (model X.prog X.w) X.A (richCompare .NotEq (.ref a) (.ref b)) (EP X pins σ Q) X.xe s
  refine NeK.rc_ne (by have := rm.units0; exact this) I.kIn J J' hmr hs hf hne ?_
  have hsp : spEq X.K C [.ref a, .ref b] H (fun v H' => ∃ c, v = .bl c ∧ Q (.bl (!c)) H') E0 := ⟨a, b, ns, ms, rfl, W1, W2, _, rfl, hq⟩
  have e0 : Env0 X.prog X.w X.K X.mg X.base X.A.in1 X.stack s H := by
    have e := I.env0
    exact ⟨e.frames, e.mod, e.bs, e.bsz, e.funs, e.frf, e.hok, e.bare⟩
  have hl := F.len _ _ _ _ hsp
  have r2 : Vals [V.ref a, V.ref b] [Value.ref a, Value.ref b] := .cons rfl (.cons rfl .nil)
  refine wpAny_call (codeAny_mono (F.run X.A.in1 X.stack s H ⟨[.ref a, .ref b], []⟩ [.ref a, .ref b] [.ref a, .ref b] _ E0 rm e0 (by
    have := hb s [.ref a, .ref b] I.kIn (by simpa using hl)
    simpa using this) r2 hsp) fun r s' hq => ?_)
  cases r with
  | error e => exact pass0 pins σ H s e s' I hq
  | ok fl =>
    cases fl with
    | ret w =>
      obtain ⟨z, H', I', rz, c, ez, q⟩ := I.after hq
      subst ez
      cases rz
      exact ⟨c, rfl, .bl (!c), H', I', rfl, q⟩
    | next => exact False.elim hq
    | brk => exact False.elim hq
    | cont => exact False.elim hq
end
end W05
set_option Elab.async false
set_option linter.all false
set_option maxRecDepth 100000
set_option maxHeartbeats 2000000
namespace W05
open PySem L2 PySem.Spec PyProof.Rows WR
abbrev sPick : Stmt := top 34
abbrev sLetters : Stmt := top 35
abbrev sConL : Stmt := top 36
abbrev sEnds : Stmt := top 38
def Drew (a c : Addr) (n : Nat) (H H' : Hp) : Prop := HandAt H' a c n ∧ Kept a H H'
theorem HandAt.mono {H : Hp} {a c : Addr} {m n : Nat} (h : HandAt H a c m) (l : m ≤ n) : HandAt H a c n := by
  obtain ⟨ns, i, r, h1, h2, h3, h4, h5, h6, h7⟩ := h
  exact ⟨ns, i, r, h1, h2, h3, h4, h5, by omega, h7⟩
theorem HandAt.off {H : Hp} {a c p : Addr} {n : Nat} {o : HO} (h : HandAt H a c n) (h1 : p ≠ a) (h2 : p ≠ c) : HandAt (L2.upd H p o) a c n := by
  obtain ⟨ns, i, r, h3, h4, h5⟩ := h
  exact ⟨ns, i, r, by rw [upd_ne h1.symm]; exact h3, by rw [upd_ne h2.symm]; exact h4, h5⟩
theorem HandAt.ne {H : Hp} {a c p : Addr} {n : Nat} (h : HandAt H a c n) (hp : H p = none) : p ≠ a := by
  obtain ⟨ns, i, r, h1, _⟩ := h
  exact (ne_of_none h1 hp).symm
theorem HandAt.neC {H : Hp} {a c p : Addr} {n : Nat} (h : HandAt H a c n) (hp : H p = none) : p ≠ c := by
  obtain ⟨ns, i, r, h1, h2, _⟩ := h
  exact (ne_of_none h2 hp).symm
theorem HandAt.new {H : Hp} {a c p : Addr} {n : Nat} {o : HO} (h : HandAt H a c n) (hp : H p = none) : HandAt (L2.upd H p o) a c n := h.off (h.ne hp) (h.neC hp)
theorem Drew.refl {a c : Addr} {n : Nat} {H : Hp} (h : HandAt H a c n) : Drew a c n H H := ⟨h, Kept.refl⟩
theorem Drew.trans {a c : Addr} {m n : Nat} {H H1 H2 : Hp} (h1 : Drew a c m H H1) (h2 : Drew a c n H1 H2) : Drew a c n H H2 := ⟨h2.1, h1.2.trans h2.2⟩
theorem Drew.new {a c p : Addr} {n : Nat} {H H1 : Hp} {o : HO} (h : Drew a c n H H1) (hp : H1 p = none) : Drew a c n H (L2.upd H1 p o) := ⟨h.1.new hp, h.2.new hp⟩
theorem Drew.mono {a c : Addr} {m n : Nat} {H H1 : Hp} (h : Drew a c m H H1) (l : m ≤ n) : Drew a c n H H1 := ⟨h.1.mono l, h.2⟩
/-- an object that was not there at first may change -/
theorem Drew.put {a c p : Addr} {n : Nat} {H H1 : Hp} {o : HO} (h : Drew a c n H H1) (h0 : H p = none) (h1 : p ≠ a) (h2 : p ≠ c) : Drew a c n H (L2.upd H1 p o) :=
  ⟨h.1.off h1 h2, fun b u nb e => by rw [upd_ne (ne_of_none e h0)]; exact h.2 b u nb e⟩
theorem Drew.back {a c p : Addr} {n : Nat} {H H1 : Hp} (h : Drew a c n H H1) (hp : H1 p = none) : H p = none := by
  cases e : H p with
  | none => rfl
  | some o =>
    have q := h.2 p o (h.1.ne hp) e
    rw [hp] at q
    cases q
theorem HandAt.same {H H' : Hp} {a c : Addr} {n : Nat} (h : HandAt H a c n) (s : Same H H') : HandAt H' a c n := by
  obtain ⟨ns, i, r, h1, h2, h3⟩ := h
  exact ⟨ns, i, r, s _ _ h1, s _ _ h2, h3⟩
theorem Drew.same {a c : Addr} {n : Nat} {H H1 H2 : Hp} (h : Drew a c n H H1) (s : Same H1 H2) : Drew a c n H H2 := ⟨h.1.same s, fun b o nb e => s b o (h.2 b o nb e)⟩
/-- a new list of these ints -/
def NewL (H : Hp) (Q : VK) (ns : List Int) : Prop := ∀ p H', H p = none → Same H H' → H' p = some (.lst (iv ns)) → Q (.ref p) H'
def spPick : Sp := fun vs H Q _ => ∃ (a c p : Addr) (xs : List V) (n : Nat), vs = [.ref a, .ref p] ∧ HandAt H a c n ∧ n ≤ 10000 ∧ p ≠ a ∧ H p = some (.lst xs) ∧ 0 < xs.length ∧ xs.length ≤ 1000 ∧ ∀ v ∈ xs, ∀ H', Drew a c (n + 1) H H' → Q v H'
def spLetters : Sp := fun vs H Q _ => ∃ (a c : Addr) (m k n : Nat), vs = [.ref a, .int (m : Int), .int (k : Int)] ∧ HandAt H a c n ∧ m ≤ 600 ∧ n + 2 * m ≤ 9000 ∧ 1 ≤ k ∧ k ≤ 26 ∧
  ∀ p H' ls, H p = none → Drew a c (n + 2 * m) H H' → H' p = some (.lst (iv ls)) → ls.length = m → (∀ x ∈ ls, 1 ≤ x.natAbs ∧ x.natAbs ≤ k) → Q (.ref p) H'
def spConL : Sp := fun vs H Q _ => ∃ (p : Addr) (ns : List Int), vs = [.ref p] ∧ H p = some (.lst (iv ns)) ∧ ns.length ≤ 1000 ∧ NewL H Q (Fr.con ns)
def spEnds : Sp := fun vs H Q _ => ∃ (p : Addr) (ns : List Int), vs = [.ref p] ∧ H p = some (.lst (iv ns)) ∧ ns.length ≤ 1000 ∧ NewL H Q (Fr.ends ns)
structure TxN (mg : Str → Option Value) : Prop where
  range : mg "range" = none
  list : mg "list" = none
theorem Drew.ofNew {a c p : Addr} {n : Nat} {H H' : Hp} (d : Drew a c n H H') (h0 : HandAt H a c n) {o : HO} (hp : H p = some o) (hn : p ≠ a) : H' p = some o := d.2 _ _ hn hp
section
variable {P : Program} {w : World} {K : PySem.W.Frag} {mg : Str → Option Value} {base : Heap}
theorem scPick : FnScope ["_law_jar_here", "_law_some"] ["_law_jar_here", "_law_some"] (defScope sPick) := ⟨rfl, rfl, rfl, by decide +kernel, rfl, by decide +kernel, by decide +kernel⟩
theorem ok_pick {f : Addr} {fd : FuncData} (F : Fun K "_law_pick" "_law_pick" sPick f fd) (GT : Cal P w K mg base "_law_draw" 1 ["_law_jar_here", "_law_many"] spTake) (T : TxL mg) : FnOk P w K mg base CX0 2 f fd ["_law_jar_here", "_law_some"] spPick := by
  refine F.ok scPick (fun vs H Q E h => ?_) (fun cdv A outer s H vs Q E hr h => ?_)
  · obtain ⟨a, c, p, xs, n, rfl, _⟩ := h
    rfl
  · obtain ⟨a, c, p, xs, n, rfl, hH, hn, hpa, hp, h0, h1, k⟩ := h
    refine ⟨_, pss_one (ps_ret (pe_ix ix_list (pv 1) (pe_cal GT hr (by decide) (by rfl) (pa_cons (pv 0) (pa_cons (pe_callB call_len_seq (by rfl) T.len PySem.boot_len (pa_cons (pv 1) pa_nil)) pa_nil))) (fun _ _ => rfl))), ?_⟩
    refine ⟨_, rfl, _, rfl, _, rfl, p, _, rfl, .inl (SqL.of hp), a, c, _, n, rfl, hH, hn, by omega, ?_, ?_⟩
    · have : (((xs.length : Nat) : Int)).natAbs ≤ 1000 := by omega
      exact Nat.lt_of_le_of_lt this (by decide)
    · intro H' q q0 q1 hH' hK
      obtain ⟨j, rfl⟩ : ∃ j : Nat, q = (j : Int) := ⟨q.toNat, by omega⟩
      have hj : j < xs.length := by omega
      refine ⟨p, xs, _, xs[j], rfl, rfl, SqL.of (hK _ _ hpa hp), atI_nat (List.getElem?_eq_getElem hj), ?_⟩
      exact k _ (List.getElem_mem hj) H' ⟨hH', hK⟩
theorem int_eq {x y : Int} : decide (V.int x = V.int y) = decide (x = y) := by
  rw [Bool.eq_iff_iff, decide_eq_true_iff, decide_eq_true_iff]
  exact ⟨fun e => by injection e, fun e => by rw [e]⟩
abbrev nLetters : List Str := ["_law_jar_here", "_law_many", "_law_kinds", "_law_found", "_law_turn", "_law_kind"]
theorem scLetters : FnScope nLetters ["_law_jar_here", "_law_many", "_law_kinds"] (defScope sLetters) := ⟨rfl, rfl, rfl, by decide +kernel, rfl, by decide +kernel, by decide +kernel⟩
theorem ok_letters {f : Addr} {fd : FuncData} (F : Fun K "_law_letters" "_law_letters" sLetters f fd) (GT : Cal P w K mg base "_law_draw" 1 ["_law_jar_here", "_law_many"] spTake) (T : TxN mg) : FnOk P w K mg base CX0 2 f fd ["_law_jar_here", "_law_many", "_law_kinds"] spLetters := by
  refine F.ok scLetters (fun vs H Q E h => ?_) (fun cdv A outer s H vs Q E hr h => ?_)
  · obtain ⟨a, c, m, k, n, rfl, _⟩ := h
    rfl
  · obtain ⟨a, c, m, k, n, rfl, hH, hm, hn, k1, k26, kq⟩ := h
    refine ⟨_, pss_cons (ps_set (i := 3) scLetters.nd rfl (Or.inl rfl) (pe_lst pa_nil))
      (pss_cons (ps_for PassesOwn.never rfl (pi_range1 (by rfl) T.range (pa_cons (pv 1) pa_nil)) (pg_name (i := 4) scLetters.nd rfl (Or.inl rfl))
        (pss_cons (ps_set (i := 5) scLetters.nd rfl (Or.inl rfl) (pe_op op_add pe_int (pe_cal GT hr (by decide) (by rfl) (pa_cons (pv 0) (pa_cons (pv 2) pa_nil)))))
        (pss_one (ps_expr (pe_bm PySem.F.plainAttrs_list PySem.F.slot_list_append PySem.F.type_list_append mt_append (pv 3) (pa_cons (pe_ifExp (pt_cmpR op_eq (pe_cal GT hr (by decide) (by rfl) (pa_cons (pv 0) (pa_cons pe_int pa_nil))) pe_int (nomark _)) (pv 5) (pe_un un_neg (pv 5))) pa_nil))))))
      (pss_one (ps_ret (pv 3)))), ?_⟩
    refine ⟨Nat.zero_le _, fun l hl => ?_⟩
    have hla := hH.ne hl
    have hlc := hH.neC hl
    refine ⟨_, rfl, m, rfl, by omega, by omega, ?_⟩
    have em : (((m : Nat) : Int)).toNat = m := Int.toNat_natCast m
    refine for_range (lo := 0) (n := (((m : Nat) : Int)).toNat) (fun i σ H' => ∃ v1 v2 ls, σ = [some (.ref a), some (.int (m : Int)), some (.int (k : Int)), some (.ref l), v1, v2] ∧ Drew a c (n + 2 * i) H H' ∧ H' l = some (.lst (iv ls)) ∧ ls.length = i ∧ ∀ x ∈ ls, 1 ≤ x.natAbs ∧ x.natAbs ≤ k)
      ⟨none, none, [], rfl, (Drew.refl hH).new hl, by rw [upd_same]; rfl, rfl, fun _ h => nomatch h⟩ ?_ ?_
    · rintro i σ H1 hi ⟨v1, v2, ls, rfl, d1, hL, hlen, hk⟩
      rw [em] at hi
      refine ⟨_, rfl, _, rfl, a, c, _, n + 2 * i, rfl, d1.1, by omega, by omega, by omega, fun H2 q q0 q1 hH2 hK2 => ?_⟩
      have d2 : Drew a c (n + 2 * i + 1) H H2 := ⟨hH2, d1.2.trans hK2⟩
      have hL2 := hK2 _ _ hla hL
      refine ⟨_, _, rfl, rfl, ?_⟩
      refine ⟨_, rfl, .inl ⟨rfl, _, SqL.of hL2⟩, _, rfl, a, c, 2, n + 2 * i + 1, rfl, hH2, by omega, by decide, by decide, fun H3 q' q0' q1' hH3 hK3 => ?_⟩
      have d3 : Drew a c (n + 2 * i + 1 + 1) H H3 := ⟨hH3, d2.2.trans hK3⟩
      have hL3 := hK3 _ _ hla hL2
      have fin : ∀ z : Int, z.natAbs = (1 + q).natAbs → ∃ v1 v2 ls', [some (V.ref a), some (.int (m : Int)), some (.int (k : Int)), some (.ref l), some (.int (0 + (i : Nat))), some (.int (1 + q))] = [some (.ref a), some (.int (m : Int)), some (.int (k : Int)), some (.ref l), v1, v2] ∧ Drew a c (n + 2 * (i + 1)) H (L2.upd H3 l (.lst (iv ls ++ [.int z]))) ∧ L2.upd H3 l (.lst (iv ls ++ [.int z])) l = some (.lst (iv ls')) ∧ ls'.length = i + 1 ∧ ∀ x ∈ ls', 1 ≤ x.natAbs ∧ x.natAbs ≤ k := by
        intro z hz
        refine ⟨_, _, ls ++ [z], rfl, d3.put hl hla hlc, by rw [upd_same]; simp [iv], by simp [hlen], fun x hx => ?_⟩
        rcases List.mem_append.mp hx with h | h
        · exact hk x h
        · rw [List.mem_singleton.mp h, hz]
          omega
      refine ⟨rfl, _, rfl, ?_⟩
      refine ite2 (fun _ => ?_) (fun _ => ?_)
      · exact ⟨_, rfl, l, _, _, rfl, rfl, hL3, Evl.sz_lt (by simp; omega), fin _ rfl⟩
      · exact ⟨_, rfl, _, rfl, l, _, _, rfl, rfl, hL3, Evl.sz_lt (by simp; omega), fin _ (Int.natAbs_neg _)⟩
    · rintro σ H1 ⟨v1, v2, ls, rfl, d1, hL, hlen, hk⟩
      rw [em] at d1 hlen
      exact ⟨_, rfl, kq l H1 ls hl d1 hL hlen hk⟩
theorem scConL : FnScope ["_law_letters_here", "_law_letter"] ["_law_letters_here"] (defScope sConL) := ⟨rfl, rfl, rfl, by decide +kernel, rfl, by decide +kernel, by decide +kernel⟩
theorem ok_conL {f : Addr} {fd : FuncData} (F : Fun K "_law_contrary" "_law_contrary" sConL f fd) : FnOk P w K mg base CX0 1 f fd ["_law_letters_here"] spConL := by
  refine F.ok scConL (fun vs H Q E h => ?_) (fun cdv A outer s H vs Q E hr h => ?_)
  · obtain ⟨a, ns, rfl, _⟩ := h
    rfl
  · obtain ⟨a, ns, rfl, hS, hlen, k⟩ := h
    refine ⟨_, pss_one (ps_ret (pe_lc (own := [("_law_letter", 1)]) (g := gName 1) (tt := tYes) rfl scConL.nd (pi_list (pe_revL (pv 0)))
      (blkOk_by (N := ["_law_letters_here", "_law_letter"]) (sc := defScope sConL) (by decide +kernel)) (fun _ _ _ _ _ => pg_name (i := 1) scConL.nd rfl (Or.inl rfl)) (fun _ _ _ _ _ => pts_nil)
      (fun _ _ _ _ _ => pe_un un_neg (pv 1)))), ?_⟩
    refine ret_e (lc_in ?_)
    refine ⟨_, rfl, a, iv ns, rfl, SqL.of hS, fun p hp => ?_⟩
    refine ⟨p, rfl, ⟨_, SqL.of upd_same⟩, ?_⟩
    refine lcp (walk_list (xs := (iv ns).reverse)) (fun _ => true) (fun x => match x with | .int i => .int (-i) | _ => .non) (by simp; omega) (fun H2 s2 => SqL.of (s2 _ _ upd_same)) ?_ ?_
    · intro x hx H2 s2 Qy Qn ky kn
      obtain ⟨i, rfl⟩ : ∃ i, x = V.int i := by
        simp at hx
        obtain ⟨i, _, rfl⟩ := hx
        exact ⟨i, rfl⟩
      refine ⟨rfl, yes_te ?_⟩
      exact ⟨_, rfl, i, rfl, ky rfl H2 (fun _ _ e => e)⟩
    · intro D H2 hD s2 h2
      have e : (((iv ns).reverse.filter fun _ => true).map fun x => match x with | .int i => V.int (-i) | _ => .non) = iv (Fr.con ns) := by
        rw [List.filter_eq_self.mpr (fun _ _ => rfl)]
        unfold Fr.con
        simp [iv, List.map_reverse, Function.comp_def]
      rw [e] at h2
      exact k D H2 ((same_upd hp).free hD) ((same_upd hp).trans s2) h2
end
end W05
set_option Elab.async false
set_option linter.all false
set_option maxRecDepth 100000
set_option maxHeartbeats 2000000
namespace Fr
theorem endsN_fuel : ∀ (n m : Nat) (xs : List Int), xs.length ≤ n → xs.length ≤ m → endsN n xs = endsN m xs
  | 0, 0, _, _, _ => rfl
  | 0, m + 1, xs, h, _ => by
    have : xs = [] := List.length_eq_zero_iff.1 (by omega)
    subst this
    unfold endsN
    simp
  | n + 1, 0, xs, _, h => by
    have : xs = [] := List.length_eq_zero_iff.1 (by omega)
    subst this
    unfold endsN
    simp
  | n + 1, m + 1, xs, h, k => by
    unfold endsN
    split
    · exact endsN_fuel n m _ (by simp; omega) (by simp; omega)
    · rfl
theorem ends_in (x : Int) (m : List Int) (y : Int) (h : x = -y) : ends (x :: (m ++ [y])) = ends m := by
  have e : ends (x :: (m ++ [y])) = endsN (m.length + 1 + 1) (x :: (m ++ [y])) := by
    unfold ends
    simp
  rw [e]
  unfold endsN
  rw [if_pos]
  · rw [List.tail_cons, List.dropLast_concat]
    exact endsN_fuel _ _ _ (by omega) (Nat.le_refl _)
  · refine ⟨by simp, ?_⟩
    rw [show x :: (m ++ [y]) = (x :: m) ++ [y] from rfl, List.getLast?_append]
    simp [h]
theorem ends_out (x : Int) (m : List Int) (y : Int) (h : x ≠ -y) : ends (x :: (m ++ [y])) = x :: (m ++ [y]) := by
  have e : ends (x :: (m ++ [y])) = endsN (m.length + 1 + 1) (x :: (m ++ [y])) := by
    unfold ends
    simp
  rw [e]
  unfold endsN
  rw [if_neg]
  rintro ⟨_, h2⟩
  rw [show x :: (m ++ [y]) = (x :: m) ++ [y] from rfl, List.getLast?_append] at h2
  simp at h2
  exact h h2
theorem ends_few (xs : List Int) (h : xs.length ≤ 1) : ends xs = xs := by
  unfold ends
  cases xs with
  | nil => rfl
  | cons a t =>
    cases t with
    | nil =>
      show endsN 1 [a] = [a]
      unfold endsN
      simp
    | cons b u => simp at h
theorem two_or (xs : List Int) : xs.length ≤ 1 ∨ ∃ x m y, xs = x :: (m ++ [y]) := by
  cases xs with
  | nil => left; simp
  | cons a t =>
    by_cases ht : t = []
    · subst ht; left; simp
    · right
      exact ⟨a, t.dropLast, t.getLast ht, by rw [List.dropLast_concat_getLast ht]⟩
end Fr
namespace W05
open PySem L2 PySem.Spec PyProof.Rows WR
theorem cut_inner (x : Int) (m : List Int) (y : Int) : cutV (iv (x :: (m ++ [y]))) (some 1) (some (-1)) = iv m := by
  unfold cutV
  have e1 : HT.sIx (iv (x :: (m ++ [y]))).length 0 (some 1) = 1 := by
    have := HT.sIx_nat (iv (x :: (m ++ [y]))).length 0 1
    rw [show (some (1 : Int)) = some ((1 : Nat) : Int) from rfl, this]
    simp [iv]
  have e2 : HT.sIx (iv (x :: (m ++ [y]))).length (iv (x :: (m ++ [y]))).length (some (-1)) = m.length + 1 := by
    show (if (-1 : Int) < 0 then ((-1 : Int) + ((iv (x :: (m ++ [y]))).length : Int)).toNat else min (-1 : Int).toNat (iv (x :: (m ++ [y]))).length) = m.length + 1
    rw [if_pos (by decide)]
    simp only [iv, List.map_cons, List.map_append, List.length_cons, List.length_append, List.length_map, List.length_nil]
    omega
  rw [e1, e2]
  simp [iv]
section
variable {P : Program} {w : World} {K : PySem.W.Frag} {mg : Str → Option Value} {base : Heap}
theorem scEnds : FnScope ["_law_letters_here", "_law_left"] ["_law_letters_here"] (defScope sEnds) := ⟨rfl, rfl, rfl, by decide +kernel, rfl, by decide +kernel, by decide +kernel⟩
theorem ok_ends {f : Addr} {fd : FuncData} (F : Fun K "_law_ends_off" "_law_ends_off" sEnds f fd) (T : TxL mg) (TN : TxN mg) : FnOk P w K mg base CX0 1 f fd ["_law_letters_here"] spEnds := by
  refine F.ok scEnds (fun vs H Q E h => ?_) (fun cdv A outer s H vs Q E hr h => ?_)
  · obtain ⟨a, ns, rfl, _⟩ := h
    rfl
  · obtain ⟨a, ns, rfl, hS, hlen, k⟩ := h
    refine ⟨_, pss_cons (ps_set (i := 1) scEnds.nd rfl (Or.inl rfl) (pe_callTy call_list_of (by rfl) TN.list (by decide +kernel) (pa_cons (pv 0) pa_nil)))
      (pss_cons (ps_while PassesOwn.never (PW.pt (pw_and (pt_cmpR op_gt (pe_callB call_len_seq (by rfl) T.len PySem.boot_len (pa_cons (pv 1) pa_nil)) pe_int (nomark _))
          (pw_and1 (pt_cmpR op_eq (pe_ix ix_list (pv 1) pe_int (fun _ _ => rfl)) (pe_un un_neg (pe_ix ix_list (pv 1) (pe_un un_neg pe_int) (fun _ _ => rfl))) (nomark _)))))
        (pss_one (ps_set (i := 1) scEnds.nd rfl (Or.inl rfl) (pe_slice sl_list (pv 1) (po_some pe_int) (po_some (pe_un un_neg pe_int))))))
      (pss_one (ps_ret (pv 1)))), ?_⟩
    refine ⟨_, rfl, a, _, rfl, .inl (SqL.of hS), fun l hl => ?_⟩
    refine ⟨fun n σ H' => ∃ l cur, n = cur.length ∧ σ = [some (.ref a), some (.ref l)] ∧ H l = none ∧ Same H H' ∧ H' l = some (.lst (iv cur)) ∧ Fr.ends cur = Fr.ends ns, ⟨_, l, ns, rfl, rfl, hl, same_upd hl, upd_same, rfl⟩, ?_⟩
    rintro n σ H1 ⟨l1, cur, rfl, rfl, hl1, sm, hL, e⟩
    refine ⟨_, rfl, l1, _, rfl, .inl (SqL.of hL), _, _, rfl, rfl, _, rfl, ?_⟩
    rcases Fr.two_or cur with h1 | ⟨x, m, y, rfl⟩
    · refine iteF' (decide_eq_false (by rw [List.length_map]; omega)) ?_
      refine iteF ?_
      refine ⟨_, rfl, k l1 H1 hl1 sm ?_⟩
      rw [hL, ← e, Fr.ends_few cur h1]
    · refine iteT' (decide_eq_true (by simp; omega)) ?_
      have eL : iv (x :: (m ++ [y])) = (iv (x :: m)) ++ [V.int y] := by simp [iv]
      refine ⟨_, rfl, l1, _, 0, _, rfl, rfl, SqL.of hL, atI_nat (j := 0) (v := V.int x) rfl, _, rfl, 1, rfl, l1, _, _, _, rfl, rfl, SqL.of hL, (by rw [eL]; exact atI_last _ _), _, rfl, rfl, _, rfl, ?_⟩
      by_cases hxy : x = -y
      · refine iteT' (decide_eq_true (by rw [hxy])) ?_
        refine ⟨fun σ' H'' => ∃ l cur, cur.length < (x :: (m ++ [y])).length ∧ σ' = [some (.ref a), some (.ref l)] ∧ H l = none ∧ Same H H'' ∧ H'' l = some (.lst (iv cur)) ∧ Fr.ends cur = Fr.ends ns, fun σ' H'' ⟨l, cur, q1, q2⟩ => ⟨_, q1, l, cur, rfl, q2⟩, ?_⟩
        refine ⟨_, rfl, 1, rfl, 1, rfl, _, rfl, l1, _, rfl, SqL.of hL, fun l2 hl2 => ?_⟩
        refine ⟨l2, m, by simp; omega, rfl, sm.free hl2, sm.trans (same_upd hl2), ?_, ?_⟩
        · rw [upd_same]
          have := cut_inner x m y
          rw [← this]
        · rw [← e, Fr.ends_in x m y hxy]
      · refine iteF' (decide_eq_false fun q => hxy ?_) ?_
        · have q2 : V.int x = V.int (-y) := q
          injection q2
        refine ⟨_, rfl, k l1 H1 hl1 sm ?_⟩
        rw [hL, ← e, Fr.ends_out x m y hxy]
end
end W05
set_option Elab.async false
set_option linter.all false
set_option maxRecDepth 100000
set_option maxHeartbeats 2000000
namespace W05
open PySem L2 PySem.Spec PyProof.Rows WR
abbrev sTaken : Stmt := top 37
def ups (n : Nat) : List Int := (List.range n).map fun (i : Nat) => ((i + 1 : Nat) : Int)
theorem ups_len (n : Nat) : (ups n).length = n := by unfold ups; rw [List.length_map, List.length_range]
theorem walk_ups (n : Nat) : Walk (Itr 1 n) (iv (ups n)).length (fun _ => True) (YAt (iv (ups n))) := by
  have e : (iv (ups n)).length = n := by rw [List.length_map, ups_len]
  rw [e]
  refine (walk_range (lo := 1) (n := n)).mono (fun _ h => h) ?_
  rintro i H x H' hi _ ⟨rfl, rfl⟩
  refine ⟨rfl, ?_⟩
  unfold ups
  rw [List.getElem?_map, List.getElem?_map, List.getElem?_range hi]
  show some (V.int ((i + 1 : Nat) : Int)) = some (V.int (1 + (i : Int)))
  congr 2
  omega
def spot (cur : List Int) (e : Int) : Bool := decide (cur.getD e.toNat 0 = -(cur.getD (e.toNat - 1) 0))
def spots (cur : List Int) : List Int := (ups (cur.length - 1)).filter (spot cur)
theorem rd_of : ∀ cur : List Int, (∀ j, 1 ≤ j → j < cur.length → cur.getD j 0 ≠ -(cur.getD (j - 1) 0)) → Fr.Rd cur
  | [], _ => trivial
  | [_], _ => trivial
  | a :: b :: t, h => by
    refine ⟨?_, rd_of (b :: t) fun j h1 h2 => ?_⟩
    · have := h 1 (by omega) (by simp)
      simp at this
      omega
    · have := h (j + 1) (by omega) (by simp at h2 ⊢; omega)
      obtain ⟨i, rfl⟩ : ∃ i, j = i + 1 := ⟨j - 1, by omega⟩
      simpa using this
theorem spots_nil {cur : List Int} (h : spots cur = []) : Fr.Rd cur := by
  refine rd_of cur fun j h1 h2 q => ?_
  have hm : ((j : Nat) : Int) ∈ spots cur := by
    unfold spots ups
    refine List.mem_filter.mpr ⟨List.mem_map.mpr ⟨j - 1, List.mem_range.mpr (by omega), ?_⟩, ?_⟩
    · congr 1
      omega
    · unfold spot
      rw [Int.toNat_natCast]
      exact decide_eq_true q
  rw [h] at hm
  cases hm
theorem spots_mem {cur : List Int} {v : Int} (h : v ∈ spots cur) : ∃ xs a ys, cur = xs ++ a :: -a :: ys ∧ v = ((xs.length + 1 : Nat) : Int) := by
  unfold spots ups at h
  obtain ⟨h1, h2⟩ := List.mem_filter.mp h
  obtain ⟨i, hi, rfl⟩ := List.mem_map.mp h1
  have hi2 : i + 1 < cur.length := by have := List.mem_range.mp hi; omega
  unfold spot at h2
  rw [Int.toNat_natCast] at h2
  have h3 := of_decide_eq_true h2
  rw [List.getD_eq_getElem?_getD, List.getD_eq_getElem?_getD, Nat.add_sub_cancel, List.getElem?_eq_getElem hi2, List.getElem?_eq_getElem (by omega)] at h3
  simp at h3
  refine ⟨cur.take i, cur[i], cur.drop (i + 2), ?_, by rw [List.length_take, Nat.min_eq_left (by omega)]⟩
  rw [← h3]
  have e1 : cur = cur.take i ++ cur.drop i := (List.take_append_drop i cur).symm
  have e2 : cur.drop i = cur[i] :: cur.drop (i + 1) := List.drop_eq_getElem_cons (by omega)
  have e3 : cur.drop (i + 1) = cur[i + 1] :: cur.drop (i + 2) := List.drop_eq_getElem_cons hi2
  rw [← e3, ← e2]
  exact e1
def spTaken : Sp := fun vs H Q _ => ∃ (a c p : Addr) (ns : List Int) (n : Nat), vs = [.ref a, .ref p] ∧ HandAt H a c n ∧ p ≠ a ∧ H p = some (.lst (iv ns)) ∧ ns.length ≤ 600 ∧ n + ns.length ≤ 9500 ∧
  ∀ q H', H q = none → Drew a c (n + ns.length) H H' → H' q = some (.lst (iv (Fr.shr ns))) → Q (.ref q) H'
theorem cut_ahead (xs ys : List Int) (a b : Int) : cutV (iv (xs ++ a :: b :: ys)) none (some (((xs.length + 1 : Nat) : Int) - 1)) = iv xs := by
  have e : ((xs.length + 1 : Nat) : Int) - 1 = ((xs.length : Nat) : Int) := by omega
  rw [e]
  unfold cutV
  rw [HT.sIx_none, HT.sIx_nat, List.drop_zero, Nat.sub_zero, Nat.min_eq_left (by simp), ← List.map_take, List.take_left]
theorem cut_behind (xs ys : List Int) (a b : Int) : cutV (iv (xs ++ a :: b :: ys)) (some (((xs.length + 1 : Nat) : Int) + 1)) none = iv ys := by
  have e : ((xs.length + 1 : Nat) : Int) + 1 = ((xs.length + 2 : Nat) : Int) := by omega
  rw [e]
  unfold cutV
  rw [HT.sIx_none, HT.sIx_nat, Nat.min_eq_left (by simp), ← List.map_drop, List.take_of_length_le (by simp; omega)]
  congr 1
  rw [List.drop_append]
  simp
theorem as_lc {wi : TI} {g g2 : TG} {tt : TT} {te : TE} {vs : List Nat} {σ : L2.St} {H : Hp} {D : Ends} (h : tLc wi g tt te vs σ H fun x H1 => g2 x σ H1 D.nx) : tAsg (tLc wi g tt te vs) g2 D σ H := h
theorem sq {t u : TS} {D : Ends} {σ : L2.St} {H : Hp} (h : t { D with nx := u D } σ H) : tSeq t u D σ H := h
theorem ixl {X : Cx} {K : PySem.W.Frag} (h : X.K = K) : IxR X (rIxL K) := h ▸ ix_list
abbrev nTaken : List Str := ["_law_jar_here", "_law_letters_here", "_law_left", "_law_spots", "_law_spot", "_law_at"]
section
variable {P : Program} {w : World} {K : PySem.W.Frag} {mg : Str → Option Value} {base : Heap}
theorem scTaken : FnScope nTaken ["_law_jar_here", "_law_letters_here"] (defScope sTaken) := ⟨rfl, rfl, rfl, by decide +kernel, rfl, by decide +kernel, by decide +kernel⟩
theorem ok_taken {f : Addr} {fd : FuncData} (F : Fun K "_law_taken_out" "_law_taken_out" sTaken f fd) (GP : Cal P w K mg base "_law_pick" 2 ["_law_jar_here", "_law_some"] spPick) (T : TxL mg) (TN : TxN mg) :
    FnOk P w K mg base CX0 3 f fd ["_law_jar_here", "_law_letters_here"] spTaken := by
  refine F.ok scTaken (fun vs H Q E h => ?_) (fun cdv A outer s H vs Q E hr h => ?_)
  · obtain ⟨a, c, p, ns, n, rfl, _⟩ := h
    rfl
  · obtain ⟨a, c, p, ns, n, rfl, hH, hpa, hS, hlen, hn, k⟩ := h
    refine ⟨_, pss_cons (ps_set (i := 2) scTaken.nd rfl (Or.inr rfl) (pe_callTy call_list_of (by rfl) TN.list (by decide +kernel) (pa_cons (pv 1) pa_nil)))
      (pss_cons (ps_setLc (i := 3) (own := [("_law_at", 5)]) (g := gName 5) rfl scTaken.nd rfl rfl (sw_true rfl rfl rfl (by decide +kernel)) (pi_range2 (by rfl) TN.range (pa_cons pe_int (pa_cons (pe_callB call_len_seq (by rfl) T.len PySem.boot_len (pa_cons (pv 2) pa_nil)) pa_nil)))
        (blkOk_by (N := nTaken) (sc := defScope sTaken) (by decide +kernel)) (fun _ _ _ _ _ => pg_name (i := 5) scTaken.nd rfl (Or.inl rfl))
        (fun _ _ _ _ _ => pts_one (pt_cmpR op_eq (pe_ix (ixl (K := K) rfl) (pv 2) (pv 5) (fun _ _ => rfl)) (pe_un un_neg (pe_ix (ixl (K := K) rfl) (pv 2) (pe_op op_sub (pv 5) pe_int) (fun _ _ => rfl))) (nomark _))) (fun _ _ _ _ _ => pv 5))
      (pss_cons (ps_while PassesOwn.never (pt_cmpR (op_neD hr.units) (pv 3) (pe_lst pa_nil) (nomark _))
        (pss_cons (ps_set (i := 4) scTaken.nd rfl (Or.inl rfl) (pe_cal GP hr (by decide) (by rfl) (pa_cons (pv 0) (pa_cons (pv 3) pa_nil))))
        (pss_cons (ps_set (i := 2) scTaken.nd rfl (Or.inr rfl) (pe_op op_cat (pe_slice sl_list (pv 2) po_none (po_some (pe_op op_sub (pv 4) pe_int))) (pe_slice sl_list (pv 2) (po_some (pe_op op_add (pv 4) pe_int)) po_none)))
        (pss_one (ps_setLc (i := 3) (own := [("_law_at", 5)]) (g := gName 5) rfl scTaken.nd rfl rfl (sw_true rfl rfl rfl (by decide +kernel)) (pi_range2 (by rfl) TN.range (pa_cons pe_int (pa_cons (pe_callB call_len_seq (by rfl) T.len PySem.boot_len (pa_cons (pv 2) pa_nil)) pa_nil)))
        (blkOk_by (N := nTaken) (sc := defScope sTaken) (by decide +kernel)) (fun _ _ _ _ _ => pg_name (i := 5) scTaken.nd rfl (Or.inl rfl))
        (fun _ _ _ _ _ => pts_one (pt_cmpR op_eq (pe_ix (ixl (K := K) rfl) (pv 2) (pv 5) (fun _ _ => rfl)) (pe_un un_neg (pe_ix (ixl (K := K) rfl) (pv 2) (pe_op op_sub (pv 5) pe_int) (fun _ _ => rfl))) (nomark _))) (fun _ _ _ _ _ => pv 5))))))
      (pss_one (ps_ret (pv 2))))), ?_⟩
    refine ⟨_, rfl, p, _, rfl, .inl (SqL.of hS), fun l hl => ?_⟩
    have hL0 : L2.upd H l (.lst (iv ns)) l = some (.lst (iv ns)) := upd_same
    have D0 : Drew a c n H (L2.upd H l (.lst (iv ns))) := (Drew.refl hH).new hl
    refine gen_heap fun H1 e1 => ?_
    rw [← e1] at hL0 D0
    dsimp only
    refine sq ?_
    refine as_lc ?_
    refine lc_in ?_
    refine ⟨_, rfl, l, _, rfl, .inl (SqL.of hL0), 1, _, rfl, ⟨by decide, by decide, by rw [List.length_map]; omega, by rw [List.length_map]; omega⟩, ?_⟩
    have eN : (((iv (ns)).length : Int) - 1).toNat = (ns).length - 1 := by rw [List.length_map]; omega
    show tLc (fun _ H R => R (Itr 1 (((iv (ns)).length : Int) - 1).toNat) H) _ _ _ _ _ _ _
    rw [eN]
    refine lcp (walk_ups ((ns).length - 1)) (fun v => match v with | .int e => spot (ns) e | _ => false) id (by rw [List.length_map, ups_len]; omega) (fun _ _ => True.intro) ?_ ?_
    · intro y hy H7 s7 Qy Qn ky kn
      obtain ⟨e, he, rfl⟩ := List.mem_map.mp hy
      obtain ⟨i, hi, rfl⟩ := List.mem_map.mp he
      have hi2 : i + 1 < (ns).length := by have := List.mem_range.mp hi; omega
      have hL7 := s7 _ _ hL0
      have i1 : (iv (ns))[i + 1]? = some (V.int ((ns).getD (i + 1) 0)) := iv_get (by rw [List.getD_eq_getElem?_getD, List.getElem?_eq_getElem hi2]; rfl)
      have i0 : (iv (ns))[i]? = some (V.int ((ns).getD i 0)) := iv_get (by rw [List.getD_eq_getElem?_getD, List.getElem?_eq_getElem (show i < (ns).length by omega)]; rfl)
      have e1 : ((i + 1 : Nat) : Int) - 1 = ((i : Nat) : Int) := by omega
      refine ⟨rfl, ?_⟩
      refine ⟨_, rfl, _, rfl, l, _, _, _, rfl, rfl, SqL.of hL7, atI_nat i1, _, rfl, _, rfl, _, _, rfl, rfl, l, _, _, _, rfl, rfl, SqL.of hL7, (by rw [e1]; exact atI_nat i0), _, rfl, rfl, _, rfl, ?_⟩
      have es : decide (V.int ((ns).getD (i + 1) 0) = V.int (-((ns).getD i 0))) = spot (ns) ((i + 1 : Nat) : Int) := by
        rw [int_eq]
        unfold spot
        rw [Int.toNat_natCast]
        rfl
      refine ite2 (fun h => ?_) (fun h => ?_)
      · exact ⟨_, rfl, ky (es.symm.trans h) H7 (fun _ _ e => e)⟩
      · exact kn (by show spot (ns) ((i + 1 : Nat) : Int) = false; rw [← es]; exact Bool.eq_false_iff.mpr h) H7 (fun _ _ e => e)
    intro D H7 hD s7 hx
    have exx : (((iv (ups ((ns).length - 1))).filter fun v => match v with | .int e => spot (ns) e | _ => false).map id) = iv (spots (ns)) := by
      rw [List.map_id, iv, List.filter_map]
      rfl
    rw [exx] at hx
    refine ⟨fun N σ H' => ∃ l d cur v, N = cur.length ∧ σ = [some (.ref a), some (.ref p), some (.ref l), some (.ref d), v, none] ∧ H' l = some (.lst (iv cur)) ∧ H' d = some (.lst (iv (spots cur))) ∧ H l = none ∧ H d = none ∧
      Drew a c (n + (ns.length - cur.length)) H H' ∧ Fr.shr cur = Fr.shr ns ∧ cur.length ≤ ns.length, ⟨_, l, D, ns, none, rfl, rfl, s7 _ _ hL0, hx, hl, D0.back hD, by rw [Nat.sub_self]; exact D0.same s7, rfl, Nat.le_refl _⟩, ?_⟩
    rintro N σ H2 ⟨l, d, cur, v, rfl, rfl, hL, hd, hl0, hd0, D2, e, hcl⟩
    refine ⟨_, rfl, Nat.zero_le _, fun q hq => ?_⟩
    have s3 := same_upd (o := .lst []) hq
    have hL3 := s3 _ _ hL
    have hd3 := s3 _ _ hd
    have D3 := D2.new (o := .lst []) hq
    refine ⟨_, _, .lst (SqL.of hd3) (dp_iv _), .lst (SqL.of upd_same) .nil, PySem.W.ke_shaped_ints _, rfl, _, rfl, ?_⟩
    obtain ⟨H3, e3⟩ : ∃ H3, H3 = L2.upd H2 q (.lst []) := ⟨_, rfl⟩
    rw [← e3] at hL3 hd3 D3 ⊢
    cases es : spots cur with
    | nil =>
      refine iteF' rfl ?_
      refine ⟨_, rfl, k l H3 hl0 (D3.mono (by omega)) ?_⟩
      rw [← e, Fr.shr_short (spots_nil es)]
      exact hL3
    | cons z zs =>
      refine iteT' rfl ?_
      rw [es] at hd3
      have hda := hH.ne hd0
      have hla := hH.ne hl0
      refine ⟨fun σ' H'' => ∃ l d cur' v, cur'.length < cur.length ∧ σ' = [some (.ref a), some (.ref p), some (.ref l), some (.ref d), v, none] ∧ H'' l = some (.lst (iv cur')) ∧ H'' d = some (.lst (iv (spots cur'))) ∧ H l = none ∧ H d = none ∧
        Drew a c (n + (ns.length - cur'.length)) H H'' ∧ Fr.shr cur' = Fr.shr ns ∧ cur'.length ≤ ns.length, fun σ' H'' ⟨l, d, cur', v, q1, q2⟩ => ⟨_, q1, l, d, cur', v, rfl, q2⟩, ?_⟩
      have hzl : (iv (z :: zs)).length ≤ 1000 := by
        have h1 : (z :: zs).length ≤ cur.length - 1 := by
          rw [← es]
          unfold spots
          exact Nat.le_trans (List.length_filter_le _ _) (by rw [ups_len]; exact Nat.le_refl _)
        rw [List.length_map]
        omega
      refine ⟨_, rfl, _, rfl, a, c, d, _, _, rfl, D3.1, by omega, hda, hd3, by simp, hzl, fun v hv H4 D4 => ?_⟩
      obtain ⟨z', hz', rfl⟩ := List.mem_map.mp hv
      rw [← es] at hz'
      obtain ⟨xs, b, ys, rfl, rfl⟩ := spots_mem hz'
      have hL4 := D4.2 _ _ hla hL3
      have D4' := D3.trans D4
      refine ⟨_, rfl, _, rfl, _, _, rfl, rfl, _, rfl, l, _, rfl, SqL.of hL4, fun p1 hp1 => ?_⟩
      have hL5 := (same_upd (o := .lst (cutV (iv (xs ++ b :: -b :: ys)) none (some (((xs.length + 1 : Nat) : Int) - 1)))) hp1) _ _ hL4
      refine ⟨_, rfl, _, rfl, _, _, rfl, rfl, _, rfl, l, _, rfl, SqL.of hL5, fun p2 hp2 => ?_⟩
      have n12 : p1 ≠ p2 := fun z => by rw [z, upd_same] at hp2; cases hp2
      rw [cut_ahead xs ys b (-b), cut_behind xs ys b (-b)]
      rw [cut_ahead xs ys b (-b)] at hL5 hp2
      have hcl' := hcl
      simp only [List.length_append, List.length_cons] at hcl'
      refine ⟨p1, p2, iv xs, iv ys, rfl, rfl, (by rw [upd_ne n12, upd_same]), upd_same, Evl.sz_of (by simp only [List.length_map]; omega), fun p3 hp3 => ?_⟩
      have D5 := ((D4'.new (o := .lst (iv xs)) hp1).new (o := .lst (iv ys)) hp2).new (o := .lst (iv xs ++ iv ys)) hp3
      have hL6 : L2.upd (L2.upd (L2.upd H4 p1 (.lst (iv xs))) p2 (.lst (iv ys))) p3 (.lst (iv xs ++ iv ys)) p3 = some (.lst (iv (xs ++ ys))) := by
        rw [upd_same]
        simp [iv]
      have hp30 : H p3 = none := ((D4'.new (o := .lst (iv xs)) hp1).new (o := .lst (iv ys)) hp2).back hp3
      refine gen_heap fun H6 e6 => ?_
      rw [← e6] at D5 hL6
      have hb6 : (xs ++ ys).length ≤ 600 := by rw [List.length_append]; omega
      dsimp only
      refine as_lc ?_
      refine lc_in ?_
      refine ⟨_, rfl, p3, _, rfl, .inl (SqL.of hL6), 1, _, rfl, ⟨by decide, by decide, by rw [List.length_map]; omega, by rw [List.length_map]; omega⟩, ?_⟩
      have eN : (((iv (xs ++ ys)).length : Int) - 1).toNat = (xs ++ ys).length - 1 := by rw [List.length_map]; omega
      show tLc (fun _ H R => R (Itr 1 (((iv (xs ++ ys)).length : Int) - 1).toNat) H) _ _ _ _ _ _ _
      rw [eN]
      refine lcp (walk_ups ((xs ++ ys).length - 1)) (fun v => match v with | .int e => spot (xs ++ ys) e | _ => false) id (by rw [List.length_map, ups_len]; omega) (fun _ _ => True.intro) ?_ ?_
      · intro y hy H7 s7 Qy Qn ky kn
        obtain ⟨e, he, rfl⟩ := List.mem_map.mp hy
        obtain ⟨i, hi, rfl⟩ := List.mem_map.mp he
        have hi2 : i + 1 < (xs ++ ys).length := by have := List.mem_range.mp hi; omega
        have hL7 := s7 _ _ hL6
        have i1 : (iv (xs ++ ys))[i + 1]? = some (V.int ((xs ++ ys).getD (i + 1) 0)) := iv_get (by rw [List.getD_eq_getElem?_getD, List.getElem?_eq_getElem hi2]; rfl)
        have i0 : (iv (xs ++ ys))[i]? = some (V.int ((xs ++ ys).getD i 0)) := iv_get (by rw [List.getD_eq_getElem?_getD, List.getElem?_eq_getElem (show i < (xs ++ ys).length by omega)]; rfl)
        have e1 : ((i + 1 : Nat) : Int) - 1 = ((i : Nat) : Int) := by omega
        refine ⟨rfl, ?_⟩
        refine ⟨_, rfl, _, rfl, p3, _, _, _, rfl, rfl, SqL.of hL7, atI_nat i1, _, rfl, _, rfl, _, _, rfl, rfl, p3, _, _, _, rfl, rfl, SqL.of hL7, (by rw [e1]; exact atI_nat i0), _, rfl, rfl, _, rfl, ?_⟩
        have es : decide (V.int ((xs ++ ys).getD (i + 1) 0) = V.int (-((xs ++ ys).getD i 0))) = spot (xs ++ ys) ((i + 1 : Nat) : Int) := by
          rw [int_eq]
          unfold spot
          rw [Int.toNat_natCast]
          rfl
        refine ite2 (fun h => ?_) (fun h => ?_)
        · exact ⟨_, rfl, ky (es.symm.trans h) H7 (fun _ _ e => e)⟩
        · exact kn (by show spot (xs ++ ys) ((i + 1 : Nat) : Int) = false; rw [← es]; exact Bool.eq_false_iff.mpr h) H7 (fun _ _ e => e)
      intro D H7 hD s7 hx
      have exx : (((iv (ups ((xs ++ ys).length - 1))).filter fun v => match v with | .int e => spot (xs ++ ys) e | _ => false).map id) = iv (spots (xs ++ ys)) := by
        rw [List.map_id, iv, List.filter_map]
        rfl
      rw [exx] at hx
      refine ⟨p3, D, xs ++ ys, _, by simp only [List.length_append, List.length_cons]; omega, rfl, s7 _ _ hL6, hx, hp30, D5.back hD, (D5.same s7).mono (by simp only [List.length_append, List.length_cons] at hcl ⊢; omega), ?_, by simp only [List.length_append, List.length_cons] at hcl ⊢; omega⟩
      rw [← e, Fr.shr_out]
end
end W05
set_option Elab.async false
set_option linter.all false
set_option maxRecDepth 100000
set_option maxHeartbeats 2000000
namespace W05
open PySem L2 PySem.Spec PyProof.Rows WR
abbrev sPut : Stmt := top 39
def spPut : Sp := fun vs H Q _ => ∃ (a c p : Addr) (m k : Nat) (ns : List Int) (n : Nat), vs = [.ref a, .ref p, .int (m : Int), .int (k : Int)] ∧ HandAt H a c n ∧ p ≠ a ∧ H p = some (.lst (iv ns)) ∧ m ≤ 10 ∧ ns.length + 2 * m ≤ 600 ∧ n + 3 * m ≤ 8000 ∧ 1 ≤ k ∧ k ≤ 26 ∧ Lts ns ∧
  ∀ q H' ms, H q = none → Drew a c (n + 3 * m) H H' → H' q = some (.lst (iv ms)) → ms.length = ns.length + 2 * m → Lts ms → Q (.ref q) H'
theorem cut_to {ns : List Int} {j : Nat} (h : j ≤ ns.length) : cutV (iv ns) none (some ((j : Nat) : Int)) = iv (ns.take j) := by
  unfold cutV
  rw [HT.sIx_none, HT.sIx_nat, List.drop_zero, Nat.sub_zero, List.length_map, Nat.min_eq_left h, ← List.map_take]
theorem cut_from {ns : List Int} {j : Nat} (h : j ≤ ns.length) : cutV (iv ns) (some ((j : Nat) : Int)) none = iv (ns.drop j) := by
  unfold cutV
  rw [HT.sIx_none, HT.sIx_nat, List.length_map, Nat.min_eq_left h, ← List.map_drop, List.take_of_length_le (by simp)]
abbrev nPut : List Str := ["_law_jar_here", "_law_letters_here", "_law_many", "_law_kinds", "_law_found", "_law_turn", "_law_at", "_law_two"]
section
variable {P : Program} {w : World} {K : PySem.W.Frag} {mg : Str → Option Value} {base : Heap}
theorem scPut : FnScope nPut ["_law_jar_here", "_law_letters_here", "_law_many", "_law_kinds"] (defScope sPut) := ⟨rfl, rfl, rfl, by decide +kernel, rfl, by decide +kernel, by decide +kernel⟩
theorem ok_put {f : Addr} {fd : FuncData} (F : Fun K "_law_put_in" "_law_put_in" sPut f fd) (GT : Cal P w K mg base "_law_draw" 1 ["_law_jar_here", "_law_many"] spTake) (GL : Cal P w K mg base "_law_letters" 2 ["_law_jar_here", "_law_many", "_law_kinds"] spLetters) (T : TxL mg) (TN : TxN mg) :
    FnOk P w K mg base CX0 3 f fd ["_law_jar_here", "_law_letters_here", "_law_many", "_law_kinds"] spPut := by
  refine F.ok scPut (fun vs H Q E h => ?_) (fun cdv A outer s H vs Q E hr h => ?_)
  · obtain ⟨a, c, p, m, k, ns, n, rfl, _⟩ := h
    rfl
  · obtain ⟨a, c, p, m, k, ns, n, rfl, hH, hpa, hS, hm, hlen, hn, k1, k26, hl, kq⟩ := h
    refine ⟨_, pss_cons (ps_set (i := 4) scPut.nd rfl (Or.inl rfl) (pe_callTy call_list_of (by rfl) TN.list (by decide +kernel) (pa_cons (pv 1) pa_nil)))
      (pss_cons (ps_for PassesOwn.never rfl (pi_range1 (by rfl) TN.range (pa_cons (pv 2) pa_nil)) (pg_name (i := 5) scPut.nd rfl (Or.inl rfl))
        (pss_cons (ps_par (i := 6) (j := 7) (by rfl) scPut.nd rfl rfl (by decide) rfl rfl (pa_cons (pe_cal GT hr (by decide) (by rfl) (pa_cons (pv 0) (pa_cons (pe_op op_add (pe_callB call_len_seq (by rfl) T.len PySem.boot_len (pa_cons (pv 4) pa_nil)) pe_int) pa_nil)))
          (pa_cons (pe_cal GL hr (by decide) (by rfl) (pa_cons (pv 0) (pa_cons pe_int (pa_cons (pv 3) pa_nil)))) pa_nil)) (by rfl))
        (pss_one (ps_set (i := 4) scPut.nd rfl (Or.inl rfl) (pe_op op_cat (pe_op op_cat (pe_op op_cat (pe_slice sl_list (pv 4) po_none (po_some (pv 6))) (pv 7)) (pe_lst (pa_cons (pe_un un_neg (pe_ix ix_list (pv 7) pe_int (fun _ _ => rfl))) pa_nil))) (pe_slice sl_list (pv 4) (po_some (pv 6)) po_none))))))
      (pss_one (ps_ret (pv 4)))), ?_⟩
    refine ⟨_, rfl, p, _, rfl, .inl (SqL.of hS), fun l hl0 => ?_⟩
    refine ⟨_, rfl, m, rfl, by omega, by omega, ?_⟩
    have em : (((m : Nat) : Int)).toNat = m := Int.toNat_natCast m
    refine for_range (lo := 0) (n := (((m : Nat) : Int)).toNat) (fun i σ H' => ∃ q v1 v2 v3 ms, σ = [some (.ref a), some (.ref p), some (.int (m : Int)), some (.int (k : Int)), some (.ref q), v1, v2, v3] ∧ H q = none ∧ Drew a c (n + 3 * i) H H' ∧ H' q = some (.lst (iv ms)) ∧ ms.length = ns.length + 2 * i ∧ Lts ms)
      ⟨l, none, none, none, ns, rfl, hl0, (Drew.refl hH).new hl0, upd_same, rfl, hl⟩ ?_ ?_
    · rintro i σ H1 hi ⟨q, v1, v2, v3, ms, rfl, hq0, d1, hQ, hml, hlm⟩
      rw [em] at hi
      have hqa := hH.ne hq0
      refine ⟨_, rfl, _, rfl, q, _, rfl, .inl (SqL.of hQ), _, _, rfl, rfl, a, c, _, n + 3 * i, rfl, d1.1, by omega, by rw [List.length_map]; omega, by rw [List.length_map]; omega, fun H2 z z0 z1 hH2 hK2 => ?_⟩
      rw [List.length_map] at z1
      obtain ⟨j, rfl⟩ : ∃ j : Nat, z = (j : Int) := ⟨z.toNat, by omega⟩
      have hj : j ≤ ms.length := by omega
      have hQ2 := hK2 _ _ hqa hQ
      have d2 : Drew a c (n + 3 * i + 1) H H2 := ⟨hH2, d1.2.trans hK2⟩
      refine ⟨_, rfl, _, rfl, a, c, 1, k, n + 3 * i + 1, rfl, hH2, by omega, by omega, k1, k26, fun r H3 ls hr0 d3 hR hll hk => ?_⟩
      have D3 := d2.trans d3
      have hQ3 := d3.2 _ _ hqa hQ2
      obtain ⟨x, rfl⟩ : ∃ x, ls = [x] := by
        cases ls with
        | nil => simp at hll
        | cons x t =>
          cases t with
          | nil => exact ⟨x, rfl⟩
          | cons y u => simp at hll
      refine ⟨_, _, rfl, ?_⟩
      have szs : (iv ms).length ≤ 600 := by rw [List.length_map]; omega
      refine ⟨_, rfl, _, rfl, _, rfl, q, _, rfl, SqL.of hQ3, fun p1 hp1 => ?_⟩
      rw [cut_to hj]
      have sA : Same H3 (L2.upd H3 p1 (.lst (iv (ms.take j)))) := same_upd hp1
      have hA : L2.upd H3 p1 (.lst (iv (ms.take j))) p1 = some (.lst (iv (ms.take j))) := upd_same
      obtain ⟨HA, eA⟩ : ∃ HA, HA = L2.upd H3 p1 (.lst (iv (ms.take j))) := ⟨_, rfl⟩
      rw [← eA] at sA hA ⊢
      have tl : (ms.take j).length ≤ 600 := by rw [List.length_take]; omega
      refine ⟨_, rfl, p1, r, _, _, rfl, rfl, hA, sA _ _ hR, Evl.sz_of (by simp only [List.length_map, List.length_cons, List.length_nil]; omega), fun p2 hp2 => ?_⟩
      have sB : Same H3 (L2.upd HA p2 (.lst (iv (ms.take j) ++ iv [x]))) := sA.trans (same_upd hp2)
      have hB : L2.upd HA p2 (.lst (iv (ms.take j) ++ iv [x])) p2 = some (.lst (iv (ms.take j) ++ iv [x])) := upd_same
      obtain ⟨HB, eB⟩ : ∃ HB, HB = L2.upd HA p2 (.lst (iv (ms.take j) ++ iv [x])) := ⟨_, rfl⟩
      rw [← eB] at sB hB ⊢
      refine ⟨_, rfl, r, _, 0, _, rfl, rfl, SqL.of (sB _ _ hR), atI_nat (j := 0) (v := V.int x) rfl, x, rfl, (by show 1 ≤ sizeLine; decide), fun p3 hp3 => ?_⟩
      have sC : Same H3 (L2.upd HB p3 (.lst [.int (-x)])) := sB.trans (same_upd hp3)
      have hC : L2.upd HB p3 (.lst [.int (-x)]) p3 = some (.lst [.int (-x)]) := upd_same
      have hB' : L2.upd HB p3 (.lst [.int (-x)]) p2 = some (.lst (iv (ms.take j) ++ iv [x])) := (same_upd hp3) _ _ hB
      obtain ⟨HC, eC⟩ : ∃ HC, HC = L2.upd HB p3 (.lst [.int (-x)]) := ⟨_, rfl⟩
      rw [← eC] at sC hC hB' ⊢
      refine ⟨p2, p3, _, _, rfl, rfl, hB', hC, Evl.sz_of (by simp only [List.length_append, List.length_map, List.length_cons, List.length_nil]; omega), fun p4 hp4 => ?_⟩
      have sD : Same H3 (L2.upd HC p4 (.lst (iv (ms.take j) ++ iv [x] ++ [.int (-x)]))) := sC.trans (same_upd hp4)
      have hD : L2.upd HC p4 (.lst (iv (ms.take j) ++ iv [x] ++ [.int (-x)])) p4 = some (.lst (iv (ms.take j) ++ iv [x] ++ [.int (-x)])) := upd_same
      obtain ⟨HD, eD⟩ : ∃ HD, HD = L2.upd HC p4 (.lst (iv (ms.take j) ++ iv [x] ++ [.int (-x)])) := ⟨_, rfl⟩
      rw [← eD] at sD hD ⊢
      refine ⟨_, rfl, _, rfl, _, rfl, q, _, rfl, SqL.of (sD _ _ hQ3), fun p5 hp5 => ?_⟩
      rw [cut_from hj]
      have sE : Same H3 (L2.upd HD p5 (.lst (iv (ms.drop j)))) := sD.trans (same_upd hp5)
      have hE : L2.upd HD p5 (.lst (iv (ms.drop j))) p5 = some (.lst (iv (ms.drop j))) := upd_same
      have hD' : L2.upd HD p5 (.lst (iv (ms.drop j))) p4 = some (.lst (iv (ms.take j) ++ iv [x] ++ [.int (-x)])) := (same_upd hp5) _ _ hD
      obtain ⟨HE, eE⟩ : ∃ HE, HE = L2.upd HD p5 (.lst (iv (ms.drop j))) := ⟨_, rfl⟩
      rw [← eE] at sE hE hD' ⊢
      have dl : (ms.drop j).length ≤ 600 := by rw [List.length_drop]; omega
      refine ⟨p4, p5, _, _, rfl, rfl, hD', hE, Evl.sz_of (by simp only [List.length_append, List.length_map, List.length_cons, List.length_nil]; omega), fun p6 hp6 => ?_⟩
      have D6 := D3.same (sE.trans (same_upd (o := .lst (iv (ms.take j) ++ iv [x] ++ [.int (-x)] ++ iv (ms.drop j))) hp6))
      refine ⟨p6, _, _, _, ms.take j ++ [x] ++ [-x] ++ ms.drop j, rfl, (D3.same sE).back hp6, D6.mono (by omega), ?_, ?_, ?_⟩
      · rw [upd_same]
        simp [iv]
      · simp only [List.length_append, List.length_take, List.length_drop, List.length_cons, List.length_nil]
        omega
      · intro y hy
        have hx := hk x (by simp)
        simp only [List.mem_append, List.mem_singleton] at hy
        rcases hy with ((hy | rfl) | rfl) | hy
        · exact hlm y (List.mem_of_mem_take hy)
        · omega
        · rw [Int.natAbs_neg]; omega
        · exact hlm y (List.mem_of_mem_drop hy)
    · rintro σ H1 ⟨q, v1, v2, v3, ms, rfl, hq0, d1, hQ, hml, hlm⟩
      rw [em] at d1 hml
      exact ⟨_, rfl, kq q H1 ms hq0 d1 hQ hml hlm⟩
end
end W05
set_option Elab.async false
set_option linter.all false
set_option maxRecDepth 100000
set_option maxHeartbeats 4000000
namespace W05
open PySem L2 PySem.Spec PyProof.Rows WR
abbrev sSR : Stmt := top 40
structure MethW (P : Program) (w : World) (K : PySem.W.Frag) (mg : Str → Option Value) (base : Heap) (C : Addr) (m : Str) (ps : List Str) (sp : Sp) : Prop where
  ex : ∃ (f : Addr) (fd : FuncData), Meth K C m f ∧ FnOk P w K mg base CX0 6 f fd ps sp ∧ Binds K fd ps []
structure AllW (P : Program) (w : World) (K : PySem.W.Frag) (mg : Str → Option Value) (base : Heap) (C : Addr) : Prop where
  con : MethW P w K mg base C "contrary" ["self"] (spOne K C Fr.con)
  sht : MethW P w K mg base C "shortened" ["self"] (spOne K C Fr.shr)
  rnd : MethW P w K mg base C "shortened_round" ["self"] (spOne K C Fr.rnd)
  thn : MethW P w K mg base C "then" ["self", "other"] (spThen K C)
  tms : MethW P w K mg base C "times" ["self", "number"] (spTimes K C)
  mkw : MkW P w K mg base C
  eq : EqW P w K mg base C
  ne : PySem.W.findIn K (.ref C) "__ne__" = some (some (.builtin "object.__ne__"))
section
variable {X : Cx} {C : Addr} {o e : Expr} {es : List Expr} {ta : TE} {t : TA} {m : Str} {ps : List Str} {sp : Sp} {apos pos : Pos} {j : Nat}
theorem pe_w0 {pl : Sem Bool} (M : MethW X.prog X.w X.K X.mg X.base C m ps sp) (c : Cls X.K C) (hr : Room j X.A) (hj : 6 ≤ j) (he : PE X o ta)
    (ht : eval (.Call (.Attribute o m apos) [] [] pos) X.env = (do
      let ov ← eval o X.env
      standAt apos.atName
      let (f, first) ← holding [ov] (getMethod ov m pl)
      callWith pos f first (backTo pos (starEach [] X.env)) (backToKw pos (keywordEach [] X.env))) := by rfl) :
    PE X (.Call (.Attribute o m apos) [] [] pos) (tMeth C m sp [] E0 ta tNil) := by
  obtain ⟨f, fd, hm, F, hb⟩ := M.ex
  exact pe_meth0 he c hm F (hr.mono hj) hb .nil pass0 ht
theorem pe_w1 {pl : Sem Bool} (M : MethW X.prog X.w X.K X.mg X.base C m ps sp) (c : Cls X.K C) (hr : Room j X.A) (hj : 6 ≤ j) (he : PE X o ta) (ha : PA X (e :: es) t)
    (hst : starEach (e :: es) X.env = (false, eval e X.env) :: starEach es X.env := by rfl) (hpl : (backTo pos (starEach es X.env)).any (·.1) = false := by rfl)
    (ht : eval (.Call (.Attribute o m apos) (e :: es) [] pos) X.env = (do
      let ov ← eval o X.env
      standAt apos.atName
      let (f, first) ← holding [ov] (getMethod ov m pl)
      callWith pos f first (backTo pos (starEach (e :: es) X.env)) (backToKw pos (keywordEach [] X.env))) := by rfl) :
    PE X (.Call (.Attribute o m apos) (e :: es) [] pos) (tMeth C m sp [] E0 ta t) := by
  obtain ⟨f, fd, hm, F, hb⟩ := M.ex
  exact pe_meth he c hm F (hr.mono hj) hb .nil pass0 ha hst hpl ht
end
/-- a word is called by a name that is no field of it -/
theorem WordAt.at {K : PySem.W.Frag} {C : Addr} {H : Hp} {p : Addr} {ns : List Int} (h : WordAt K C H p ns) {m : Str} (h1 : ¬ m = "letters") (h2 : ¬ m = "length") (h3 : ¬ m = "kinds") (h4 : ¬ m = "is_short") (h5 : ¬ m = "is_short_round") :
    ∃ dx fs, H p = some (.ins C dx fs) ∧ fs.lookup m = none := by
  obtain ⟨dx, tl, tk, ks, h, _⟩ := h
  exact ⟨dx, _, h, wf_no h1 h2 h3 h4 h5⟩
section
variable {K : PySem.W.Frag} {C : Addr} {H : Hp} {p : Addr} {ns : List Int} {Q : VK}
theorem call_w0 {m : Str} {fn : List Int → List Int} {ta : TE} {σ : L2.St} {H0 : Hp} (h : ta σ H0 fun x H1 => ∃ p ns, x = .ref p ∧ WordAt K C H1 p ns ∧ ns.length ≤ 500 ∧ Lts ns ∧ NewW K C H1 Q (fn ns))
    (h1 : ¬ m = "letters") (h2 : ¬ m = "length") (h3 : ¬ m = "kinds") (h4 : ¬ m = "is_short") (h5 : ¬ m = "is_short_round")
    (mono : ∀ {R R' : VK}, (∀ x H1, R x H1 → R' x H1) → ta σ H0 R → ta σ H0 R') : tMeth C m (spOne K C fn) [] E0 ta tNil σ H0 Q := by
  refine mono (fun x H1 q => ?_) h
  obtain ⟨p, ns, rfl, W, hlen, hl, k⟩ := q
  obtain ⟨dx, fs, hp, hn⟩ := W.at h1 h2 h3 h4 h5
  exact ⟨p, dx, fs, rfl, hp, hn, p, ns, rfl, W, hlen, hl, k⟩
end
theorem nm1 : ¬ (("contrary" : Str) = "letters") ∧ ¬ (("contrary" : Str) = "length") ∧ ¬ (("contrary" : Str) = "kinds") ∧ ¬ (("contrary" : Str) = "is_short") ∧ ¬ (("contrary" : Str) = "is_short_round") := by decide +kernel
theorem nm2 : ¬ (("shortened" : Str) = "letters") ∧ ¬ (("shortened" : Str) = "length") ∧ ¬ (("shortened" : Str) = "kinds") ∧ ¬ (("shortened" : Str) = "is_short") ∧ ¬ (("shortened" : Str) = "is_short_round") := by decide +kernel
theorem nm3 : ¬ (("shortened_round" : Str) = "letters") ∧ ¬ (("shortened_round" : Str) = "length") ∧ ¬ (("shortened_round" : Str) = "kinds") ∧ ¬ (("shortened_round" : Str) = "is_short") ∧ ¬ (("shortened_round" : Str) = "is_short_round") := by decide +kernel
theorem nm4 : ¬ (("then" : Str) = "letters") ∧ ¬ (("then" : Str) = "length") ∧ ¬ (("then" : Str) = "kinds") ∧ ¬ (("then" : Str) = "is_short") ∧ ¬ (("then" : Str) = "is_short_round") := by decide +kernel
theorem nm5 : ¬ (("times" : Str) = "letters") ∧ ¬ (("times" : Str) = "length") ∧ ¬ (("times" : Str) = "kinds") ∧ ¬ (("times" : Str) = "is_short") ∧ ¬ (("times" : Str) = "is_short_round") := by decide +kernel
theorem WordAt.no {K : PySem.W.Frag} {C : Addr} {H : Hp} {p : Addr} {ns : List Int} (h : WordAt K C H p ns) {m : Str} (n : ¬ m = "letters" ∧ ¬ m = "length" ∧ ¬ m = "kinds" ∧ ¬ m = "is_short" ∧ ¬ m = "is_short_round") :
    ∃ dx fs, H p = some (.ins C dx fs) ∧ fs.lookup m = none := h.at n.1 n.2.1 n.2.2.1 n.2.2.2.1 n.2.2.2.2
def spSR : Sp := fun vs H Q _ => ∃ (a c p : Addr) (ns : List Int) (n : Nat), vs = [.ref a, .ref p] ∧ HandAt H a c n ∧ p ≠ a ∧ H p = some (.lst (iv ns)) ∧ ns.length ≤ 250 ∧ n + 2 * ns.length ≤ 9000 ∧ Lts ns ∧ ∀ H', Drew a c (n + 2 * ns.length) H H' → Q (.bl true) H'
abbrev nSR : List Str := ["_law_jar_here", "_law_letters_here", "_law_word", "_law_due", "_law_short", "_law_bare"]
theorem WordAt.drew {K : PySem.W.Frag} {C : Addr} {H H' : Hp} {p a c : Addr} {n : Nat} {ns : List Int} (h : WordAt K C H p ns) (hH : HandAt H a c n) {m : Nat} (d : Drew a c m H H') : WordAt K C H' p ns := by
  have keep : ∀ {q : Addr} {xs : List V}, SqT K H q xs → SqT K H' q xs := by
    intro q xs h
    obtain ⟨cs, i, r, hA, _⟩ := hH
    rcases h with h | h
    · left
      rcases h with h | ⟨o, h⟩
      · exact .inl (d.2 _ _ (fun z => by rw [z, hA] at h; cases h) h)
      · exact .inr ⟨o, d.2 _ _ (fun z => by rw [z, hA] at h; cases h) h⟩
    · exact .inr h
  obtain ⟨dx, tl, tk, ks, h1, h2, h3, h4⟩ := h
  refine ⟨dx, tl, tk, ks, d.2 _ _ (fun z => ?_) h1, keep h2, keep h3, h4⟩
  obtain ⟨cs, i, r, hA, _⟩ := hH
  rw [z, hA] at h1
  cases h1
structure SRst (K : PySem.W.Frag) (C : Addr) (H : Hp) (a c : Addr) (m : Nat) (p q x y z : Addr) (ns : List Int) : Prop where
  hand : HandAt H a c m
  w : WordAt K C H x ns
  ws : WordAt K C H y (Fr.shr ns)
  wb : WordAt K C H z (Fr.rnd ns)
  l : H p = some (.lst (iv ns))
  d : H q = some (.lst (iv (Fr.shr ns)))
theorem SRst.same {K : PySem.W.Frag} {C : Addr} {H H' : Hp} {a c : Addr} {m : Nat} {p q x y z : Addr} {ns : List Int} (h : SRst K C H a c m p q x y z ns) (s : Same H H') : SRst K C H' a c m p q x y z ns :=
  ⟨h.hand.same s, h.w.same s, h.ws.same s, h.wb.same s, s _ _ h.l, s _ _ h.d⟩
theorem SRst.drew {K : PySem.W.Frag} {C : Addr} {H H' : Hp} {a c : Addr} {m m' : Nat} {p q x y z : Addr} {ns : List Int} (h : SRst K C H a c m p q x y z ns) (d : Drew a c m' H H') (hp : p ≠ a) (hq : q ≠ a) : SRst K C H' a c m' p q x y z ns :=
  ⟨d.1, h.w.drew h.hand d, h.ws.drew h.hand d, h.wb.drew h.hand d, d.2 _ _ hp h.l, d.2 _ _ hq h.d⟩
theorem make_at {K : PySem.W.Frag} {C : Addr} {H1 : Hp} {q x dx : Addr} {ms : List Int} {G : Hp → Prop} {E : XK} (nx : H1 x = none) (ndx : H1 dx = none) (hq : SqE K H1 q (iv ms)) (hlen : ms.length ≤ 500) (hl : Lts ms) (k : ∀ H', Same H1 H' → WordAt K C H' x ms → G H') :
    spInit K C [.ref x, .ref q] (L2.upd (L2.upd H1 dx (.own x)) x (.ins C dx [])) (fun v H2 => v = .non ∧ G H2) E := by
  have s0 : Same H1 (L2.upd (L2.upd H1 dx (.own x)) x (.ins C dx [])) := fun b o e => by
    rw [upd_ne (ne_of_none e nx), upd_ne (ne_of_none e ndx)]
    exact e
  exact ⟨H1, x, dx, q, ms, rfl, s0, nx, upd_same, hq, hlen, hl, fun H' s' W' => ⟨rfl, k H' s' W'⟩⟩
theorem eqvL_ints (ns ms : List Int) : PyData.eqv (.list (ns.map .int)) (.list (ms.map .int)) = decide (ns = ms) := by
  show PyData.eqvAll _ _ = _
  exact eqvAll_ints ns ms
theorem eqv_bls (b d : Bool) : PyData.eqv (.list [.bool b, .bool d]) (.list [.bool b, .bool d]) = true := by cases b <;> cases d <;> rfl
theorem no_ne {b : Bool} {A B : Prop} (h : b = true) (k : B) : if (!b) = true then A else B := by rw [h]; exact iteF k
section
variable {P : Program} {w : World} {K : PySem.W.Frag} {mg : Str → Option Value} {base : Heap}
theorem scSR : FnScope nSR ["_law_jar_here", "_law_letters_here"] (defScope sSR) := ⟨rfl, rfl, rfl, by decide +kernel, rfl, by decide +kernel, by decide +kernel⟩
theorem ok_SR {C f : Addr} {fd : FuncData} (F : Fun K "_law_short_right" "_law_short_right" sSR f fd) (T : TxW K mg C) (W : AllW P w K mg base C) (TA : TxA mg) (TL : TxL mg) (TN : TxN mg)
    (GT : Cal P w K mg base "_law_taken_out" 3 ["_law_jar_here", "_law_letters_here"] spTaken) (GE : Cal P w K mg base "_law_ends_off" 1 ["_law_letters_here"] spEnds) :
    FnOk P w K mg base CX0 7 f fd ["_law_jar_here", "_law_letters_here"] spSR := by
  refine F.ok scSR (fun vs H Q E h => ?_) (fun cdv A outer s H vs Q E hr h => ?_)
  · obtain ⟨a, c, p, ns, n, rfl, _⟩ := h
    rfl
  · obtain ⟨a, c, p, ns, n, rfl, hH, hpa, hS, hlen, hn, hl, k⟩ := h
    refine ⟨_, pss_cons (ps_par (i := 2) (j := 3) (by rfl) scSR.nd rfl rfl (by decide) rfl rfl (pa_cons (pe_word W.mkw T hr (by decide) (by rfl) (pa_cons (pv 1) pa_nil)) (pa_cons (pe_cal GT hr (by decide) (by rfl) (pa_cons (pv 0) (pa_cons (pv 1) pa_nil))) pa_nil)) (by rfl))
      (pss_cons (ps_par (i := 4) (j := 5) (by rfl) scSR.nd rfl rfl (by decide) rfl rfl (pa_cons (pe_w0 W.sht T.cl hr (by decide) (pv 2)) (pa_cons (pe_w0 W.rnd T.cl hr (by decide) (pv 2)) pa_nil)) (by rfl))
      (pss_cons (ps_if (PW.pt (pw_or (pt_not (pt_val (pe_callB call_isi (by rfl) T.isin (by decide +kernel) (pa_cons (pv 4) (pa_cons (pe_glob (v := .ref C) (by rfl) T.mgW rfl) pa_nil))))) (pw_or (pt_not (pt_val (pe_callB call_isi (by rfl) T.isin (by decide +kernel) (pa_cons (pv 5) (pa_cons (pe_glob (v := .ref C) (by rfl) T.mgW rfl) pa_nil))))) (pw_or (pt_cmpR (op_neD hr.units) (pe_callTy call_list_of (by rfl) TN.list (by decide +kernel) (pa_cons (pe_fld (pv 4) rfl) pa_nil)) (pv 3) (nomark _)) (pw_or1 (pt_cmpR (op_neD hr.units) (pe_cal GT hr (by decide) (by rfl) (pa_cons (pv 0) (pa_cons (pv 1) pa_nil))) (pv 3) (nomark _))))))) (pss_one (ps_ret pe_bl)) pss_nil)
      (pss_cons (ps_if (PW.pt (pw_or (pt_cmpR (op_neD hr.units) (pe_callTy call_list_of (by rfl) TN.list (by decide +kernel) (pa_cons (pe_fld (pv 5) rfl) pa_nil)) (pe_cal GE hr (by decide) (by rfl) (pa_cons (pv 3) pa_nil)) (nomark _)) (pw_or1 (pt_cmpR (op_neD hr.units) (pe_fld (pv 2) rfl) (pe_callTy call_tuple_of (by rfl) TA.tuple (by decide +kernel) (pa_cons (pv 1) pa_nil)) (nomark _))))) (pss_one (ps_ret pe_bl)) pss_nil)
      (pss_cons (ps_if (PW.pt (pw_or (pt_cmpR op_notBl (pe_fld (pv 4) rfl) pe_bl (nomark _)) (pw_or (pt_cmpR op_notBl (pe_fld (pv 5) rfl) pe_bl (nomark _)) (pw_or (pt_cmpR (op_neW W.eq W.ne T.cm hr (by decide)) (pe_w0 W.sht T.cl hr (by decide) (pv 4)) (pv 4) (nomark _)) (pw_or1 (pt_cmpR (op_neW W.eq W.ne T.cm hr (by decide)) (pe_w0 W.rnd T.cl hr (by decide) (pv 5)) (pv 5) (nomark _))))))) (pss_one (ps_ret pe_bl)) pss_nil)
      (pss_cons (ps_if (PW.pt (pw_or (pt_cmpR (op_neD hr.units) (pe_lst (pa_cons (pe_fld (pv 2) rfl) (pa_cons (pe_fld (pv 2) rfl) pa_nil))) (pe_lst (pa_cons (pe_cmpR (op_eqW W.eq hr (by decide)) (pv 4) (pv 2) (nomark _)) (pa_cons (pe_cmpR (op_eqW W.eq hr (by decide)) (pv 5) (pv 2) (nomark _)) pa_nil))) (nomark _)) (pw_or1 (pt_cmpR (op_neW W.eq W.ne T.cm hr (by decide)) (pe_w0 W.sht T.cl hr (by decide) (pe_w0 W.con T.cl hr (by decide) (pv 2))) (pe_w0 W.con T.cl hr (by decide) (pv 4)) (nomark _))))) (pss_one (ps_ret pe_bl)) pss_nil)
      (pss_one (ps_ret (pe_chain (op_eqW W.eq hr (by decide)) (op_eqW W.eq hr (by decide)) (pe_w0 W.sht T.cl hr (by decide) (pe_w1 W.thn T.cl hr (by decide) (pv 2) (pa_cons (pe_w0 W.con T.cl hr (by decide) (pv 2)) pa_nil))) (pe_word W.mkw T hr (by decide) (by rfl) (pa_cons (pe_lst pa_nil) pa_nil)) (pe_w0 W.rnd T.cl hr (by decide) (pe_w1 W.thn T.cl hr (by decide) (pe_w0 W.con T.cl hr (by decide) (pv 2)) (pa_cons (pv 2) pa_nil))))))))))), ?_⟩
    have lS := hl.shr
    have lR := hl.rnd
    have nS : (Fr.shr ns).length ≤ 250 := Nat.le_trans (shr_len ns) hlen
    have nR : (Fr.rnd ns).length ≤ 250 := Nat.le_trans (rnd_len hl) hlen
    refine ⟨_, rfl, fun x dx0 nx0 ndx0 _ => make_at nx0 ndx0 (.inl (SqL.of hS)) (by omega) hl fun H1 s1 W1 => ?_⟩
    have hH1 := hH.same s1
    refine ⟨_, rfl, _, rfl, a, c, p, ns, n, rfl, hH1, hpa, s1 _ _ hS, by omega, by omega, fun q H2 hq0 d2 hq => ⟨_, _, rfl, ?_⟩⟩
    have hqa := hH1.ne hq0
    have D2 : Drew a c (n + ns.length) H H2 := ((Drew.refl hH).same s1).trans d2
    have w2 := W1.drew hH1 d2
    have hS2 := d2.2 _ _ hpa (s1 _ _ hS)
    -- shortened, shortened round
    obtain ⟨dx, fs, hp, hn1⟩ := w2.no nm2
    refine ⟨_, rfl, x, dx, fs, rfl, hp, hn1, x, ns, rfl, w2, by omega, hl, fun y H3 s3 W3 => ?_⟩
    have w3 := w2.same s3
    obtain ⟨dx, fs, hp, hn1⟩ := w3.no nm3
    refine ⟨_, rfl, x, dx, fs, rfl, hp, hn1, x, ns, rfl, w3, by omega, hl, fun z H4 s4 W4 => ⟨_, _, rfl, ?_⟩⟩
    have s24 := s3.trans s4
    have st4 : SRst K C H4 a c (n + ns.length) p q x y z ns := ⟨D2.1.same s24, w2.same s24, W3.same s4, W4, s24 _ _ hS2, s24 _ _ hq⟩
    have D4 := D2.same s24
    clear hp hn1 w3 w2 hS2 W3 W4 s24 s3 s4
    -- the first test
    refine ⟨_, rfl, _, _, _, _, _, rfl, .own C, st4.ws.tyx T, kit_self C, _, rfl, iteF ?_⟩
    refine ⟨_, rfl, _, _, _, _, _, rfl, .own C, st4.wb.tyx T, kit_self C, _, rfl, iteF ?_⟩
    obtain ⟨dx, tl, tk, ks, h1, h2, _⟩ := id st4.ws
    refine ⟨_, rfl, y, C, dx, _, _, rfl, h1, T.cl, T.nL, wf_letters, tl, _, rfl, .inr h2, fun l5 hl5 => ?_⟩
    have s5 := same_upd (o := .lst (iv (Fr.shr ns))) hl5
    have st5 := st4.same s5
    have D5 := D4.same s5
    have h5 : L2.upd H4 l5 (.lst (iv (Fr.shr ns))) l5 = some (.lst (iv (Fr.shr ns))) := upd_same
    refine ⟨_, rfl, _, _, .lst (SqL.of h5) (dp_iv _), .lst (SqL.of st5.d) (dp_iv _), PySem.W.ke_shaped_ints _, PySem.W.ke_shaped_ints _, _, rfl, ?_⟩
    refine no_ne (by rw [eqvL_ints, decide_eq_true rfl]) ?_
    refine ⟨_, rfl, _, rfl, a, c, p, ns, n + ns.length, rfl, st5.hand, hpa, st5.l, by omega, by omega, fun q2 H6 hq20 d6 hq2 => ?_⟩
    have st6 := st5.drew d6 hpa hqa
    have D6 : Drew a c (n + 2 * ns.length) H H6 := (D5.trans d6).mono (by omega)
    refine ⟨_, rfl, _, _, .lst (SqL.of hq2) (dp_iv _), .lst (SqL.of st6.d) (dp_iv _), PySem.W.ke_shaped_ints _, PySem.W.ke_shaped_ints _, _, rfl, ?_⟩
    refine no_ne (by rw [eqvL_ints, decide_eq_true rfl]) ?_
    clear h1 h2
    -- the second test
    obtain ⟨dx, tl, tk, ks, h1, h2, _⟩ := id st6.wb
    refine ⟨_, rfl, z, C, dx, _, _, rfl, h1, T.cl, T.nL, wf_letters, tl, _, rfl, .inr h2, fun l6 hl6 => ?_⟩
    have s6 := same_upd (o := .lst (iv (Fr.rnd ns))) hl6
    have st7 := st6.same s6
    have D7 := D6.same s6
    have h7 : L2.upd H6 l6 (.lst (iv (Fr.rnd ns))) l6 = some (.lst (iv (Fr.rnd ns))) := upd_same
    refine ⟨_, rfl, q, Fr.shr ns, rfl, st7.d, by omega, fun r H8 hr0 s8 hr8 => ?_⟩
    have st8 := st7.same s8
    have D8 := D7.same s8
    refine ⟨_, _, .lst (SqL.of (s8 _ _ h7)) (dp_iv _), .lst (SqL.of hr8) (dp_iv _), PySem.W.ke_shaped_ints _, PySem.W.ke_shaped_ints _, _, rfl, ?_⟩
    refine no_ne (by rw [eqvL_ints]; exact decide_eq_true rfl) ?_
    clear h1 h2
    obtain ⟨dx, tl, tk, ks, h1, h2, _⟩ := id st8.w
    refine ⟨_, rfl, x, C, dx, _, _, rfl, h1, T.cl, T.nL, wf_letters, _, rfl, p, _, rfl, .inl ⟨SqL.of st8.l, fun l9 hl9 => ?_⟩⟩
    have s9 := same_upd (o := .tup (iv ns)) hl9
    have st9 := st8.same s9
    have D9 := D8.same s9
    refine ⟨_, _, .tup (WR.Same.seqT s9 h2) (dp_iv _), .tup (SqT.of upd_same) (dp_iv _), shaped_ints _, shaped_ints _, _, rfl, ?_⟩
    refine no_ne (by rw [eqv_ints, decide_eq_true rfl]) ?_
    clear h1 h2
    obtain ⟨H9, e9⟩ : ∃ H9, H9 = L2.upd H8 l9 (.tup (iv ns)) := ⟨_, rfl⟩
    rw [← e9] at st9 D9 ⊢
    -- the third test
    obtain ⟨dx, tl, tk, ks, h1, h2, _⟩ := id st9.ws
    refine ⟨_, rfl, y, C, dx, _, _, rfl, h1, T.cl, T.nS, wf_short, _, _, rfl, rfl, _, rfl, ?_⟩
    refine no_ne (by rw [decide_eq_true (Fr.shr_shr ns)]; rfl) ?_
    clear h1 h2
    obtain ⟨dx, tl, tk, ks, h1, h2, _⟩ := id st9.wb
    refine ⟨_, rfl, z, C, dx, _, _, rfl, h1, T.cl, T.nR, wf_round, _, _, rfl, rfl, _, rfl, ?_⟩
    refine no_ne (by rw [decide_eq_true ((Fr.rnd_iff lR.nz).mpr (Fr.rnd_cy hl.nz))]; rfl) ?_
    clear h1 h2
    obtain ⟨dx, fs, hp, hn1⟩ := st9.ws.no nm2
    refine ⟨_, rfl, y, dx, fs, rfl, hp, hn1, y, _, rfl, st9.ws, by omega, lS, fun u Ha sa Wa => ?_⟩
    have sta := st9.same sa
    have Da := D9.same sa
    refine ⟨_, rfl, u, y, _, _, rfl, rfl, Wa, sta.ws, _, rfl, ?_⟩
    refine no_ne (decide_eq_true (Fr.shr_shr ns)) ?_
    clear hp hn1
    obtain ⟨dx, fs, hp, hn1⟩ := sta.wb.no nm3
    refine ⟨_, rfl, z, dx, fs, rfl, hp, hn1, z, _, rfl, sta.wb, by omega, lR, fun u2 Hb sb Wb => ?_⟩
    have stb := sta.same sb
    have Db := Da.same sb
    refine ⟨_, rfl, u2, z, _, _, rfl, rfl, Wb, stb.wb, _, rfl, ?_⟩
    refine no_ne (decide_eq_true ((Fr.rnd_iff lR.nz).mpr (Fr.rnd_cy hl.nz))) ?_
    clear hp hn1
    -- the fourth test
    obtain ⟨dx, tl, tk, ks, h1, h2, _⟩ := id stb.w
    refine ⟨_, rfl, x, C, dx, _, _, rfl, h1, T.cl, T.nS, wf_short, _, rfl, x, C, dx, _, _, rfl, h1, T.cl, T.nR, wf_round, (by show 2 ≤ sizeLine; decide), fun lc hlc => ?_⟩
    clear h1 h2
    have sc := same_upd (o := .lst [.bl (decide (Fr.shr ns = ns)), .bl (decide (Fr.rnd ns = ns))]) hlc
    have stc := stb.same sc
    have Dc := Db.same sc
    have hc : L2.upd Hb lc (.lst [.bl (decide (Fr.shr ns = ns)), .bl (decide (Fr.rnd ns = ns))]) lc = some (.lst [.bl (decide (Fr.shr ns = ns)), .bl (decide (Fr.rnd ns = ns))]) := upd_same
    obtain ⟨Hc, ec⟩ : ∃ Hc, Hc = L2.upd Hb lc (.lst [.bl (decide (Fr.shr ns = ns)), .bl (decide (Fr.rnd ns = ns))]) := ⟨_, rfl⟩
    rw [← ec] at stc Dc hc ⊢
    refine ⟨_, rfl, _, rfl, y, x, _, _, rfl, rfl, stc.ws, stc.w, _, rfl, _, rfl, z, x, _, _, rfl, rfl, stc.wb, stc.w, (by show 2 ≤ sizeLine; decide), fun ld hld => ?_⟩
    have sd := same_upd (o := .lst [.bl (decide (Fr.shr ns = ns)), .bl (decide (Fr.rnd ns = ns))]) hld
    have std := stc.same sd
    have Dd := Dc.same sd
    refine ⟨_, _, .lst (SqL.of (sd _ _ hc)) (.cons (.bl _) (.cons (.bl _) .nil)), .lst (SqL.of upd_same) (.cons (.bl _) (.cons (.bl _) .nil)), rfl, rfl, _, rfl, ?_⟩
    refine no_ne (eqv_bls _ _) ?_
    obtain ⟨Hd, ed⟩ : ∃ Hd, Hd = L2.upd Hc ld (.lst [.bl (decide (Fr.shr ns = ns)), .bl (decide (Fr.rnd ns = ns))]) := ⟨_, rfl⟩
    rw [← ed] at std Dd ⊢
    obtain ⟨dx, fs, hp, hn1⟩ := std.w.no nm1
    refine ⟨_, rfl, x, dx, fs, rfl, hp, hn1, x, ns, rfl, std.w, by omega, hl, fun u3 He se We => ?_⟩
    clear hp hn1
    have ste := std.same se
    have De := Dd.same se
    obtain ⟨dx, fs, hp, hn1⟩ := We.no nm2
    refine ⟨u3, dx, fs, rfl, hp, hn1, u3, _, rfl, We, by rw [Fr.con_length]; omega, hl.con, fun u4 Hf sf Wf => ?_⟩
    clear hp hn1
    have stf := ste.same sf
    have Df := De.same sf
    obtain ⟨dx, fs, hp, hn1⟩ := stf.ws.no nm1
    refine ⟨_, rfl, y, dx, fs, rfl, hp, hn1, y, _, rfl, stf.ws, by omega, lS, fun u5 Hg sg Wg => ?_⟩
    clear hp hn1
    have stg := stf.same sg
    have Dg := Df.same sg
    refine ⟨u4, u5, _, _, rfl, rfl, Wf.same sg, Wg, _, rfl, ?_⟩
    refine no_ne (decide_eq_true (Fr.shr_con ns)) ?_
    -- what is returned
    obtain ⟨dx, fs, hp, hn1⟩ := stg.w.no nm4
    obtain ⟨dx', fs', hp', hn1'⟩ := stg.w.no nm1
    refine ⟨_, rfl, x, dx, fs, rfl, hp, hn1, _, rfl, x, dx', fs', rfl, hp', hn1', x, ns, rfl, stg.w, by omega, hl, fun v1 Hh sh Wh => ?_⟩
    clear hp hn1 hp' hn1'
    have sth := stg.same sh
    have Dh := Dg.same sh
    refine ⟨x, v1, ns, Fr.con ns, rfl, sth.w, Wh, by rw [Fr.con_length]; omega, hl, hl.con, fun v2 Hi si Wi => ?_⟩
    have sti := sth.same si
    have Di := Dh.same si
    obtain ⟨dx, fs, hp, hn1⟩ := Wi.no nm2
    refine ⟨v2, dx, fs, rfl, hp, hn1, v2, _, rfl, Wi, by rw [List.length_append, Fr.con_length]; omega, hl.app hl.con, fun v3 Hj sj Wj => ?_⟩
    clear hp hn1
    have stj := sti.same sj
    have Dj := Di.same sj
    have e1 : Fr.shr (ns ++ Fr.con ns) = [] := (Fr.shr_of_sm (Fr.sm_con ns)).trans rfl
    rw [e1] at Wj
    refine ⟨Nat.zero_le _, fun lk hlk v4 dx0 nx0 ndx0 _ => make_at (ms := []) nx0 ndx0 (.inl (SqL.of upd_same)) (by simp) (fun _ h => nomatch h) fun Hl sl Wl => ?_⟩
    have sk := (same_upd (o := .lst []) hlk).trans sl
    have stl := stj.same sk
    have Dl := Dj.same sk
    refine ⟨v3, v4, _, _, rfl, rfl, Wj.same sk, Wl, _, rfl, iteT' (decide_eq_true rfl) ?_⟩
    obtain ⟨dx, fs, hp, hn1⟩ := stl.w.no nm1
    refine ⟨_, rfl, x, dx, fs, rfl, hp, hn1, x, ns, rfl, stl.w, by omega, hl, fun v5 Hm sm Wm => ?_⟩
    clear hp hn1
    have stm := stl.same sm
    have Dm := Dl.same sm
    obtain ⟨dx, fs, hp, hn1⟩ := Wm.no nm4
    refine ⟨v5, dx, fs, rfl, hp, hn1, _, rfl, v5, x, _, _, rfl, Wm, stm.w, by rw [Fr.con_length]; omega, hl.con, hl, fun v6 Hn sn Wn => ?_⟩
    clear hp hn1
    have Dn := Dm.same sn
    obtain ⟨dx, fs, hp, hn1⟩ := Wn.no nm3
    refine ⟨v6, dx, fs, rfl, hp, hn1, v6, _, rfl, Wn, by rw [List.length_append, Fr.con_length]; omega, hl.con.app hl, fun v7 Ho so Wo => ?_⟩
    have Do := Dn.same so
    have e2 : Fr.rnd (Fr.con ns ++ ns) = [] := by
      rw [Fr.rnd_sm (Fr.sm_con' ns)]
      rfl
    rw [e2] at Wo
    refine ⟨v4, v7, _, _, rfl, rfl, ((Wl.same sm).same sn).same so, Wo, ?_⟩
    rw [decide_eq_true rfl]
    exact k Ho Do
end
end W05
set_option Elab.async false
set_option linter.all false
set_option maxRecDepth 100000
set_option maxHeartbeats 4000000
namespace W05
open PySem L2 PySem.Spec PyProof.Rows WR
abbrev sCore : Stmt := top 42
def spCore : Sp := fun vs H Q _ => ∃ (a c p : Addr) (ns : List Int) (n : Nat), vs = [.ref a, .ref p] ∧ HandAt H a c n ∧ p ≠ a ∧ H p = some (.lst (iv ns)) ∧ ns.length ≤ 100 ∧ n + ns.length ≤ 9000 ∧ Lts ns ∧ ∀ H', Drew a c (n + ns.length + 1) H H' → Q (.bl true) H'
abbrev nCore : List Str := ["_law_jar_here", "_law_letters_here", "_law_due", "_law_bare", "_law_end", "_law_number", "_law_told"]
theorem core_parts (ns : List Int) (nz : Fr.NZ ns) (k : Nat) : ∃ u, Fr.shr ns = u ++ Fr.rnd ns ++ Fr.con u ∧ Fr.shr (Fr.rep (k + 1) ns) = u ++ Fr.rep (k + 1) (Fr.rnd ns) ++ Fr.con u := by
  obtain ⟨u, m, e, c, z⟩ := Fr.parted (Fr.shr ns) nz.shr (Fr.rd_shr ns)
  have er : Fr.rnd ns = m := by
    unfold Fr.rnd
    rw [e, Fr.ends_eq c z]
  rw [er]
  exact ⟨u, e, Fr.shr_core e c z k⟩
section
variable {P : Program} {w : World} {K : PySem.W.Frag} {mg : Str → Option Value} {base : Heap}
theorem scCore : FnScope nCore ["_law_jar_here", "_law_letters_here"] (defScope sCore) := ⟨rfl, rfl, rfl, by decide +kernel, rfl, by decide +kernel, by decide +kernel⟩
theorem ok_core {C f : Addr} {fd : FuncData} (F : Fun K "_law_core_right" "_law_core_right" sCore f fd) (T : TxW K mg C) (W : AllW P w K mg base C) (TL : TxL mg) (TN : TxN mg)
    (GD : Cal P w K mg base "_law_draw" 1 ["_law_jar_here", "_law_many"] spTake) (GT : Cal P w K mg base "_law_taken_out" 3 ["_law_jar_here", "_law_letters_here"] spTaken) (GE : Cal P w K mg base "_law_ends_off" 1 ["_law_letters_here"] spEnds) :
    FnOk P w K mg base CX0 7 f fd ["_law_jar_here", "_law_letters_here"] spCore := by
  refine F.ok scCore (fun vs H Q E h => ?_) (fun cdv A outer s H vs Q E hr h => ?_)
  · obtain ⟨a, c, p, ns, n, rfl, _⟩ := h
    rfl
  · obtain ⟨a, c, p, ns, n, rfl, hH, hpa, hS, hlen, hn, hl, k⟩ := h
    refine ⟨_, pss_cons (ps_set (i := 2) scCore.nd rfl (Or.inl rfl) (pe_cal GT hr (by decide) (by rfl) (pa_cons (pv 0) (pa_cons (pv 1) pa_nil))))
      (pss_cons (ps_set (i := 3) scCore.nd rfl (Or.inl rfl) (pe_cal GE hr (by decide) (by rfl) (pa_cons (pv 2) pa_nil)))
      (pss_cons (ps_par (i := 4) (j := 5) (by rfl) scCore.nd rfl rfl (by decide) rfl rfl (pa_cons (pe_callTy call_int1 (by rfl) TL.int (by decide +kernel) (pa_cons (pe_op op_fdiv (pe_op op_sub (pe_callB call_len_seq (by rfl) TL.len PySem.boot_len (pa_cons (pv 2) pa_nil)) (pe_callB call_len_seq (by rfl) TL.len PySem.boot_len (pa_cons (pv 3) pa_nil))) pe_int) pa_nil)) (pa_cons (pe_op op_add pe_int (pe_cal GD hr (by decide) (by rfl) (pa_cons (pv 0) (pa_cons pe_int pa_nil)))) pa_nil)) (by rfl))
      (pss_cons (ps_set (i := 6) scCore.nd rfl (Or.inl rfl) (pe_w0 W.sht T.cl hr (by decide) (pe_w1 W.tms T.cl hr (by decide) (pe_word W.mkw T hr (by decide) (by rfl) (pa_cons (pv 1) pa_nil)) (pa_cons (pv 5) pa_nil))))
      (pss_one (ps_ret (pe_cmpR (op_eqD hr.units) (pe_callTy call_list_of (by rfl) TN.list (by decide +kernel) (pa_cons (pe_fld (pv 6) rfl) pa_nil)) (pe_op op_cat (pe_op op_cat (pe_slice sl_list (pv 2) po_none (po_some (pv 4))) (pe_op op_rep (pv 3) (pv 5))) (pe_slice sl_list (pv 2) (po_some (pe_op op_sub (pe_callB call_len_seq (by rfl) TL.len PySem.boot_len (pa_cons (pv 2) pa_nil)) (pv 4))) po_none)) (nomark _))))))), ?_⟩
    refine ⟨_, rfl, _, rfl, a, c, p, ns, n, rfl, hH, hpa, hS, by omega, by omega, fun q H1 hq0 D1 hq => ?_⟩
    have hqa := hH.ne hq0
    have nS : (Fr.shr ns).length ≤ 100 := Nat.le_trans (shr_len ns) hlen
    have nR : (Fr.rnd ns).length ≤ 100 := Nat.le_trans (rnd_len hl) hlen
    refine ⟨_, rfl, q, Fr.shr ns, rfl, hq, by omega, fun r H2 hr0 s2 hr2' => ?_⟩
    have hr2 : H2 r = some (.lst (iv (Fr.rnd ns))) := hr2'
    have D2 := D1.same s2
    have hra := D1.1.ne hr0
    refine ⟨_, rfl, q, _, rfl, .inl (SqL.of (s2 _ _ hq)), _, rfl, r, _, rfl, .inl (SqL.of hr2), _, _, rfl, rfl, _, _, rfl, rfl, ⟨by decide, by decide⟩, .inl ⟨_, rfl, ?_⟩⟩
    refine ⟨_, rfl, a, c, 4, n + ns.length, rfl, D2.1, by omega, by decide, by decide, fun H3 z z0 z1 hH3 hK3 => ?_⟩
    obtain ⟨j, rfl⟩ : ∃ j : Nat, z = (j : Int) := ⟨z.toNat, by omega⟩
    have D3 : Drew a c (n + ns.length + 1) H H3 := ⟨hH3, D2.2.trans hK3⟩
    refine ⟨_, _, rfl, rfl, _, _, rfl, ?_⟩
    have hS3 := D3.2 _ _ hpa hS
    have hq3 := hK3 _ _ hqa (s2 _ _ hq)
    have hr3 := hK3 _ _ hra hr2
    -- told
    refine ⟨_, rfl, fun x dx0 nx0 ndx0 _ => make_at nx0 ndx0 (.inl (SqL.of hS3)) (by omega) hl fun H4 s4 W4 => ?_⟩
    obtain ⟨dx, fs, hp, hn1⟩ := W4.no nm5
    have hj : j < 4 := by omega
    have tj : tms (1 + (j : Int)) ns = Fr.rep (j + 1) ns := by
      unfold tms
      rw [if_pos (by omega)]
      congr 1
      omega
    have lj : ns.length * (1 + (j : Int)).natAbs ≤ 400 := by
      have : (1 + (j : Int)).natAbs ≤ 4 := by omega
      exact Nat.mul_le_mul hlen this
    have lr : (Fr.rep (j + 1) ns).length ≤ 400 := by
      rw [Fr.rep_length, Nat.mul_comm]
      have e : (1 + (j : Int)).natAbs = j + 1 := by omega
      rw [e] at lj
      exact lj
    refine ⟨x, dx, fs, rfl, hp, hn1, _, rfl, x, _, ns, rfl, W4, by omega, by omega, hl, fun y H5 s5 W5 => ?_⟩
    rw [tj] at W5
    obtain ⟨dx', fs', hp', hn1'⟩ := W5.no nm2
    refine ⟨y, dx', fs', rfl, hp', hn1', y, _, rfl, W5, by omega, hl.rep _, fun v H6 s6 W6 => ?_⟩
    have s36 := (s4.trans s5).trans s6
    have D6 := D3.same s36
    have hq6 := s36 _ _ hq3
    have hr6 := s36 _ _ hr3
    obtain ⟨dx2, tl, tk, ks, h1, h2, _⟩ := W6
    refine ⟨_, rfl, v, C, dx2, _, _, rfl, h1, T.cl, T.nL, wf_letters, tl, _, rfl, .inr h2, fun l7 hl7 => ?_⟩
    have s7 := same_upd (o := .lst (iv (Fr.shr (Fr.rep (j + 1) ns)))) hl7
    have h7 : L2.upd H6 l7 (.lst (iv (Fr.shr (Fr.rep (j + 1) ns)))) l7 = some (.lst (iv (Fr.shr (Fr.rep (j + 1) ns)))) := upd_same
    have hq7 := s7 _ _ hq6
    have hr7 := s7 _ _ hr6
    have D7 := D6.same s7
    obtain ⟨H7, e7⟩ : ∃ H7, H7 = L2.upd H6 l7 (.lst (iv (Fr.shr (Fr.rep (j + 1) ns)))) := ⟨_, rfl⟩
    rw [← e7] at h7 hq7 hr7 D7 ⊢
    obtain ⟨u, e1, e2⟩ := core_parts ns hl.nz j
    have L0 : (Fr.shr ns).length = 2 * u.length + (Fr.rnd ns).length := by rw [e1, whole_len]
    have L1 : (iv (Fr.shr ns)).length = 2 * u.length + (Fr.rnd ns).length := by rw [List.length_map, e1, whole_len]
    have L2' : (iv (Fr.rnd ns)).length = (Fr.rnd ns).length := List.length_map _
    have hE : (((iv (Fr.shr ns)).length : Int) - ((iv (Fr.rnd ns)).length : Int)) / 2 = ((u.length : Nat) : Int) := by
      rw [L1, L2']
      omega
    have hF : ((iv (Fr.shr ns)).length : Int) - ((u.length : Nat) : Int) = ((u.length + (Fr.rnd ns).length : Nat) : Int) := by
      rw [L1]
      omega
    have cut1 : cutV (iv (Fr.shr ns)) none (some ((((iv (Fr.shr ns)).length : Int) - ((iv (Fr.rnd ns)).length : Int)) / 2)) = iv u := by
      rw [hE, cut_to (by rw [L0]; omega), e1, List.append_assoc, List.take_left]
    have cut2 : cutV (iv (Fr.shr ns)) (some (((iv (Fr.shr ns)).length : Int) - (((iv (Fr.shr ns)).length : Int) - ((iv (Fr.rnd ns)).length : Int)) / 2)) none = iv (Fr.con u) := by
      rw [hE, hF, cut_from (by rw [L0]; omega), e1, List.drop_append]
      simp
    have tn : (1 + (j : Int)).toNat = j + 1 := by omega
    have lu : u.length ≤ 100 := by rw [List.length_map] at L1; omega
    refine ⟨_, rfl, _, rfl, _, rfl, q, _, rfl, SqL.of hq7, fun p1 hp1 => ?_⟩
    have hA : L2.upd H7 p1 (.lst (cutV (iv (Fr.shr ns)) none (some ((((iv (Fr.shr ns)).length : Int) - ((iv (Fr.rnd ns)).length : Int)) / 2)))) p1 = some (.lst (iv u)) := by rw [upd_same, cut1]
    have sA : Same H7 (L2.upd H7 p1 (.lst (cutV (iv (Fr.shr ns)) none (some ((((iv (Fr.shr ns)).length : Int) - ((iv (Fr.rnd ns)).length : Int)) / 2))))) := same_upd hp1
    refine gen_heap fun HA eA => ?_
    rw [← eA] at hA sA
    refine ⟨_, rfl, _, rfl, r, _, _, rfl, rfl, sA _ _ hr7, by omega, by omega, Evl.sz_of (by rw [tn, List.length_map]; have := Nat.mul_le_mul nR (show j + 1 ≤ 4 by omega); omega), fun p2 hp2 => ?_⟩
    have hB : L2.upd HA p2 (.lst (List.replicate (1 + (j : Int)).toNat (iv (Fr.rnd ns))).flatten) p2 = some (.lst (iv (Fr.rep (j + 1) (Fr.rnd ns)))) := by rw [upd_same, tn, rep_flat]
    have sB : Same HA (L2.upd HA p2 (.lst (List.replicate (1 + (j : Int)).toNat (iv (Fr.rnd ns))).flatten)) := same_upd hp2
    refine gen_heap fun HB eB => ?_
    rw [← eB] at hB sB
    have lrr : (Fr.rep (j + 1) (Fr.rnd ns)).length ≤ 400 := by
      rw [Fr.rep_length]
      have := Nat.mul_le_mul (show j + 1 ≤ 4 by omega) nR
      omega
    refine ⟨p1, p2, _, _, rfl, rfl, sB _ _ hA, hB, Evl.sz_of (by simp only [List.length_map]; omega), fun p3 hp3 => ?_⟩
    have hC : L2.upd HB p3 (.lst (iv u ++ iv (Fr.rep (j + 1) (Fr.rnd ns)))) p3 = some (.lst (iv u ++ iv (Fr.rep (j + 1) (Fr.rnd ns)))) := upd_same
    have sC : Same HB (L2.upd HB p3 (.lst (iv u ++ iv (Fr.rep (j + 1) (Fr.rnd ns))))) := same_upd hp3
    refine gen_heap fun HC eC => ?_
    rw [← eC] at hC sC
    have s7C := (sA.trans sB).trans sC
    have hqC := s7C _ _ hq7
    refine ⟨_, rfl, _, rfl, q, _, rfl, .inl (SqL.of hqC), _, rfl, _, _, rfl, rfl, _, rfl, q, _, rfl, SqL.of hqC, fun p4 hp4 => ?_⟩
    have hD : L2.upd HC p4 (.lst (cutV (iv (Fr.shr ns)) (some (((iv (Fr.shr ns)).length : Int) - (((iv (Fr.shr ns)).length : Int) - ((iv (Fr.rnd ns)).length : Int)) / 2)) none)) p4 = some (.lst (iv (Fr.con u))) := by rw [upd_same, cut2]
    have sD : Same HC (L2.upd HC p4 (.lst (cutV (iv (Fr.shr ns)) (some (((iv (Fr.shr ns)).length : Int) - (((iv (Fr.shr ns)).length : Int) - ((iv (Fr.rnd ns)).length : Int)) / 2)) none))) := same_upd hp4
    refine gen_heap fun HD eD => ?_
    rw [← eD] at hD sD
    refine ⟨p3, p4, _, _, rfl, rfl, sD _ _ hC, hD, Evl.sz_of (by simp only [List.length_append, List.length_map, Fr.con_length]; omega), fun p5 hp5 => ?_⟩
    have sE : Same HD (L2.upd HD p5 (.lst (iv u ++ iv (Fr.rep (j + 1) (Fr.rnd ns)) ++ iv (Fr.con u)))) := same_upd hp5
    have s7E := (s7C.trans sD).trans sE
    refine ⟨_, _, .lst (SqL.of (s7E _ _ h7)) (dp_iv _), .lst (SqL.of (xs := iv (u ++ Fr.rep (j + 1) (Fr.rnd ns) ++ Fr.con u)) (by rw [upd_same]; simp [iv])) (dp_iv _), PySem.W.ke_shaped_ints _, PySem.W.ke_shaped_ints _, ?_⟩
    rw [eqvL_ints, decide_eq_true e2]
    exact k _ ((D7.same s7E).mono (by omega))
end
end W05
set_option Elab.async false
set_option linter.all false
set_option maxRecDepth 100000
set_option maxHeartbeats 4000000
namespace W05
open PySem L2 PySem.Spec PyProof.Rows WR
abbrev sGreat : Stmt := top 43
def spGreat : Sp := fun vs H Q _ => ∃ (a c : Addr) (n : Nat), vs = [.ref a] ∧ HandAt H a c n ∧ n ≤ 5000 ∧ ∀ H', Q (.bl true) H'
abbrev nGreat : List Str := ["_law_jar_here", "_law_half", "_law_middle", "_law_word", "_law_due", "_law_found", "_law_letter"]
theorem Lts.of {ls : List Int} {k : Nat} (hk : k ≤ 26) (h : ∀ x ∈ ls, 1 ≤ x.natAbs ∧ x.natAbs ≤ k) : Lts ls := fun x hx => by
  have := h x hx
  omega
theorem WordAt.kept {K : PySem.W.Frag} {C : Addr} {H H' : Hp} {p l : Addr} {ns : List Int} {vs : List V} (h : WordAt K C H p ns) (hl : H l = some (.lst vs)) (d : Kept l H H') : WordAt K C H' p ns := by
  have keep : ∀ {q : Addr} {xs : List V}, SqT K H q xs → SqT K H' q xs := by
    intro q xs h
    rcases h with h | h
    · left
      rcases h with h | ⟨o, h⟩
      · exact .inl (d _ _ (fun z => by rw [z, hl] at h; cases h) h)
      · exact .inr ⟨o, d _ _ (fun z => by rw [z, hl] at h; cases h) h⟩
    · exact .inr h
  obtain ⟨dx, tl, tk, ks, h1, h2, h3, h4⟩ := h
  refine ⟨dx, tl, tk, ks, d _ _ (fun z => ?_) h1, keep h2, keep h3, h4⟩
  rw [z, hl] at h1
  cases h1
section
variable {P : Program} {w : World} {K : PySem.W.Frag} {mg : Str → Option Value} {base : Heap}
theorem scGreat : FnScope nGreat ["_law_jar_here"] (defScope sGreat) := ⟨rfl, rfl, rfl, by decide +kernel, rfl, by decide +kernel, by decide +kernel⟩
theorem ok_great {C f : Addr} {fd : FuncData} (F : Fun K "_law_great_right" "_law_great_right" sGreat f fd) (T : TxW K mg C) (W : AllW P w K mg base C) (TL : TxL mg) (TN : TxN mg)
    (GD : Cal P w K mg base "_law_draw" 1 ["_law_jar_here", "_law_many"] spTake) (GL : Cal P w K mg base "_law_letters" 2 ["_law_jar_here", "_law_many", "_law_kinds"] spLetters) (GC : Cal P w K mg base "_law_contrary" 1 ["_law_letters_here"] spConL)
    (GT : Cal P w K mg base "_law_taken_out" 3 ["_law_jar_here", "_law_letters_here"] spTaken) (GE : Cal P w K mg base "_law_ends_off" 1 ["_law_letters_here"] spEnds) :
    FnOk P w K mg base CX0 7 f fd ["_law_jar_here"] spGreat := by
  refine F.ok scGreat (fun vs H Q E h => ?_) (fun cdv A outer s H vs Q E hr h => ?_)
  · obtain ⟨a, c, n, rfl, _⟩ := h
    rfl
  · obtain ⟨a, c, n, rfl, hH, hn, k⟩ := h
    refine ⟨_, pss_cons (ps_set (i := 1) scGreat.nd rfl (Or.inl rfl) (pe_cal GL hr (by decide) (by rfl) (pa_cons (pv 0) (pa_cons (pe_op op_sub pe_int (pe_cal GD hr (by decide) (by rfl) (pa_cons (pv 0) (pa_cons (pe_int) (pa_nil))))) (pa_cons (pe_int) (pa_nil))))))
      (pss_cons (ps_set (i := 2) scGreat.nd rfl (Or.inl rfl) (pe_cal GL hr (by decide) (by rfl) (pa_cons (pv 0) (pa_cons (pe_op op_sub pe_int (pe_op op_mul pe_int (pe_callB call_len_seq (by rfl) TL.len PySem.boot_len (pa_cons (pv 1) pa_nil)))) (pa_cons (pe_int) (pa_nil))))))
      (pss_cons (ps_set (i := 3) scGreat.nd rfl (Or.inl rfl) (pe_word W.mkw T hr (by decide) (by rfl) (pa_cons (pe_op op_cat (pe_op op_cat (pv 1) (pv 2)) (pe_cal GC hr (by decide) (by rfl) (pa_cons (pv 1) (pa_nil)))) pa_nil)))
      (pss_cons (ps_par (i := 4) (j := 5) (by rfl) scGreat.nd rfl rfl (by decide) rfl rfl (pa_cons (pv 2) (pa_cons (pe_lst pa_nil) pa_nil)) (by rfl))
      (pss_cons (ps_for PassesOwn.never rfl (pi_list (pe_op op_cat (pe_op op_cat (pv 1) (pe_cal GT hr (by decide) (by rfl) (pa_cons (pv 0) (pa_cons (pv 4) (pa_nil))))) (pe_cal GC hr (by decide) (by rfl) (pa_cons (pv 1) (pa_nil))))) (pg_name (i := 6) scGreat.nd rfl (Or.inl rfl)) (pss_one (ps_if (PW.pt (pw_and (pt_cmpR (op_neD hr.units) (pv 5) (pe_lst pa_nil) (nomark _)) (pw_and1 (pt_cmpR op_eq (pe_ix ix_list (pv 5) (pe_un un_neg pe_int) (fun _ _ => rfl)) (pe_un un_neg (pv 6)) (nomark _))))) (pss_one (ps_expr (pe_bm0 PySem.F.plainAttrs_list PySem.F.slot_list_pop PySem.F.type_list_pop mt_pop (pv 5)))) (pss_one (ps_expr (pe_bm PySem.F.plainAttrs_list PySem.F.slot_list_append PySem.F.type_list_append mt_append (pv 5) (pa_cons (pv 6) pa_nil)))))))
      (pss_one (ps_ret (pe_and (pe_cmpR (op_eqD hr.units) (pe_callTy call_list_of (by rfl) TN.list (by decide +kernel) (pa_cons (pe_fld (pe_w0 W.sht T.cl hr (by decide) (pv 3)) rfl) pa_nil)) (pv 5) (nomark _)) (pe_one (pe_cmpR (op_eqD hr.units) (pe_callTy call_list_of (by rfl) TN.list (by decide +kernel) (pa_cons (pe_fld (pe_w0 W.rnd T.cl hr (by decide) (pv 3)) rfl) pa_nil)) (pe_cal GE hr (by decide) (by rfl) (pa_cons (pv 5) (pa_nil))) (nomark _)))))))))), ?_⟩
    refine ⟨_, rfl, _, rfl, a, c, 3, n, rfl, hH, by omega, by decide, by decide, fun H1 z z0 z1 hH1 hK1 => ?_⟩
    obtain ⟨j, rfl⟩ : ∃ j : Nat, z = (j : Int) := ⟨z.toNat, by omega⟩
    have hj : j < 3 := by omega
    have e250 : (250 : Int) - (j : Int) = ((250 - j : Nat) : Int) := by omega
    refine ⟨_, _, rfl, rfl, a, c, 250 - j, 3, n + 1, by show [V.ref a, V.int (250 - (j : Int)), V.int 3] = _; rw [e250]; rfl, hH1, by omega, by omega, by decide, by decide, fun p H2 hs hp0 d2 hp hsl hsk => ?_⟩
    have lh := Lts.of (by decide) hsk
    have hpa := hH1.ne hp0
    have e500 : (500 : Int) - 2 * ((iv hs).length : Int) = ((2 * j : Nat) : Int) := by rw [List.length_map]; omega
    refine ⟨_, rfl, _, rfl, p, _, rfl, .inl (SqL.of hp), _, _, rfl, rfl, .inl ⟨by decide, by decide⟩, _, _, rfl, rfl, a, c, 2 * j, 2, n + 1 + 2 * (250 - j), by show [V.ref a, V.int (500 - 2 * ((iv hs).length : Int)), V.int 2] = _; rw [e500]; rfl, d2.1, by omega, by omega, by decide, by decide, fun q H3 ms hq0 d3 hq hml hmk => ?_⟩
    have lm := Lts.of (by decide) hmk
    have hqa := d2.1.ne hq0
    have hp3 := d3.2 _ _ hpa hp
    have hH3 := d3.1
    have l1 : (iv hs).length ≤ 250 := by rw [List.length_map]; omega
    have l2 : (iv ms).length ≤ 10 := by rw [List.length_map]; omega
    refine ⟨_, rfl, _, rfl, p, q, _, _, rfl, rfl, hp3, hq, Evl.sz_of (by omega), fun p1 hp1 => ?_⟩
    have s4 := same_upd (o := .lst (iv hs ++ iv ms)) hp1
    have h4 : L2.upd H3 p1 (.lst (iv hs ++ iv ms)) p1 = some (.lst (iv hs ++ iv ms)) := upd_same
    obtain ⟨H4, e4⟩ : ∃ H4, H4 = L2.upd H3 p1 (.lst (iv hs ++ iv ms)) := ⟨_, rfl⟩
    rw [← e4] at s4 h4 ⊢
    refine ⟨_, rfl, p, hs, rfl, s4 _ _ hp3, by omega, fun r H5 hr0 s5 hr5 => ?_⟩
    have lc : (iv (Fr.con hs)).length ≤ 250 := by rw [List.length_map, Fr.con_length]; omega
    refine ⟨p1, r, _, _, rfl, rfl, s5 _ _ h4, hr5, Evl.sz_of (by rw [List.length_append]; omega), fun p2 hp2 x dx0 nx0 ndx0 _ => ?_⟩
    have h6 : L2.upd H5 p2 (.lst (iv hs ++ iv ms ++ iv (Fr.con hs))) p2 = some (.lst (iv (hs ++ ms ++ Fr.con hs))) := by rw [upd_same]; simp [iv]
    have s36 := (s4.trans s5).trans (same_upd (o := .lst (iv hs ++ iv ms ++ iv (Fr.con hs))) hp2)
    have lw : Lts (hs ++ ms ++ Fr.con hs) := (lh.app lm).app lh.con
    have nw : (hs ++ ms ++ Fr.con hs).length ≤ 500 := by simp only [List.length_append, Fr.con_length]; omega
    refine make_at nx0 ndx0 (.inl (SqL.of h6)) nw lw fun H7 s7 W7 => ?_
    have s37 := s36.trans s7
    have hp7 := s37 _ _ hp3
    have hq7 := s37 _ _ hq
    have hH7 := hH3.same s37
    refine ⟨_, rfl, Nat.zero_le _, fun l hl => ⟨_, _, rfl, ?_⟩⟩
    have s8 := same_upd (o := .lst []) hl
    have h8 : L2.upd H7 l (.lst []) l = some (.lst []) := upd_same
    have W8 := W7.same s8
    have hp8 := s8 _ _ hp7
    have hq8 := s8 _ _ hq7
    have hH8 := hH7.same s8
    obtain ⟨H8, e8⟩ : ∃ H8, H8 = L2.upd H7 l (.lst []) := ⟨_, rfl⟩
    rw [← e8] at h8 W8 hp8 hq8 hH8 ⊢
    have hla : l ≠ a := hH7.ne hl
    have hlc : l ≠ c := hH7.neC hl
    refine ⟨_, rfl, _, rfl, _, rfl, a, c, q, ms, _, rfl, hH8, hqa, hq8, by omega, by omega, fun t H9 ht0 d9 ht => ?_⟩
    have hp9 := d9.2 _ _ hpa hp8
    have h9 := d9.2 _ _ hla h8
    have W9 := W8.drew hH8 d9
    have nt : (iv (Fr.shr ms)).length ≤ 10 := by rw [List.length_map]; have := shr_len ms; omega
    refine ⟨p, t, _, _, rfl, rfl, hp9, ht, Evl.sz_of (by omega), fun p3 hp3' => ?_⟩
    have sA := same_upd (o := .lst (iv hs ++ iv (Fr.shr ms))) hp3'
    have hA : L2.upd H9 p3 (.lst (iv hs ++ iv (Fr.shr ms))) p3 = some (.lst (iv hs ++ iv (Fr.shr ms))) := upd_same
    obtain ⟨HA, eA⟩ : ∃ HA, HA = L2.upd H9 p3 (.lst (iv hs ++ iv (Fr.shr ms))) := ⟨_, rfl⟩
    rw [← eA] at sA hA ⊢
    refine ⟨_, rfl, p, hs, rfl, sA _ _ hp9, by omega, fun r2 HB hr20 sB hrB => ?_⟩
    refine ⟨p3, r2, _, _, rfl, rfl, sB _ _ hA, hrB, Evl.sz_of (by rw [List.length_append]; omega), fun p4 hp4 => ?_⟩
    have sC := same_upd (o := .lst (iv hs ++ iv (Fr.shr ms) ++ iv (Fr.con hs))) hp4
    obtain ⟨ws, ews⟩ : ∃ ws, ws = hs ++ Fr.shr ms ++ Fr.con hs := ⟨_, rfl⟩
    have hC : L2.upd HB p4 (.lst (iv hs ++ iv (Fr.shr ms) ++ iv (Fr.con hs))) p4 = some (.lst (iv ws)) := by rw [upd_same, ews]; simp [iv]
    have s9C := (sA.trans sB).trans sC
    have WC := W9.same s9C
    have hlC := s9C _ _ h9
    obtain ⟨HC, eC⟩ : ∃ HC, HC = L2.upd HB p4 (.lst (iv hs ++ iv (Fr.shr ms) ++ iv (Fr.con hs))) := ⟨_, rfl⟩
    rw [← eC] at hC s9C WC hlC ⊢
    have hlp4 : l ≠ p4 := by
      intro z
      have := (sA.trans sB) _ _ h9
      rw [z, hp4] at this
      cases this
    have nw2 : ws.length ≤ 600 := by
      rw [ews]
      simp only [List.length_append, Fr.con_length]
      have := shr_len ms
      omega
    have eS : Fr.shr ws = Fr.shr (hs ++ ms ++ Fr.con hs) := by
      rw [ews]
      exact Fr.shr_of_sm (Fr.Sm.mid (Fr.sm_shr ms))
    have nS : (Fr.shr (hs ++ ms ++ Fr.con hs)).length ≤ 500 := Nat.le_trans (shr_len _) nw
    refine ⟨p4, rfl, ⟨_, SqL.of hC⟩, for_list (K := K) (a := p4) (xs := iv ws) (fun i σ H' => ∃ v, σ = [some (.ref a), some (.ref p), some (.ref q), some (.ref x), some (.ref q), some (.ref l), v] ∧ WordAt K C H' x (hs ++ ms ++ Fr.con hs) ∧ H' p4 = some (.lst (iv ws)) ∧ H' l = some (.lst (iv (Fr.act [] (ws.take i)).reverse)))
      ⟨none, rfl, WC, hC, hlC⟩ (fun i σ H' _ ⟨_, _, _, h, _⟩ => SqL.of h) ?_ ?_⟩
    · rintro i y σ H1 hi ⟨v, rfl, W1, hw, hL⟩
      obtain ⟨x0, hx, rfl⟩ : ∃ x0, ws[i]? = some x0 ∧ y = V.int x0 := by
        rw [List.getElem?_map] at hi
        cases e : ws[i]? with
        | none => rw [e] at hi; cases hi
        | some x0 => rw [e] at hi; exact ⟨x0, rfl, (Option.some.inj hi).symm⟩
      have hi2 : i < ws.length := (List.getElem?_eq_some_iff.mp hx).1
      have nx := act_take hx
      have hsz : (Fr.act [] (ws.take i)).length ≤ 1000 := by
        have := act_len (ws.take i) []
        rw [List.length_take] at this
        simp at this
        omega
      refine ⟨_, rfl, Nat.zero_le _, fun e he => ?_⟩
      have sN := same_upd (o := .lst []) he
      have W2 := W1.same sN
      have hw2 := sN _ _ hw
      have hL2 := sN _ _ hL
      refine ⟨_, _, .lst (SqL.of hL2) (dp_iv _), .lst (SqL.of upd_same) .nil, PySem.W.ke_shaped_ints _, rfl, _, rfl, ?_⟩
      obtain ⟨H2, e2⟩ : ∃ H2, H2 = L2.upd H1 e (.lst []) := ⟨_, rfl⟩
      rw [← e2] at W2 hw2 hL2 ⊢
      have put : ∀ xs, WordAt K C (L2.upd H2 l (.lst xs)) x (hs ++ ms ++ Fr.con hs) ∧ L2.upd H2 l (.lst xs) p4 = some (.lst (iv ws)) := fun xs => ⟨W2.kept hL2 Kept.upd, by rw [upd_ne hlp4.symm]; exact hw2⟩
      cases est : Fr.act [] (ws.take i) with
      | nil =>
        rw [est] at hL2 nx
        refine iteF' rfl ?_
        refine iteF ?_
        refine ⟨_, rfl, .inl ⟨rfl, _, SqL.of hL2⟩, _, rfl, l, _, _, rfl, rfl, hL2, Evl.sz_lt (by simp), ?_⟩
        exact ⟨_, rfl, (put _).1, (put _).2, by rw [upd_same, nx]; rfl⟩
      | cons b t =>
        rw [est] at hL2 nx hsz
        have eL : iv (b :: t).reverse = iv t.reverse ++ [V.int b] := by simp [iv]
        have ene : PyData.eqv (.list ((b :: t).reverse.map .int)) (.list []) = false := by
          have := eqvL_ints (b :: t).reverse []
          rw [show (PyData.list []) = .list (([] : List Int).map .int) from rfl, this]
          exact decide_eq_false (by simp)
        refine iteT' (by rw [ene]; rfl) ?_
        refine ⟨_, rfl, _, rfl, l, _, _, _, rfl, rfl, SqL.of hL2, (by rw [eL]; exact atI_last _ _), _, rfl, x0, rfl, rfl, _, rfl, ?_⟩
        refine ite2 (fun hb => ?_) (fun hb => ?_)
        · have eb : b = -x0 := by
            have := of_decide_eq_true hb
            injection this
          refine ⟨_, rfl, .inl ⟨rfl, _, SqL.of hL2⟩, l, _, V.int b, rfl, rfl, hL2, (by rw [eL]; simp), ?_⟩
          refine ⟨_, rfl, (put _).1, (put _).2, ?_⟩
          rw [upd_same, nx]
          have : Fr.push (b :: t) x0 = t := by simp [Fr.push, eb]
          rw [this, eL, List.dropLast_concat]
        · have eb : ¬ b = -x0 := fun e => hb (decide_eq_true (by rw [e]))
          refine ⟨_, rfl, .inl ⟨rfl, _, SqL.of hL2⟩, _, rfl, l, _, _, rfl, rfl, hL2, Evl.sz_lt (by simp [iv] at hsz ⊢; omega), ?_⟩
          refine ⟨_, rfl, (put _).1, (put _).2, ?_⟩
          rw [upd_same, nx]
          have : Fr.push (b :: t) x0 = x0 :: b :: t := by simp [Fr.push, eb]
          rw [this]
          simp [iv]
    · rintro σ H1 ⟨v, rfl, W1, hw, hL⟩
      rw [List.take_of_length_le (by simp)] at hL
      have hL' : H1 l = some (.lst (iv (Fr.shr (hs ++ ms ++ Fr.con hs)))) := by rw [← eS]; exact hL
      obtain ⟨dx, fs, hp', hn1⟩ := W1.no nm2
      refine ⟨_, rfl, x, dx, fs, rfl, hp', hn1, x, _, rfl, W1, nw, lw, fun y H2 s2 W2 => ?_⟩
      obtain ⟨dx2, tl, tk, ks, h1, h2, _⟩ := W2
      refine ⟨y, C, dx2, _, _, rfl, h1, T.cl, T.nL, wf_letters, tl, _, rfl, .inr h2, fun l3 hl3 => ?_⟩
      have s3 := same_upd (o := .lst (iv (Fr.shr (hs ++ ms ++ Fr.con hs)))) hl3
      have hL3 := s3 _ _ (s2 _ _ hL')
      refine ⟨_, rfl, _, _, .lst (SqL.of upd_same) (dp_iv _), .lst (SqL.of hL3) (dp_iv _), PySem.W.ke_shaped_ints _, PySem.W.ke_shaped_ints _, _, rfl, ?_⟩
      refine iteT' (by rw [eqvL_ints, decide_eq_true rfl]) ?_
      have W3 := (W1.same s2).same s3
      obtain ⟨H3', e3'⟩ : ∃ H3', H3' = L2.upd H2 l3 (.lst (iv (Fr.shr (hs ++ ms ++ Fr.con hs)))) := ⟨_, rfl⟩
      rw [← e3'] at W3 hL3 ⊢
      obtain ⟨dx, fs, hp', hn1⟩ := W3.no nm3
      refine ⟨_, rfl, x, dx, fs, rfl, hp', hn1, x, _, rfl, W3, nw, lw, fun z H4' s4' W4' => ?_⟩
      obtain ⟨dx4, tl4, tk4, ks4, h14, h24, _⟩ := W4'
      refine ⟨z, C, dx4, _, _, rfl, h14, T.cl, T.nL, wf_letters, tl4, _, rfl, .inr h24, fun l5 hl5 => ?_⟩
      have s5' := same_upd (o := .lst (iv (Fr.rnd (hs ++ ms ++ Fr.con hs)))) hl5
      have h5' : L2.upd H4' l5 (.lst (iv (Fr.rnd (hs ++ ms ++ Fr.con hs)))) l5 = some (.lst (iv (Fr.rnd (hs ++ ms ++ Fr.con hs)))) := upd_same
      refine ⟨_, rfl, l, _, rfl, s5' _ _ (s4' _ _ hL3), by omega, fun r6 H6' hr60 s6' hr6 => ?_⟩
      refine ⟨_, _, .lst (SqL.of (s6' _ _ h5')) (dp_iv _), .lst (SqL.of hr6) (dp_iv _), PySem.W.ke_shaped_ints _, PySem.W.ke_shaped_ints _, ?_⟩
      rw [eqvL_ints]
      have : decide (Fr.rnd (hs ++ ms ++ Fr.con hs) = Fr.ends (Fr.shr (hs ++ ms ++ Fr.con hs))) = true := decide_eq_true rfl
      rw [this]
      exact k _
end
end W05
set_option Elab.async false
set_option linter.all false
set_option maxRecDepth 100000
set_option maxHeartbeats 4000000
namespace W05
open PySem L2 PySem.Spec PyProof.Rows WR
abbrev sBehind : Stmt := top 41
def spBehind : Sp := fun vs H Q _ => ∃ (a c p q : Addr) (ns ms : List Int) (n : Nat), vs = [.ref a, .ref p, .ref q] ∧ HandAt H a c n ∧ p ≠ a ∧ q ≠ a ∧ H p = some (.lst (iv ns)) ∧ H q = some (.lst (iv ms)) ∧ ns.length ≤ 100 ∧ ms.length ≤ 100 ∧ n + 2 * ns.length + ms.length + 1 ≤ 9000 ∧ Lts ns ∧ Lts ms ∧
  ∀ H', Drew a c (n + 2 * ns.length + ms.length + 1) H H' → Q (.bl true) H'
abbrev nBehind : List Str := ["_law_jar_here", "_law_letters_here", "_law_others", "_law_word", "_law_other", "_law_whole", "_law_number", "_law_moved", "_law_bare", "_law_at"]
theorem ret_lc {r : R2} {ta : TE} {wi : TI} {g : TG} {tt : TT} {te : TE} {vs : List Nat} {D : Ends} {σ : L2.St} {H : Hp} (h : ta σ H fun x H1 => wi σ H1 fun J H2 => tLc (fun _ H R => R J H) g tt te vs σ H2 fun y H3 => r x y H3 D.rt) : tRet (tOp r ta (tLc wi g tt te vs)) D σ H := h
theorem SqT.keptL {K : PySem.W.Frag} {H H' : Hp} {l q : Addr} {vs xs : List V} (hl : H l = some (.lst vs)) (d : Kept l H H') (h : SqT K H q xs) : SqT K H' q xs := by
  rcases h with h | h
  · left
    rcases h with h | ⟨o, h⟩
    · exact .inl (d _ _ (fun z => by rw [z, hl] at h; cases h) h)
    · exact .inr ⟨o, d _ _ (fun z => by rw [z, hl] at h; cases h) h⟩
  · exact .inr h
theorem dp_all {K : PySem.W.Frag} {H : Hp} : ∀ (rs : List Addr) (ts : List (List Int)), rs.length = ts.length → (∀ (j : Nat) (r : Addr) (t : List Int), rs[j]? = some r → ts[j]? = some t → SqT K H r (iv t)) → DpAll K H (rs.map V.ref) (ts.map fun t => PyData.tuple (t.map .int))
  | [], [], _, _ => .nil
  | [], _ :: _, h, _ => by simp at h
  | _ :: _, [], h, _ => by simp at h
  | r :: rs, t :: ts, h, k => .cons (.tup (k 0 r t rfl rfl) (dp_iv t)) (dp_all rs ts (by simpa using h) fun j r t h1 h2 => k (j + 1) r t (by simpa using h1) (by simpa using h2))
theorem lay_tups : ∀ ts : List (List Int), PyData.canLayAll0 (ts.map fun t => PyData.tuple (t.map .int)) = true ∧ PyData.depthAll (ts.map fun t => PyData.tuple (t.map .int)) ≤ 1
  | [] => ⟨rfl, by simp [PyData.depthAll]⟩
  | t :: r => by
    obtain ⟨h1, h2⟩ := lay_tups r
    obtain ⟨h3, h4⟩ := lay_ints t
    refine ⟨by simp [PyData.canLayAll0, PyData.canLay0, h1, h3], ?_⟩
    simp only [List.map_cons, PyData.depthAll, PyData.depth, h4]
    omega
theorem shaped_tups (ts : List (List Int)) : SeqAt.shaped (.list (ts.map fun t => PyData.tuple (t.map .int))) = true := by
  obtain ⟨h1, h2⟩ := lay_tups ts
  simp [SeqAt.shaped, PyData.canLay0, PyData.depth, h1]
  omega
theorem turn_mem {R R' : List Int} (h : Fr.Trn R R') (h0 : 0 < R.length) : R' ∈ (List.range R.length).map fun j => R.drop j ++ R.take j := by
  obtain ⟨u, v, e1, e2⟩ := h
  by_cases hv : v = []
  · refine List.mem_map.mpr ⟨0, List.mem_range.mpr h0, ?_⟩
    subst hv
    rw [e2, e1]
    simp
  · have : 0 < v.length := List.length_pos_iff.mpr hv
    refine List.mem_map.mpr ⟨u.length, List.mem_range.mpr (by rw [e1, List.length_append]; omega), ?_⟩
    rw [e2, e1, List.drop_left, List.take_left]
theorem tms_len (N : Int) (ns : List Int) : (tms N ns).length = N.natAbs * ns.length := by
  unfold tms
  split
  · exact Fr.rep_length _ _
  · rw [Fr.rep_length, Fr.con_length]
theorem Lts.tms {ns : List Int} (h : Lts ns) (N : Int) : Lts (W05.tms N ns) := by
  unfold W05.tms
  split
  · exact h.rep _
  · exact h.con.rep _
theorem tms_shr (N : Int) (ns : List Int) : Fr.shr (tms N (Fr.shr ns)) = Fr.shr (tms N ns) := by
  unfold tms
  split
  · exact Fr.shr_rep _ _
  · rw [← Fr.shr_con]
    exact Fr.shr_rep _ _
structure BHst (K : PySem.W.Frag) (C : Addr) (H : Hp) (a c : Addr) (m : Nat) (p q x y : Addr) (ns ms : List Int) : Prop where
  hand : HandAt H a c m
  wx : WordAt K C H x ns
  wy : WordAt K C H y ms
  l : H p = some (.lst (iv ns))
  o : H q = some (.lst (iv ms))
theorem BHst.same {K : PySem.W.Frag} {C : Addr} {H H' : Hp} {a c : Addr} {m : Nat} {p q x y : Addr} {ns ms : List Int} (h : BHst K C H a c m p q x y ns ms) (s : Same H H') : BHst K C H' a c m p q x y ns ms :=
  ⟨h.hand.same s, h.wx.same s, h.wy.same s, s _ _ h.l, s _ _ h.o⟩
theorem BHst.drew {K : PySem.W.Frag} {C : Addr} {H H' : Hp} {a c : Addr} {m m' : Nat} {p q x y : Addr} {ns ms : List Int} (h : BHst K C H a c m p q x y ns ms) (d : Drew a c m' H H') (hp : p ≠ a) (hq : q ≠ a) : BHst K C H' a c m' p q x y ns ms :=
  ⟨d.1, h.wx.drew h.hand d, h.wy.drew h.hand d, d.2 _ _ hp h.l, d.2 _ _ hq h.o⟩
theorem call_tupleK {X : Cx} {K : PySem.W.Frag} (h : X.K = K) : CallR X (.type "tuple") (fun xs H Q => ∃ p ys, xs = [.ref p] ∧ ((SqL K H p ys ∧ ∀ l, H l = none → Q (.ref l) (L2.upd H l (.tup ys))) ∨ (SqT K H p ys ∧ Q (.ref p) H))) := h ▸ call_tuple_of
theorem slL {X : Cx} {K : PySem.W.Frag} (h : X.K = K) : SlR X (rSlL K) := h ▸ sl_list
theorem units65 {j : Nat} {A : Around} (hr : Room j A) (h : 1 ≤ j) : A.units + 65 < cLine := by
  have := (hr.mono h).in1.units
  exact this
section
variable {P : Program} {w : World} {K : PySem.W.Frag} {mg : Str → Option Value} {base : Heap}
theorem scBehind : FnScope nBehind ["_law_jar_here", "_law_letters_here", "_law_others"] (defScope sBehind) := ⟨rfl, rfl, rfl, by decide +kernel, rfl, by decide +kernel, by decide +kernel⟩
theorem ok_behind {C f : Addr} {fd : FuncData} (F : Fun K "_law_behind_right" "_law_behind_right" sBehind f fd) (T : TxW K mg C) (W : AllW P w K mg base C) (TA : TxA mg) (TL : TxL mg) (TN : TxN mg)
    (GD : Cal P w K mg base "_law_draw" 1 ["_law_jar_here", "_law_many"] spTake) (GT : Cal P w K mg base "_law_taken_out" 3 ["_law_jar_here", "_law_letters_here"] spTaken) (GE : Cal P w K mg base "_law_ends_off" 1 ["_law_letters_here"] spEnds) :
    FnOk P w K mg base CX0 7 f fd ["_law_jar_here", "_law_letters_here", "_law_others"] spBehind := by
  refine F.ok scBehind (fun vs H Q E h => ?_) (fun cdv A outer s H vs Q E hr h => ?_)
  · obtain ⟨a, c, p, q, ns, ms, n, rfl, _⟩ := h
    rfl
  · obtain ⟨a, c, p, q, ns, ms, n, rfl, hH, hpa, hqa, hp, hq, hn, hm, hb, hl, hl2, k⟩ := h
    refine ⟨_, pss_cons (ps_par (i := 3) (j := 4) (by rfl) scBehind.nd rfl rfl (by decide) rfl rfl (pa_cons (pe_word W.mkw T hr (by decide) (by rfl) (pa_cons (pv 1) pa_nil)) (pa_cons (pe_word W.mkw T hr (by decide) (by rfl) (pa_cons (pv 2) pa_nil)) pa_nil)) (by rfl))
      (pss_cons (ps_set (i := 5) scBehind.nd rfl (Or.inl rfl) (pe_w0 W.sht T.cl hr (by decide) (pe_w1 W.thn T.cl hr (by decide) (pv 3) (pa_cons (pv 4) pa_nil))))
      (pss_cons (ps_if (PW.pt (pw_or (pt_cmpR (op_neW W.eq W.ne T.cm hr (by decide)) (pv 5) (pe_w0 W.sht T.cl hr (by decide) (pe_w1 W.thn T.cl hr (by decide) (pe_w0 W.sht T.cl hr (by decide) (pv 3)) (pa_cons (pe_w0 W.sht T.cl hr (by decide) (pv 4)) pa_nil))) (nomark _)) (pw_or1 (pt_cmpR (op_neD hr.units) (pe_callTy call_list_of (by rfl) TN.list (by decide +kernel) (pa_cons (pe_fld (pv 5) rfl) pa_nil)) (pe_cal GT hr (by decide) (by rfl) (pa_cons (pv 0) (pa_cons (pe_op op_cat (pv 1) (pv 2)) (pa_nil)))) (nomark _))))) (pss_one (ps_ret (pe_bl))) pss_nil)
      (pss_cons (ps_set (i := 6) scBehind.nd rfl (Or.inl rfl) (pe_op op_sub (pe_cal GD hr (by decide) (by rfl) (pa_cons (pv 0) (pa_cons (pe_int) (pa_nil)))) pe_int))
      (pss_cons (ps_if (pt_cmpR (op_neW W.eq W.ne T.cm hr (by decide)) (pe_w0 W.sht T.cl hr (by decide) (pe_w1 W.tms T.cl hr (by decide) (pv 3) (pa_cons (pv 6) pa_nil))) (pe_w0 W.sht T.cl hr (by decide) (pe_w1 W.tms T.cl hr (by decide) (pe_w0 W.sht T.cl hr (by decide) (pv 3)) (pa_cons (pv 6) pa_nil))) (nomark _)) (pss_one (ps_ret (pe_bl))) pss_nil)
      (pss_cons (ps_set (i := 7) scBehind.nd rfl (Or.inl rfl) (pe_w0 W.rnd T.cl hr (by decide) (pe_w1 W.thn T.cl hr (by decide) (pe_w1 W.thn T.cl hr (by decide) (pv 4) (pa_cons (pv 3) pa_nil)) (pa_cons (pe_w0 W.con T.cl hr (by decide) (pv 4)) pa_nil))))
      (pss_cons (ps_set (i := 8) scBehind.nd rfl (Or.inr rfl) (pe_cal GE hr (by decide) (by rfl) (pa_cons (pe_cal GT hr (by decide) (by rfl) (pa_cons (pv 0) (pa_cons (pv 1) (pa_nil)))) (pa_nil))))
      (pss_cons (ps_if (pt_cmpR (op_eqD hr.units) (pv 8) (pe_lst pa_nil) (nomark _)) (pss_one (ps_ret (pe_cmpR (op_eqW W.eq hr (by decide)) (pv 7) (pe_word W.mkw T hr (by decide) (by rfl) (pa_cons (pe_lst pa_nil) pa_nil)) (nomark _)))) pss_nil)
      (pss_one (ps_ret (pe_cmpR (op_inD (units65 hr (by decide))) (pe_callTy call_tuple_of (by rfl) TA.tuple (by decide +kernel) (pa_cons (pe_fld (pv 7) rfl) pa_nil)) (pe_lc (own := [("_law_at", 9)]) (g := gName 9) (tt := tYes) rfl scBehind.nd (pi_range1 (by rfl) TN.range (pa_cons (pe_callB call_len_seq (by rfl) TL.len PySem.boot_len (pa_cons (pv 8) pa_nil)) pa_nil)) (blkOk_by (N := nBehind) (sc := defScope sBehind) (by decide +kernel)) (fun _ _ _ _ _ => pg_name (i := 9) scBehind.nd rfl (Or.inl rfl)) (fun _ _ _ _ _ => pts_nil) (fun _ _ _ _ _ => pe_callTy (call_tupleK (K := K) rfl) (by rfl) TA.tuple (by decide +kernel) (pa_cons (pe_op op_cat (pe_slice (slL (K := K) rfl) (pv 8) (po_some (pv 9)) po_none) (pe_slice (slL (K := K) rfl) (pv 8) po_none (po_some (pv 9)))) pa_nil))) (by rfl))))))))))), ?_⟩
    have lS := hl.shr
    have lS2 := hl2.shr
    have nS : (Fr.shr ns).length ≤ 100 := Nat.le_trans (shr_len ns) hn
    have nS2 : (Fr.shr ms).length ≤ 100 := Nat.le_trans (shr_len ms) hm
    have nA : (ns ++ ms).length ≤ 200 := by rw [List.length_append]; omega
    have nA' : (Fr.shr (ns ++ ms)).length ≤ 200 := Nat.le_trans (shr_len _) nA
    refine ⟨_, rfl, fun x dx0 nx0 ndx0 _ => make_at nx0 ndx0 (.inl (SqL.of hp)) (by omega) hl fun H1 s1 W1 => ?_⟩
    refine ⟨_, rfl, fun y dx1 ny0 ndy0 _ => make_at ny0 ndy0 (.inl (SqL.of (s1 _ _ hq))) (by omega) hl2 fun H2 s2 W2 => ⟨_, _, rfl, ?_⟩⟩
    have s12 := s1.trans s2
    have st2 : BHst K C H2 a c n p q x y ns ms := ⟨hH.same s12, W1.same s2, W2, s12 _ _ hp, s12 _ _ hq⟩
    have D2 : Drew a c n H H2 := (Drew.refl hH).same s12
    -- the whole
    obtain ⟨dx, fs, h1, h2⟩ := st2.wx.no nm4
    refine ⟨_, rfl, x, dx, fs, rfl, h1, h2, _, rfl, x, y, ns, ms, rfl, st2.wx, st2.wy, by omega, hl, hl2, fun u H3 s3 W3 => ?_⟩
    obtain ⟨dx, fs, h1, h2⟩ := W3.no nm2
    refine ⟨u, dx, fs, rfl, h1, h2, u, _, rfl, W3, by omega, hl.app hl2, fun v H4 s4 W4 => ?_⟩
    have s24 := s3.trans s4
    have st4 := st2.same s24
    have D4 := D2.same s24
    -- shortened before
    obtain ⟨dx, fs, h1, h2⟩ := st4.wx.no nm2
    refine ⟨_, rfl, _, rfl, x, dx, fs, rfl, h1, h2, x, ns, rfl, st4.wx, by omega, hl, fun a1 H5 s5 W5 => ?_⟩
    have st5 := st4.same s5
    obtain ⟨dx, fs, h1, h2⟩ := W5.no nm4
    obtain ⟨dy, gs, h3, h4⟩ := st5.wy.no nm2
    refine ⟨a1, dx, fs, rfl, h1, h2, _, rfl, y, dy, gs, rfl, h3, h4, y, ms, rfl, st5.wy, by omega, hl2, fun a2 H6 s6 W6 => ?_⟩
    have st6 := st5.same s6
    refine ⟨a1, a2, _, _, rfl, W5.same s6, W6, by omega, lS, lS2, fun a3 H7 s7 W7 => ?_⟩
    have st7 := st6.same s7
    obtain ⟨dx, fs, h1, h2⟩ := W7.no nm2
    refine ⟨a3, dx, fs, rfl, h1, h2, a3, _, rfl, W7, by rw [List.length_append]; omega, lS.app lS2, fun a4 H8 s8 W8 => ?_⟩
    have s48 := ((s5.trans s6).trans s7).trans s8
    have st8 := st4.same s48
    have D8 := D4.same s48
    have Wv8 := W4.same s48
    refine ⟨v, a4, _, _, rfl, rfl, Wv8, W8, _, rfl, ?_⟩
    refine no_ne (decide_eq_true (Fr.shr_app ns ms).symm) ?_
    -- taken out in any order
    obtain ⟨dx, tl, tk, ks, h1, h2, _⟩ := id Wv8
    refine ⟨_, rfl, v, C, dx, _, _, rfl, h1, T.cl, T.nL, wf_letters, tl, _, rfl, .inr h2, fun l9 hl9 => ?_⟩
    have s9 := same_upd (o := .lst (iv (Fr.shr (ns ++ ms)))) hl9
    have h9 : L2.upd H8 l9 (.lst (iv (Fr.shr (ns ++ ms)))) l9 = some (.lst (iv (Fr.shr (ns ++ ms)))) := upd_same
    have st9 := st8.same s9
    have D9 := D8.same s9
    obtain ⟨H9, e9⟩ : ∃ H9, H9 = L2.upd H8 l9 (.lst (iv (Fr.shr (ns ++ ms)))) := ⟨_, rfl⟩
    rw [← e9] at h9 st9 D9 ⊢
    refine ⟨_, rfl, _, rfl, _, rfl, p, q, _, _, rfl, rfl, st9.l, st9.o, Evl.sz_of (by simp only [List.length_map]; omega), fun pc hpc => ?_⟩
    have sA := same_upd (o := .lst (iv ns ++ iv ms)) hpc
    have hA : L2.upd H9 pc (.lst (iv ns ++ iv ms)) pc = some (.lst (iv (ns ++ ms))) := by rw [upd_same]; simp [iv]
    have hpca := st9.hand.ne hpc
    have stA := st9.same sA
    have DA := D9.same sA
    have hA9 := sA _ _ h9
    obtain ⟨HA, eA⟩ : ∃ HA, HA = L2.upd H9 pc (.lst (iv ns ++ iv ms)) := ⟨_, rfl⟩
    rw [← eA] at hA stA DA hA9 ⊢
    refine ⟨a, c, pc, ns ++ ms, n, rfl, stA.hand, hpca, hA, by omega, by rw [List.length_append]; omega, fun r HB hr0 dB hrB => ?_⟩
    have stB := stA.drew dB hpa hqa
    have DB := DA.trans dB
    have hl9a : l9 ≠ a := st8.hand.ne hl9
    have hB9 := dB.2 _ _ hl9a hA9
    refine ⟨_, _, .lst (SqL.of hB9) (dp_iv _), .lst (SqL.of hrB) (dp_iv _), PySem.W.ke_shaped_ints _, PySem.W.ke_shaped_ints _, _, rfl, ?_⟩
    refine no_ne (by rw [eqvL_ints, decide_eq_true rfl]) ?_
    have hBh := dB.1
    -- so many times
    refine ⟨_, rfl, a, c, 7, _, rfl, hBh, by rw [List.length_append]; omega, by decide, by decide, fun HC z z0 z1 hHC hKC => ⟨_, _, rfl, rfl, ?_⟩⟩
    have dC : Drew a c (n + (ns ++ ms).length + 1) HB HC := ⟨hHC, hKC⟩
    have stC := stB.drew dC hpa hqa
    have DC := DB.trans dC
    obtain ⟨N, eN⟩ : ∃ N : Int, N = z - 3 := ⟨_, rfl⟩
    have hN : N.natAbs ≤ 3 := by omega
    have tl1 : (tms N ns).length ≤ 300 := by
      rw [tms_len]
      have := Nat.mul_le_mul hN hn
      omega
    have tl2 : (tms N (Fr.shr ns)).length ≤ 300 := by
      rw [tms_len]
      have := Nat.mul_le_mul hN nS
      omega
    have tb1 : ns.length * N.natAbs ≤ 500 := by rw [Nat.mul_comm, ← tms_len]; omega
    have tb2 : (Fr.shr ns).length * N.natAbs ≤ 500 := by rw [Nat.mul_comm, ← tms_len]; omega
    obtain ⟨dx, fs, h1, h2⟩ := stC.wx.no nm5
    refine ⟨_, rfl, x, dx, fs, rfl, h1, h2, _, rfl, x, N, ns, by rw [eN]; rfl, stC.wx, by omega, tb1, hl, fun b1 HD sD WD => ?_⟩
    have stD := stC.same sD
    obtain ⟨dx, fs, h1, h2⟩ := WD.no nm2
    refine ⟨b1, dx, fs, rfl, h1, h2, b1, _, rfl, WD, by omega, hl.tms N, fun b2 HE sE WE => ?_⟩
    have stE := stD.same sE
    obtain ⟨dx, fs, h1, h2⟩ := stE.wx.no nm2
    refine ⟨_, rfl, x, dx, fs, rfl, h1, h2, x, ns, rfl, stE.wx, by omega, hl, fun b3 HF sF WF => ?_⟩
    have stF := stE.same sF
    obtain ⟨dx, fs, h1, h2⟩ := WF.no nm5
    refine ⟨b3, dx, fs, rfl, h1, h2, _, rfl, b3, N, _, by rw [eN]; rfl, WF, by omega, tb2, lS, fun b4 HG sG WG => ?_⟩
    have stG := stF.same sG
    obtain ⟨dx, fs, h1, h2⟩ := WG.no nm2
    refine ⟨b4, dx, fs, rfl, h1, h2, b4, _, rfl, WG, by omega, lS.tms N, fun b5 HI sI WI => ?_⟩
    have stI := stG.same sI
    have sEI := (sF.trans sG).trans sI
    have DI := DC.same ((sD.trans sE).trans sEI)
    refine ⟨b2, b5, _, _, rfl, rfl, WE.same sEI, WI, _, rfl, ?_⟩
    refine no_ne (decide_eq_true (tms_shr N ns).symm) ?_
    -- moved
    obtain ⟨dx, fs, h1, h2⟩ := stI.wy.no nm4
    refine ⟨_, rfl, y, dx, fs, rfl, h1, h2, _, rfl, y, x, ms, ns, rfl, stI.wy, stI.wx, by omega, hl2, hl, fun c1 HJ sJ WJ => ?_⟩
    have stJ := stI.same sJ
    obtain ⟨dx, fs, h1, h2⟩ := WJ.no nm4
    obtain ⟨dy, gs, h3, h4⟩ := stJ.wy.no nm1
    refine ⟨c1, dx, fs, rfl, h1, h2, _, rfl, y, dy, gs, rfl, h3, h4, y, ms, rfl, stJ.wy, by omega, hl2, fun c2 HK sK WK => ?_⟩
    have stK := stJ.same sK
    have nM : (ms ++ ns ++ Fr.con ms).length ≤ 300 := by simp only [List.length_append, Fr.con_length]; omega
    have lM : Lts (ms ++ ns ++ Fr.con ms) := (hl2.app hl).app hl2.con
    refine ⟨c1, c2, _, _, rfl, WJ.same sK, WK, by simp only [List.length_append, Fr.con_length]; omega, hl2.app hl, hl2.con, fun c3 HL sL WL => ?_⟩
    have stL := stK.same sL
    obtain ⟨dx, fs, h1, h2⟩ := WL.no nm3
    refine ⟨c3, dx, fs, rfl, h1, h2, c3, _, rfl, WL, by omega, lM, fun c4 HM sM WM => ?_⟩
    have stM := stL.same sM
    have DM := DI.same (((sJ.trans sK).trans sL).trans sM)
    have nR' : (Fr.rnd (ms ++ ns ++ Fr.con ms)).length ≤ 300 := Nat.le_trans (rnd_len lM) nM
    -- bare
    have nL : (ns ++ ms).length = ns.length + ms.length := List.length_append
    refine ⟨_, rfl, _, rfl, a, c, p, ns, _, rfl, stM.hand, hpa, stM.l, by omega, by omega, fun d1 HN hd10 dN hd1 => ?_⟩
    have stN := stM.drew dN hpa hqa
    have DN := DM.trans dN
    have WN := WM.drew stM.hand dN
    have nR : (Fr.rnd ns).length ≤ 100 := Nat.le_trans (rnd_len hl) hn
    refine ⟨d1, Fr.shr ns, rfl, hd1, by omega, fun d2 HO' hd20 sO hd2' => ?_⟩
    have hd2 : HO' d2 = some (.lst (iv (Fr.rnd ns))) := hd2'
    have WO := WN.same sO
    have DO := DN.same sO
    refine ⟨_, rfl, Nat.zero_le _, fun l3 hl3 => ?_⟩
    have sP := same_upd (o := .lst []) hl3
    have hP := sP _ _ hd2
    have WP := WO.same sP
    have DP := DO.same sP
    refine ⟨_, _, .lst (SqL.of hP) (dp_iv _), .lst (SqL.of (xs := iv []) upd_same) .nil, PySem.W.ke_shaped_ints _, rfl, _, rfl, ?_⟩
    obtain ⟨HP, eP⟩ : ∃ HP, HP = L2.upd HO' l3 (.lst []) := ⟨_, rfl⟩
    rw [← eP] at hP WP DP ⊢
    have mv := Fr.rnd_moved ms ns hl2.nz hl.nz
    have enil : PyData.eqv (.list ((Fr.rnd ns).map .int)) (.list []) = decide (Fr.rnd ns = []) := eqvL_ints (Fr.rnd ns) []
    have fin : ∀ H', Same HP H' → Q (.bl true) H' := fun H' s' => k H' ((DP.same s').mono (by omega))
    by_cases hR : Fr.rnd ns = []
    · refine iteT' (by rw [enil]; exact decide_eq_true hR) ?_
      refine ⟨_, rfl, Nat.zero_le _, fun lk hlk v4 dx0 nx0 ndx0 _ => make_at (ms := []) nx0 ndx0 (.inl (SqL.of upd_same)) (by simp) (fun _ h => nomatch h) fun Hl sl Wl => ?_⟩
      have sk := (same_upd (o := .lst []) hlk).trans sl
      have eR : Fr.rnd (ms ++ ns ++ Fr.con ms) = [] := by
        rw [hR] at mv
        obtain ⟨u, v, e1, e2⟩ := mv
        have e3 : u = [] ∧ v = [] := by
          cases u with
          | nil => exact ⟨rfl, by simpa using e1.symm⟩
          | cons b t => simp at e1
        rw [e2, e3.1, e3.2]
        rfl
      refine ⟨c4, v4, _, _, rfl, rfl, WP.same sk, Wl, ?_⟩
      rw [decide_eq_true eR]
      exact fin Hl sk
    · refine iteF' (by rw [enil]; exact decide_eq_false hR) ?_
      have hL0 : 0 < (Fr.rnd ns).length := List.length_pos_iff.mpr hR
      obtain ⟨dx, tl, tk, ks, h1, h2, _⟩ := id WP
      unfold tNext
      dsimp only
      refine ret_lc ?_
      refine ⟨_, rfl, c4, C, dx, _, _, rfl, h1, T.cl, T.nL, wf_letters, tl, _, rfl, .inr ⟨h2, ?_⟩⟩
      refine ⟨_, rfl, d2, _, rfl, .inl (SqL.of hP), _, rfl, by rw [List.length_map]; omega, by rw [List.length_map]; omega, ?_⟩
      have eL : (((iv (Fr.rnd ns)).length : Nat) : Int).toNat = (Fr.rnd ns).length := by rw [Int.toNat_natCast, List.length_map]
      show tLc (fun _ H R => R (Itr 0 (((iv (Fr.rnd ns)).length : Nat) : Int).toNat) H) _ _ _ _ _ _ _
      rw [eL]
      intro D hD
      refine lc_it (walk_range (lo := 0) (n := (Fr.rnd ns).length)) (fun i H => Same HP H ∧ ∃ rs : List Addr, H D = some (.lst (rs.map V.ref)) ∧ rs.length = i ∧ ∀ j r, rs[j]? = some r → SqT K H r (iv ((Fr.rnd ns).drop j ++ (Fr.rnd ns).take j)))
        ⟨same_upd hD, [], by rw [upd_same]; rfl, rfl, fun j r h => by simp at h⟩ (fun _ _ _ _ => True.intro) ?_ ?_
      · rintro i y H1 H1' hi ⟨sm, rs, hDl, hrl, hrs⟩ ⟨rfl, rfl⟩
        have e0 : (0 : Int) + (i : Int) = ((i : Nat) : Int) := by omega
        have h8 := sm _ _ hP
        refine ⟨rfl, yes_te ?_⟩
        refine ⟨_, rfl, _, rfl, _, rfl, d2, _, rfl, SqL.of h8, fun p1 hp1 => ?_⟩
        have sA := same_upd (o := .lst (cutV (iv (Fr.rnd ns)) (some (0 + (i : Int))) none)) hp1
        have hA : L2.upd H1' p1 (.lst (cutV (iv (Fr.rnd ns)) (some (0 + (i : Int))) none)) p1 = some (.lst (iv ((Fr.rnd ns).drop i))) := by rw [upd_same, e0, cut_from (by omega)]
        refine gen_heap fun HA eA => ?_
        rw [← eA] at sA hA
        refine ⟨_, rfl, _, rfl, _, rfl, d2, _, rfl, SqL.of (sA _ _ h8), fun p2 hp2 => ?_⟩
        have sB := same_upd (o := .lst (cutV (iv (Fr.rnd ns)) none (some (0 + (i : Int))))) hp2
        have hB : L2.upd HA p2 (.lst (cutV (iv (Fr.rnd ns)) none (some (0 + (i : Int))))) p2 = some (.lst (iv ((Fr.rnd ns).take i))) := by rw [upd_same, e0, cut_to (by omega)]
        refine gen_heap fun HB eB => ?_
        rw [← eB] at sB hB
        refine ⟨p1, p2, _, _, rfl, rfl, sB _ _ hA, hB, Evl.sz_of (by simp only [List.length_map, List.length_drop, List.length_take]; omega), fun p3 hp3 => ?_⟩
        have sC := same_upd (o := .lst (iv ((Fr.rnd ns).drop i) ++ iv ((Fr.rnd ns).take i))) hp3
        refine ⟨p3, _, rfl, .inl ⟨SqL.of upd_same, fun l hl => ?_⟩⟩
        have sD := same_upd (o := .tup (iv ((Fr.rnd ns).drop i) ++ iv ((Fr.rnd ns).take i))) hl
        have s1D := ((sA.trans sB).trans sC).trans sD
        have hDD := s1D _ _ hDl
        have hl' : L2.upd (L2.upd HB p3 (.lst (iv ((Fr.rnd ns).drop i) ++ iv ((Fr.rnd ns).take i)))) l (.tup (iv ((Fr.rnd ns).drop i) ++ iv ((Fr.rnd ns).take i))) l = some (.tup (iv ((Fr.rnd ns).drop i ++ (Fr.rnd ns).take i))) := by rw [upd_same]; simp [iv]
        refine gen_heap fun HD eD => ?_
        rw [← eD] at s1D hDD hl'
        refine ⟨_, hDD, Evl.sz_lt (by rw [List.length_map]; omega), ?_, rs ++ [l], ?_, by rw [List.length_append, hrl]; rfl, ?_⟩
        · intro b o e
          rw [upd_ne (ne_of_none e hD)]
          exact s1D _ _ (sm _ _ e)
        · rw [upd_same]
          simp
        · intro j r hj
          have keep : ∀ {q : Addr} {xs : List V}, SqT K HD q xs → SqT K (L2.upd HD D (.lst (rs.map V.ref ++ [.ref l]))) q xs := fun h => SqT.keptL hDD Kept.upd h
          by_cases hj2 : j < rs.length
          · rw [List.getElem?_append_left hj2] at hj
            exact keep (WR.Same.seqT s1D (hrs j r hj))
          · rw [List.getElem?_append_right (by omega)] at hj
            have e3 : j - rs.length = 0 := by
              by_cases h0 : j - rs.length = 0
              · exact h0
              · rw [List.getElem?_eq_none (by simp; omega)] at hj
                cases hj
            rw [e3] at hj
            have e4 : r = l := by simpa using hj.symm
            have e5 : j = i := by omega
            rw [e4, e5]
            exact keep (SqT.of hl')
      · rintro H1 ⟨sm, rs, hDl, hrl, hrs⟩
        refine ⟨_, _, .tup (WR.Same.seqT sm h2) (dp_iv _), .lst (SqL.of hDl) (dp_all rs ((List.range (Fr.rnd ns).length).map fun j => (Fr.rnd ns).drop j ++ (Fr.rnd ns).take j) (by simp [hrl]) ?_), shaped_ints _, shaped_tups _, ?_⟩
        · intro j r t hr ht
          have e := hrs j r hr
          have hj : j < (Fr.rnd ns).length := by have := (List.getElem?_eq_some_iff.mp hr).1; omega
          rw [List.getElem?_map, List.getElem?_range hj] at ht
          cases ht
          exact e
        · have ea : (((List.range (Fr.rnd ns).length).map fun j => (Fr.rnd ns).drop j ++ (Fr.rnd ns).take j).map fun t => PyData.tuple (t.map .int)).any (fun z => PyData.eqv z (.tuple ((Fr.rnd (ms ++ ns ++ Fr.con ms)).map .int))) = true := by
            rw [List.any_eq_true]
            refine ⟨_, List.mem_map_of_mem (turn_mem mv hL0), ?_⟩
            rw [eqv_ints]
            exact decide_eq_true rfl
          rw [ea]
          exact fin H1 sm
end
end W05
set_option Elab.async false
set_option linter.all false
set_option maxRecDepth 100000
set_option maxHeartbeats 4000000
namespace W05
open PySem L2 PySem.Spec PyProof.Rows WR
abbrev sLaw : Stmt := top 44
def spLaw (K : PySem.W.Frag) : Sp := fun vs H Q _ => ∃ (a : Addr) (ns : List Int), vs = [.ref a] ∧ SqL K H a (iv ns) ∧ ns.length ≤ 63 ∧ ∀ H', Q (.bl true) H'
abbrev nLaw : List Str := ["_law_script", "_law_jar_here", "_law_lap", "_law_kinds", "_law_letters_here", "_law_ahead", "_law_others"]
section
variable {P : Program} {w : World} {K : PySem.W.Frag} {mg : Str → Option Value} {base : Heap}
theorem scLaw : FnScope nLaw ["_law_script"] (defScope sLaw) := ⟨rfl, rfl, rfl, by decide +kernel, rfl, by decide +kernel, by decide +kernel⟩
theorem ok_law {f : Addr} {fd : FuncData} (F : Fun K "law" "law" sLaw f fd) (TL : TxL mg) (TN : TxN mg) (GJ : Cal P w K mg base "_law_jar" 1 ["_law_script"] (spHand K))
    (GD : Cal P w K mg base "_law_draw" 1 ["_law_jar_here", "_law_many"] spTake) (GP : Cal P w K mg base "_law_pick" 2 ["_law_jar_here", "_law_some"] spPick) (GL : Cal P w K mg base "_law_letters" 2 ["_law_jar_here", "_law_many", "_law_kinds"] spLetters)
    (GC : Cal P w K mg base "_law_contrary" 1 ["_law_letters_here"] spConL) (GU : Cal P w K mg base "_law_put_in" 3 ["_law_jar_here", "_law_letters_here", "_law_many", "_law_kinds"] spPut)
    (GS : Cal P w K mg base "_law_short_right" 7 ["_law_jar_here", "_law_letters_here"] spSR) (GB : Cal P w K mg base "_law_behind_right" 7 ["_law_jar_here", "_law_letters_here", "_law_others"] spBehind)
    (GO : Cal P w K mg base "_law_core_right" 7 ["_law_jar_here", "_law_letters_here"] spCore) (GG : Cal P w K mg base "_law_great_right" 7 ["_law_jar_here"] spGreat) :
    FnOk P w K mg base CX0 8 f fd ["_law_script"] (spLaw K) := by
  refine F.ok scLaw (fun vs H Q E h => ?_) (fun cdv A outer s H vs Q E hr h => ?_)
  · obtain ⟨a, ns, rfl, _⟩ := h
    rfl
  · obtain ⟨a, ns, rfl, hS, hlen, k⟩ := h
    refine ⟨_, pss_cons (ps_set (i := 1) scLaw.nd rfl (Or.inl rfl) (pe_cal GJ hr (by decide) (by rfl) (pa_cons (pv 0) (pa_nil))))
 (pss_cons (ps_for PassesOwn.never rfl (pi_range1 (by rfl) TN.range (pa_cons pe_int pa_nil)) (pg_name (i := 2) scLaw.nd rfl (Or.inl rfl)) (pss_cons (ps_set (i := 3) scLaw.nd rfl (Or.inl rfl) (pe_op op_add (pe_int) (pe_cal GD hr (by decide) (by rfl) (pa_cons (pv 1) (pa_cons (pe_int) (pa_nil))))))
 (pss_cons (ps_set (i := 4) scLaw.nd rfl (Or.inl rfl) (pe_cal GL hr (by decide) (by rfl) (pa_cons (pv 1) (pa_cons (pe_cal GP hr (by decide) (by rfl) (pa_cons (pv 1) (pa_cons (pe_lst (pa_cons pe_int (pa_cons pe_int (pa_cons pe_int (pa_cons pe_int (pa_cons pe_int (pa_cons pe_int (pa_cons pe_int (pa_cons pe_int (pa_nil)))))))))) (pa_nil)))) (pa_cons (pv 3) (pa_nil))))))
 (Evl.pss_cut (ps_if (pt_cmpR op_eq (pe_cal GD hr (by decide) (by rfl) (pa_cons (pv 1) (pa_cons (pe_int) (pa_nil)))) pe_int (nomark _)) (pss_one (ps_set (i := 4) scLaw.nd rfl (Or.inl rfl) (pe_cal GU hr (by decide) (by rfl) (pa_cons (pv 1) (pa_cons (pv 4) (pa_cons (pe_op op_add (pe_int) (pe_cal GD hr (by decide) (by rfl) (pa_cons (pv 1) (pa_cons (pe_int) (pa_nil))))) (pa_cons (pv 3) (pa_nil)))))))) pss_nil)
 (Evl.pss_cut (ps_if (pt_cmpR op_eq (pe_cal GD hr (by decide) (by rfl) (pa_cons (pv 1) (pa_cons (pe_int) (pa_nil)))) pe_int (nomark _)) (pss_cons (ps_set (i := 5) scLaw.nd rfl (Or.inl rfl) (pe_cal GL hr (by decide) (by rfl) (pa_cons (pv 1) (pa_cons (pe_op op_add (pe_int) (pe_cal GD hr (by decide) (by rfl) (pa_cons (pv 1) (pa_cons (pe_int) (pa_nil))))) (pa_cons (pv 3) (pa_nil)))))) (pss_one (ps_set (i := 4) scLaw.nd rfl (Or.inl rfl) (pe_op op_cat (pe_op op_cat (pv 5) (pv 4)) (pe_cal GC hr (by decide) (by rfl) (pa_cons (pv 5) (pa_nil))))))) pss_nil)
 (pss_cons (ps_set (i := 6) scLaw.nd rfl (Or.inl rfl) (pe_cal GL hr (by decide) (by rfl) (pa_cons (pv 1) (pa_cons (pe_cal GD hr (by decide) (by rfl) (pa_cons (pv 1) (pa_cons (pe_int) (pa_nil)))) (pa_cons (pv 3) (pa_nil))))))
 (Evl.pss_cut (ps_if (pt_cmpR op_eq (pe_cal GD hr (by decide) (by rfl) (pa_cons (pv 1) (pa_cons (pe_int) (pa_nil)))) pe_int (nomark _)) (pss_one (ps_set (i := 6) scLaw.nd rfl (Or.inl rfl) (pe_op op_cat (pe_cal GC hr (by decide) (by rfl) (pa_cons (pe_slice sl_list (pv 4) (po_some (pe_callTy call_int1 (by rfl) TL.int (by decide +kernel) (pa_cons (pe_op op_fdiv (pe_callB call_len_seq (by rfl) TL.len PySem.boot_len (pa_cons (pv 4) pa_nil)) pe_int) pa_nil))) po_none) (pa_nil))) (pv 6)))) pss_nil)
 (pss_one (ps_if (PW.pt (pw_or (pt_not (pt_val (pe_cal GS hr (by decide) (by rfl) (pa_cons (pv 1) (pa_cons (pv 4) (pa_nil)))))) (pw_or (pt_not (pt_val (pe_cal GB hr (by decide) (by rfl) (pa_cons (pv 1) (pa_cons (pv 4) (pa_cons (pv 6) (pa_nil))))))) (pw_or1 (pt_not (pt_val (pe_cal GO hr (by decide) (by rfl) (pa_cons (pv 1) (pa_cons (pv 4) (pa_nil)))))))))) (pss_one (ps_ret pe_bl)) pss_nil)))))))))
 (pss_one (ps_ret (pe_cal GG hr (by decide) (by rfl) (pa_cons (pv 1) (pa_nil)))))), ?_⟩
    -- the jar
    refine ⟨_, rfl, a, ns, rfl, hS, by omega, fun H1 p c s1 hp0 hc0 hH1 => ?_⟩
    refine ⟨4, rfl, by decide, by decide, ?_⟩
    refine for_range (lo := 0) (n := 4) (fun i σ H' => ∃ v2 v3 v4 v5 v6, σ = [some (.ref a), some (.ref p), v2, v3, v4, v5, v6] ∧ HandAt H' p c (400 * i))
      ⟨none, none, none, none, none, rfl, hH1⟩ ?_ ?_
    · rintro i σ H2 hi ⟨v2, v3, v4, v5, v6, rfl, hH2⟩
      -- kinds
      refine ⟨_, rfl, p, c, 3, 400 * i, rfl, hH2, by omega, by decide, by decide, fun H3 z z0 z1 hH3 hK3 => ⟨_, _, rfl, rfl, ?_⟩⟩
      obtain ⟨k3, ek⟩ : ∃ k3 : Nat, 1 + z = (k3 : Int) := ⟨(1 + z).toNat, by omega⟩
      have k1 : 1 ≤ k3 := by omega
      have k26 : k3 ≤ 26 := by omega
      dsimp only
      rw [ek]
      -- letters
      refine ⟨_, rfl, _, rfl, (by show 8 ≤ sizeLine; decide), fun l hl => ?_⟩
      refine ⟨p, c, l, _, 400 * i + 1, rfl, hH3.new hl, by omega, hH3.ne hl, upd_same, by decide, by decide, fun v hv H4 d4 => ?_⟩
      obtain ⟨m, rfl, hm⟩ : ∃ m : Nat, v = .int (m : Int) ∧ m ≤ 30 := by
        simp only [List.mem_cons, List.mem_nil_iff, or_false] at hv
        rcases hv with rfl | rfl | rfl | rfl | rfl | rfl | rfl | rfl
        · exact ⟨0, rfl, by decide⟩
        · exact ⟨1, rfl, by decide⟩
        · exact ⟨2, rfl, by decide⟩
        · exact ⟨4, rfl, by decide⟩
        · exact ⟨6, rfl, by decide⟩
        · exact ⟨9, rfl, by decide⟩
        · exact ⟨14, rfl, by decide⟩
        · exact ⟨30, rfl, by decide⟩
      refine ⟨_, rfl, p, c, m, k3, 400 * i + 2, rfl, d4.1, by omega, by omega, k1, k26, fun q H5 ls hq0 d5 hq hll hlk => ?_⟩
      have hqp := d4.1.ne hq0
      have lls : Lts ls := fun x hx => ⟨(hlk x hx).1, Nat.le_trans (hlk x hx).2 k26⟩
      -- put in
      refine ⟨fun σ' H' => ∃ q ls, σ' = [some (.ref a), some (.ref p), some (.int (0 + (i : Int))), some (.int (k3 : Int)), some (.ref q), v5, v6] ∧ HandAt H' p c (400 * i + 79) ∧ q ≠ p ∧ H' q = some (.lst (iv ls)) ∧ ls.length ≤ 40 ∧ Lts ls, ?_, ?_⟩
      · refine ⟨_, rfl, p, c, 3, 400 * i + 2 + 2 * m, rfl, d5.1, by omega, by decide, by decide, fun H6 z6 z60 z61 hH6 hK6 => ⟨rfl, _, rfl, ?_⟩⟩
        have hq6 := hK6 _ _ hqp hq
        refine ite2 (fun _ => ?_) (fun _ => ?_)
        · refine ⟨_, rfl, _, rfl, _, rfl, p, c, 5, _, rfl, hH6, by omega, by decide, by decide, fun H7 z7 z70 z71 hH7 hK7 => ⟨_, _, rfl, rfl, ?_⟩⟩
          obtain ⟨m7, e7⟩ : ∃ m7 : Nat, 1 + z7 = (m7 : Int) := ⟨(1 + z7).toNat, by omega⟩
          dsimp only
          rw [e7]
          refine ⟨_, rfl, p, c, q, m7, k3, ls, _, rfl, hH7, hqp, hK7 _ _ hqp hq6, by omega, by omega, by omega, k1, k26, lls, fun q8 H8 ms hq80 d8 hq8 hml hlm => ?_⟩
          exact ⟨q8, ms, rfl, d8.1.mono (by omega), hH7.ne hq80, hq8, by omega, hlm⟩
        · exact ⟨q, ls, rfl, hH6.mono (by omega), hqp, hq6, by omega, lls⟩
      · rintro σ H6 ⟨q, ls, rfl, hH6, hqp, hq6, hll, lls⟩
        -- ahead
        refine ⟨fun σ' H' => ∃ q ls v5, σ' = [some (.ref a), some (.ref p), some (.int (0 + (i : Int))), some (.int (k3 : Int)), some (.ref q), v5, v6] ∧ HandAt H' p c (400 * i + 89) ∧ q ≠ p ∧ H' q = some (.lst (iv ls)) ∧ ls.length ≤ 48 ∧ Lts ls, ?_, ?_⟩
        · refine ⟨_, rfl, p, c, 3, _, rfl, hH6, by omega, by decide, by decide, fun H7 z7 z70 z71 hH7 hK7 => ⟨rfl, _, rfl, ?_⟩⟩
          have hq7 := hK7 _ _ hqp hq6
          refine ite2 (fun _ => ?_) (fun _ => ?_)
          · refine ⟨_, rfl, _, rfl, p, c, 4, _, rfl, hH7, by omega, by decide, by decide, fun H8 z8 z80 z81 hH8 hK8 => ⟨_, _, rfl, rfl, ?_⟩⟩
            obtain ⟨m8, e8⟩ : ∃ m8 : Nat, 1 + z8 = (m8 : Int) := ⟨(1 + z8).toNat, by omega⟩
            dsimp only
            rw [e8]
            refine ⟨_, rfl, p, c, m8, k3, _, rfl, hH8, by omega, by omega, k1, k26, fun r H9 hs hr0 d9 hr hhl hhk => ?_⟩
            have lhs : Lts hs := fun x hx => ⟨(hhk x hx).1, Nat.le_trans (hhk x hx).2 k26⟩
            have hq9 := d9.2 _ _ hqp (hK8 _ _ hqp hq7)
            refine ⟨_, rfl, _, rfl, r, q, _, _, rfl, rfl, hr, hq9, Evl.sz_of (by simp only [List.length_map]; omega), fun p1 hp1 => ?_⟩
            have sA := same_upd (o := .lst (iv hs ++ iv ls)) hp1
            have hA : L2.upd H9 p1 (.lst (iv hs ++ iv ls)) p1 = some (.lst (iv (hs ++ ls))) := by rw [upd_same]; simp [iv]
            refine gen_heap fun HA eA => ?_
            rw [← eA] at sA hA
            refine ⟨_, rfl, r, hs, rfl, sA _ _ hr, by omega, fun r2 HB hr20 sB hrB => ?_⟩
            refine ⟨p1, r2, _, _, rfl, rfl, sB _ _ hA, hrB, Evl.sz_of (by simp only [List.length_map, List.length_append, Fr.con_length]; omega), fun p3 hp3 => ?_⟩
            have sC := same_upd (o := .lst (iv (hs ++ ls) ++ iv (Fr.con hs))) hp3
            have s9 := (sA.trans sB).trans sC
            have hp3p : p3 ≠ p := (d9.1.same (sA.trans sB)).ne hp3
            refine ⟨p3, hs ++ ls ++ Fr.con hs, _, rfl, (d9.1.same s9).mono (by omega), hp3p, by rw [upd_same]; simp [iv], by simp only [List.length_append, Fr.con_length]; omega, (lhs.app lls).app lhs.con⟩
          · exact ⟨q, ls, v5, rfl, hH7.mono (by omega), hqp, hq7, by omega, lls⟩
        · rintro σ H7 ⟨q, ls, v5, rfl, hH7, hqp, hq7, hll, lls⟩
          -- others
          refine ⟨_, rfl, _, rfl, p, c, 8, _, rfl, hH7, by omega, by decide, by decide, fun H8 z8 z80 z81 hH8 hK8 => ?_⟩
          obtain ⟨m8, rfl⟩ : ∃ m8 : Nat, z8 = (m8 : Int) := ⟨z8.toNat, by omega⟩
          refine ⟨_, rfl, p, c, m8, k3, _, rfl, hH8, by omega, by omega, k1, k26, fun o H9 os ho0 d9 ho hol hok => ?_⟩
          have los : Lts os := fun x hx => ⟨(hok x hx).1, Nat.le_trans (hok x hx).2 k26⟩
          have hop := hH8.ne ho0
          have hq9 := d9.2 _ _ hqp (hK8 _ _ hqp hq7)
          refine ⟨fun σ' H' => ∃ o os, σ' = [some (.ref a), some (.ref p), some (.int (0 + (i : Int))), some (.int (k3 : Int)), some (.ref q), v5, some (.ref o)] ∧ HandAt H' p c (400 * i + 105) ∧ q ≠ p ∧ H' q = some (.lst (iv ls)) ∧ o ≠ p ∧ H' o = some (.lst (iv os)) ∧ os.length ≤ 32 ∧ Lts os, ?_, ?_⟩
          · refine ⟨_, rfl, p, c, 4, _, rfl, d9.1, by omega, by decide, by decide, fun HA zA zA0 zA1 hHA hKA => ⟨rfl, _, rfl, ?_⟩⟩
            have hqA := hKA _ _ hqp hq9
            have hoA := hKA _ _ hop ho
            refine ite2 (fun _ => ?_) (fun _ => ?_)
            · refine ⟨_, rfl, _, rfl, q, _, rfl, .inl (SqL.of hqA), _, _, rfl, rfl, ⟨by decide, by decide⟩, .inl ⟨_, rfl, _, rfl, q, _, rfl, SqL.of hqA, fun p1 hp1 => ?_⟩⟩
              have eh : (((iv ls).length : Nat) : Int) / 2 = ((ls.length / 2 : Nat) : Int) := by rw [List.length_map]; omega
              have sB := same_upd (o := .lst (cutV (iv ls) (some ((((iv ls).length : Nat) : Int) / 2)) none)) hp1
              have hB : L2.upd HA p1 (.lst (cutV (iv ls) (some ((((iv ls).length : Nat) : Int) / 2)) none)) p1 = some (.lst (iv (ls.drop (ls.length / 2)))) := by rw [upd_same, eh, cut_from (by omega)]
              refine gen_heap fun HB eB => ?_
              rw [← eB] at sB hB
              have ld : (ls.drop (ls.length / 2)).length ≤ 24 := by rw [List.length_drop]; omega
              refine ⟨p1, _, rfl, hB, by omega, fun r HC hr0 sC hr => ?_⟩
              have sBC := sB.trans sC
              refine ⟨_, rfl, r, o, _, _, rfl, rfl, hr, sBC _ _ hoA, Evl.sz_of (by simp only [List.length_map, Fr.con_length]; omega), fun p4 hp4 => ?_⟩
              have sD := same_upd (o := .lst (iv (Fr.con (ls.drop (ls.length / 2))) ++ iv os)) hp4
              have s9 := sBC.trans sD
              refine ⟨p4, Fr.con (ls.drop (ls.length / 2)) ++ os, rfl, (hHA.same s9).mono (by omega), hqp, s9 _ _ hqA, (hHA.same sBC).ne hp4, by rw [upd_same]; simp [iv], by simp only [List.length_append, Fr.con_length]; omega, (Lts.con fun x hx => lls x (List.mem_of_mem_drop hx)).app los⟩
            · exact ⟨o, os, rfl, hHA.mono (by omega), hqp, hqA, hop, hoA, by omega, los⟩
          · rintro σ HA ⟨o, os, rfl, hHA, hqp, hqA, hop, hoA, hol, los⟩
            refine ⟨_, rfl, _, rfl, p, c, q, ls, _, rfl, hHA, hqp, hqA, by omega, by omega, lls, fun HB dB => ⟨_, rfl, no_ne rfl ?_⟩⟩
            have hqB := dB.2 _ _ hqp hqA
            have hoB := dB.2 _ _ hop hoA
            refine ⟨_, rfl, _, rfl, _, rfl, p, c, q, o, ls, os, _, rfl, dB.1, hqp, hop, hqB, hoB, by omega, by omega, by omega, lls, los, fun HC dC => ⟨_, rfl, no_ne rfl ?_⟩⟩
            have hqC := dC.2 _ _ hqp hqB
            refine ⟨_, rfl, _, rfl, p, c, q, ls, _, rfl, dC.1, hqp, hqC, by omega, by omega, lls, fun HD dD => ⟨_, rfl, no_ne rfl ?_⟩⟩
            exact ⟨_, _, _, _, _, rfl, dD.1.mono (by omega)⟩
    · rintro σ H2 ⟨v2, v3, v4, v5, v6, rfl, hH2⟩
      exact ⟨_, rfl, p, c, _, rfl, hH2, by decide, fun H' => k H'⟩
end
end W05
set_option Elab.async false
set_option linter.all false
set_option maxRecDepth 100000
set_option maxHeartbeats 4000000
namespace W05
open PySem L2 PySem.Spec PyProof.Rows WR
/-! ### what the top has written -/
structure FF (K : PySem.W.Frag) (mg : Str → Option Value) (x : Str) (st : Stmt) : Prop where
  ex : ∃ (f : Addr) (oc : Value) (od : Option Addr) (kV doc pm cdv ct : Value) (an : Option Addr) (osl : Array (Option Value)),
    K.lookup f = some ⟨oc, od, .func (PySem.W.fnOf x x (defArgs st) (defBody st) (defScope st) .none kV doc pm an cdv ct), osl⟩ ∧ PySem.W.codeIn K cdv x = true ∧ PySem.W.keepIn K (.ref f) = true ∧ mg x = some (.ref f)
theorem ff_mk {K : PySem.W.Frag} {mg : Str → Option Value} {h : Heap} {x : Str} {st : Stmt} {f : Addr} {oc : Value} {od an : Option Addr} {kV doc pm cdv ct : Value} {osl : Array (Option Value)} (X : K.In h) (G : h.Ns mainGlobals mg)
    (a : PySem.W.nsIn K mainGlobals x = some (some (.ref f))) (l : K.lookup f = some ⟨oc, od, .func (PySem.W.fnOf x x (defArgs st) (defBody st) (defScope st) .none kV doc pm an cdv ct), osl⟩) (c : PySem.W.codeIn K cdv x = true) (k : PySem.W.keepIn K (.ref f) = true) : FF K mg x st :=
  ⟨f, oc, od, kV, doc, pm, cdv, ct, an, osl, l, c, k, PySem.W.mg_of X G a⟩
/-- a def in the class's body, held by the class -/
structure FM (K : PySem.W.Frag) (C : Addr) (m q : Str) (st : Stmt) : Prop where
  ex : ∃ (f : Addr) (oc : Value) (od : Option Addr) (kV doc pm cdv ct : Value) (an : Option Addr) (osl : Array (Option Value)),
    PySem.W.findIn K (.ref C) m = some (some (.ref f)) ∧ PySem.W.isFn K (.ref f) = true ∧
    K.lookup f = some ⟨oc, od, .func (PySem.W.fnOf m q (defArgs st) (defBody st) (defScope st) .none kV doc pm an cdv ct), osl⟩ ∧ PySem.W.codeIn K cdv q = true ∧ PySem.W.keepIn K (.ref f) = true
theorem fm_mk {K : PySem.W.Frag} {C : Addr} {m q : Str} {st : Stmt} {f : Addr} {oc : Value} {od an : Option Addr} {kV doc pm cdv ct : Value} {osl : Array (Option Value)}
    (a : PySem.W.findIn K (.ref C) m = some (some (.ref f))) (i : PySem.W.isFn K (.ref f) = true) (l : K.lookup f = some ⟨oc, od, .func (PySem.W.fnOf m q (defArgs st) (defBody st) (defScope st) .none kV doc pm an cdv ct), osl⟩) (c : PySem.W.codeIn K cdv q = true) (k : PySem.W.keepIn K (.ref f) = true) : FM K C m q st :=
  ⟨f, oc, od, kV, doc, pm, cdv, ct, an, osl, a, i, l, c, k⟩
section
variable {P : Program} {w : World} {K : PySem.W.Frag} {mg : Str → Option Value} {base : Heap} {x m q : Str} {C : Addr} {st : Stmt} {k : Nat} {ps ks : List Str} {sp : Sp}
theorem FF.cal (F : FF K mg x st) (ok : ∀ f fd, Fun K x x st f fd → FnOk P w K mg base CX0 k f fd ps sp)
    (hb : ∀ (kV doc pm : Value) (an : Option Addr) (cdv ct : Value) (us : List Value), us.length = ps.length → bindArgs (PySem.W.fnOf x x (defArgs st) (defBody st) (defScope st) .none kV doc pm an cdv ct) ⟨us, []⟩ = pure (ps.zip us)) : Cal P w K mg base x k ps sp := by
  obtain ⟨f, oc, od, kV, doc, pm, cdv, ct, an, osl, l, c, kp, m⟩ := F.ex
  exact ⟨f, _, ok f _ (fun_mk l c kp), m, kp, (fun_mk l c kp).binds hb⟩
theorem FM.meth (F : FM K C m q st) (ok : ∀ f fd, Fun K m q st f fd → FnOk P w K mg base CX0 6 f fd ps sp)
    (hb : ∀ (kV doc pm : Value) (an : Option Addr) (cdv ct : Value) (us : List Value), us.length = ps.length → bindArgs (PySem.W.fnOf m q (defArgs st) (defBody st) (defScope st) .none kV doc pm an cdv ct) ⟨us, []⟩ = pure (ps.zip us)) : MethW P w K mg base C m ps sp := by
  obtain ⟨f, oc, od, kV, doc, pm, cdv, ct, an, osl, a, i, l, c, kp⟩ := F.ex
  exact ⟨f, _, ⟨a, i, kp⟩, ok f _ (fun_mk l c kp), (fun_mk l c kp).binds hb⟩
end
structure Names (mg : Str → Option Value) : Prop where
  isinstance : mg "isinstance" = none
  int : mg "int" = none
  bool : mg "bool" = none
  str : mg "str" = none
  list : mg "list" = none
  tuple : mg "tuple" = none
  all : mg "all" = none
  len : mg "len" = none
  abs : mg "abs" = none
  range : mg "range" = none
  sorted : mg "sorted" = none
  kind : ∃ t, mg "MOST_KIND" = some (.int 26 t)
  most : ∃ t, mg "MOST_LETTERS" = some (.int 500 t)
structure Defs (K : PySem.W.Frag) (mg : Str → Option Value) (C : Addr) : Prop where
  d_sIsInt : FF K mg "is_integer" sIsInt
  d_sWithin : FF K mg "is_within" sWithin
  d_sLetter : FF K mg "is_letter" sLetter
  d_sListed : FF K mg "is_listed" sListed
  d_sCon : FF K mg "contrary_letters" sCon
  d_sShr : FF K mg "shortened_letters" sShr
  d_sRnd : FF K mg "rounded_letters" sRnd
  d_sKinds : FF K mg "kinds_of" sKinds
  d_sNeedI : FF K mg "need_integer" sNeedI
  d_sNeedW : FF K mg "need_word" sNeedW
  d_sFew : FF K mg "need_few_letters" sFew
  d_sJar : FF K mg "_law_jar" sJar
  d_sDraw : FF K mg "_law_draw" sDraw
  d_sPick : FF K mg "_law_pick" sPick
  d_sLetters : FF K mg "_law_letters" sLetters
  d_sConL : FF K mg "_law_contrary" sConL
  d_sTaken : FF K mg "_law_taken_out" sTaken
  d_sEnds : FF K mg "_law_ends_off" sEnds
  d_sPut : FF K mg "_law_put_in" sPut
  d_sSR : FF K mg "_law_short_right" sSR
  d_sBehind : FF K mg "_law_behind_right" sBehind
  d_sCore : FF K mg "_law_core_right" sCore
  d_sGreat : FF K mg "_law_great_right" sGreat
  d_sLaw : FF K mg "law" sLaw
  m_sInit : FM K C "__init__" "Word.__init__" sInit
  m_sEq : FM K C "__eq__" "Word.__eq__" sEq
  m_sContrary : FM K C "contrary" "Word.contrary" sContrary
  m_sShort : FM K C "shortened" "Word.shortened" sShort
  m_sRound : FM K C "shortened_round" "Word.shortened_round" sRound
  m_sThen : FM K C "then" "Word.then" sThen
  m_sTimes : FM K C "times" "Word.times" sTimes
/-- what is to be known of the class -/
structure ClsW (K : PySem.W.Frag) (mg : Str → Option Value) (C : Addr) : Prop where
  cl : Cls K C
  nL : NoAttr K C "letters"
  nN : NoAttr K C "length"
  nK : NoAttr K C "kinds"
  nS : NoAttr K C "is_short"
  nR : NoAttr K C "is_short_round"
  ca : PySem.W.findIn K (.ref C) "__class__" = some (some (.builtin "object.__class__"))
  cn : PySem.W.specialIn K (.builtin "object.__class__") "__get__" = some (some (.builtin "getset_descriptor.__get__"))
  ct : PySem.W.takesIn K (.builtin "object.__class__") = some true
  cm : PySem.W.mroIn K C (.type "object") = some true
  ne : PySem.W.findIn K (.ref C) "__ne__" = some (some (.builtin "object.__ne__"))
  mks : PySem.W.makesIn K C = true
  kc : PySem.W.keepIn K (.ref C) = true
  mgW : mg "Word" = some (.ref C)
theorem law_mk {P : Program} {w : World} {K : PySem.W.Frag} {mg : Str → Option Value} {base : Heap} {C : Addr} {fL : Addr} {fdL : FuncData} (N : Names mg) (D : Defs K mg C) (W : ClsW K mg C) (FL : Fun K "law" "law" sLaw fL fdL) : FnOk P w K mg base CX0 8 fL fdL ["_law_script"] (spLaw K) := by
  have tA : TxA mg := ⟨N.tuple, N.len⟩
  have tB : TxB mg := ⟨N.sorted, N.abs⟩
  have tC : TxC mg := ⟨N.kind, N.all⟩
  have tI : TxI mg := ⟨N.isinstance, N.int, N.bool, N.str, N.list, N.tuple⟩
  have tL : TxL mg := ⟨N.int, N.len, N.abs⟩
  have tN : TxN mg := ⟨N.range, N.list⟩
  have tW : TxW K mg C := ⟨W.cl, W.nL, W.nN, W.nK, W.nS, W.nR, W.ca, W.cn, W.ct, W.cm, W.mgW, N.most, N.isinstance, N.all⟩
  have cInt : Cal P w K mg base "is_integer" 1 ["value"] spIsInt := D.d_sIsInt.cal (fun f fd F => ok_isInt F tI) (fun _ _ _ _ _ _ us hl => match us, hl with | [_], _ => rfl)
  have cWithin : Cal P w K mg base "is_within" 2 ["value", "least", "most"] spWithin := D.d_sWithin.cal (fun f fd F => ok_within F cInt) (fun _ _ _ _ _ _ us hl => match us, hl with | [_, _, _], _ => rfl)
  have cLetter : Cal P w K mg base "is_letter" 3 ["value"] spLetter := D.d_sLetter.cal (fun f fd F => ok_letter F cWithin tC) (fun _ _ _ _ _ _ us hl => match us, hl with | [_], _ => rfl)
  have cListE : Cal P w K mg base "is_listed" 1 ["value"] (spListE K) := D.d_sListed.cal (fun f fd F => ok_listE F tI) (fun _ _ _ _ _ _ us hl => match us, hl with | [_], _ => rfl)
  have cFew : Cal P w K mg base "need_few_letters" 1 ["many"] spFew := D.d_sFew.cal (fun f fd F => ok_few F tW) (fun _ _ _ _ _ _ us hl => match us, hl with | [_], _ => rfl)
  have cKinds : Cal P w K mg base "kinds_of" 1 ["letters"] (spKinds K) := D.d_sKinds.cal (fun f fd F => ok_kinds F tA tB) (fun _ _ _ _ _ _ us hl => match us, hl with | [_], _ => rfl)
  have cShr : Cal P w K mg base "shortened_letters" 1 ["letters"] (spShr K) := D.d_sShr.cal (fun f fd F => ok_shr F tA) (fun _ _ _ _ _ _ us hl => match us, hl with | [_], _ => rfl)
  have cRnd : Cal P w K mg base "rounded_letters" 2 ["letters"] (spRnd K) := D.d_sRnd.cal (fun f fd F => ok_rnd F cShr tA) (fun _ _ _ _ _ _ us hl => match us, hl with | [_], _ => rfl)
  have cCon : Cal P w K mg base "contrary_letters" 1 ["letters"] (spCon K) := D.d_sCon.cal (fun f fd F => ok_con F tA) (fun _ _ _ _ _ _ us hl => match us, hl with | [_], _ => rfl)
  have cNeedI : Cal P w K mg base "need_integer" 2 ["value", "part"] spNeedI := D.d_sNeedI.cal (fun f fd F => ok_needI F cInt) (fun _ _ _ _ _ _ us hl => match us, hl with | [_, _], _ => rfl)
  have cNeedW : Cal P w K mg base "need_word" 1 ["value", "part"] (spNeedW K C) := D.d_sNeedW.cal (fun f fd F => ok_needW F tW) (fun _ _ _ _ _ _ us hl => match us, hl with | [_, _], _ => rfl)
  have mW : MkW P w K mg base C := by
    obtain ⟨f, oc, od, kV, doc, pm, cdv, ct, an, osl, a, i, l, c, kp⟩ := D.m_sInit.ex
    exact ⟨f, _, ⟨W.mks, a, i, W.kc⟩, ok_init (fun_mk l c kp) tW tA cListE cLetter cFew cKinds cShr cRnd, (fun_mk l c kp).binds (fun _ _ _ _ _ _ us hl => match us, hl with | [_, _], _ => rfl)⟩
  have eW : EqW P w K mg base C := by
    obtain ⟨f, oc, od, kV, doc, pm, cdv, ct, an, osl, a, i, l, c, kp⟩ := D.m_sEq.ex
    exact ⟨f, _, ok_eq (fun_mk l c kp) tW, a, i, (fun_mk l c kp).binds (fun _ _ _ _ _ _ us hl => match us, hl with | [_, _], _ => rfl)⟩
  have aW : AllW P w K mg base C := {
    con := D.m_sContrary.meth (fun f fd F => ok_contrary F tW mW cCon) (fun _ _ _ _ _ _ us hl => match us, hl with | [_], _ => rfl)
    sht := D.m_sShort.meth (fun f fd F => ok_shortened F tW mW cShr) (fun _ _ _ _ _ _ us hl => match us, hl with | [_], _ => rfl)
    rnd := D.m_sRound.meth (fun f fd F => ok_round F tW mW cRnd) (fun _ _ _ _ _ _ us hl => match us, hl with | [_], _ => rfl)
    thn := D.m_sThen.meth (fun f fd F => ok_then F tW mW cNeedW) (fun _ _ _ _ _ _ us hl => match us, hl with | [_, _], _ => rfl)
    tms := D.m_sTimes.meth (fun f fd F => ok_times F tW tB mW cNeedI cFew cCon) (fun _ _ _ _ _ _ us hl => match us, hl with | [_, _], _ => rfl)
    mkw := mW
    eq := eW
    ne := W.ne }
  have cJar : Cal P w K mg base "_law_jar" 1 ["_law_script"] (spHand K) := D.d_sJar.cal (fun f fd F => ok_hand F tL) (fun _ _ _ _ _ _ us hl => match us, hl with | [_], _ => rfl)
  have cDraw : Cal P w K mg base "_law_draw" 1 ["_law_jar_here", "_law_many"] spTake := D.d_sDraw.cal (fun f fd F => ok_take F tL) (fun _ _ _ _ _ _ us hl => match us, hl with | [_, _], _ => rfl)
  have cPick : Cal P w K mg base "_law_pick" 2 ["_law_jar_here", "_law_some"] spPick := D.d_sPick.cal (fun f fd F => ok_pick F cDraw tL) (fun _ _ _ _ _ _ us hl => match us, hl with | [_, _], _ => rfl)
  have cLetters : Cal P w K mg base "_law_letters" 2 ["_law_jar_here", "_law_many", "_law_kinds"] spLetters := D.d_sLetters.cal (fun f fd F => ok_letters F cDraw tN) (fun _ _ _ _ _ _ us hl => match us, hl with | [_, _, _], _ => rfl)
  have cConL : Cal P w K mg base "_law_contrary" 1 ["_law_letters_here"] spConL := D.d_sConL.cal (fun f fd F => ok_conL F) (fun _ _ _ _ _ _ us hl => match us, hl with | [_], _ => rfl)
  have cTaken : Cal P w K mg base "_law_taken_out" 3 ["_law_jar_here", "_law_letters_here"] spTaken := D.d_sTaken.cal (fun f fd F => ok_taken F cPick tL tN) (fun _ _ _ _ _ _ us hl => match us, hl with | [_, _], _ => rfl)
  have cEnds : Cal P w K mg base "_law_ends_off" 1 ["_law_letters_here"] spEnds := D.d_sEnds.cal (fun f fd F => ok_ends F tL tN) (fun _ _ _ _ _ _ us hl => match us, hl with | [_], _ => rfl)
  have cPut : Cal P w K mg base "_law_put_in" 3 ["_law_jar_here", "_law_letters_here", "_law_many", "_law_kinds"] spPut := D.d_sPut.cal (fun f fd F => ok_put F cDraw cLetters tL tN) (fun _ _ _ _ _ _ us hl => match us, hl with | [_, _, _, _], _ => rfl)
  have cSR : Cal P w K mg base "_law_short_right" 7 ["_law_jar_here", "_law_letters_here"] spSR := D.d_sSR.cal (fun f fd F => ok_SR F tW aW tA tL tN cTaken cEnds) (fun _ _ _ _ _ _ us hl => match us, hl with | [_, _], _ => rfl)
  have cBehind : Cal P w K mg base "_law_behind_right" 7 ["_law_jar_here", "_law_letters_here", "_law_others"] spBehind := D.d_sBehind.cal (fun f fd F => ok_behind F tW aW tA tL tN cDraw cTaken cEnds) (fun _ _ _ _ _ _ us hl => match us, hl with | [_, _, _], _ => rfl)
  have cCore : Cal P w K mg base "_law_core_right" 7 ["_law_jar_here", "_law_letters_here"] spCore := D.d_sCore.cal (fun f fd F => ok_core F tW aW tL tN cDraw cTaken cEnds) (fun _ _ _ _ _ _ us hl => match us, hl with | [_, _], _ => rfl)
  have cGreat : Cal P w K mg base "_law_great_right" 7 ["_law_jar_here"] spGreat := D.d_sGreat.cal (fun f fd F => ok_great F tW aW tL tN cDraw cLetters cConL cTaken cEnds) (fun _ _ _ _ _ _ us hl => match us, hl with | [_], _ => rfl)
  exact ok_law FL tL tN cJar cDraw cPick cLetters cConL cPut cSR cBehind cCore cGreat
theorem at_mk {l : PySem.W.OpenLaw} {w : World} {K : PySem.W.Frag} {h : Heap} {mg : Str → Option Value} {fa C : Addr} (X : K.In h) (G : h.Ns mainGlobals mg) (hfa : mg "law" = some (.ref fa)) (N : Names mg) (D : Defs K mg C) (W : ClsW K mg C) :
    ∃ fd : FuncData, (∀ (s : Shared) (v : Value), BindsTo s fd ⟨[v], []⟩ [("_law_script", v)]) ∧ ∀ base : Heap, K.In base → base.Ns mainGlobals mg → FnOk l.prog w K mg base CX0 8 fa fd ["_law_script"] (spLaw K) := by
  obtain ⟨f, oc, od, kV, doc, pm, cdv, ct, an, osl, lL, c, kp, m⟩ := D.d_sLaw.ex
  have e := hfa.symm.trans m
  cases e
  exact ⟨_, fun s v => .of_eq rfl, fun base _ _ => law_mk N D W (fun_mk lL c kp)⟩
theorem walk {l : PySem.W.OpenLaw} {q : Program} {loose : List Str} {XP : (Str → Option Value) → Heap → Prop} {YP : World → Heap → Prop} {d : DefRec} {K : Params → PySem.W.Frag} (hn : l.most = some 63) (hdf : d.params.defaults = [])
    (hY : ∀ (w : World) (h : Heap), YP w h → (K w.params).In h)
    (F : ∀ (w : World) (mg : Str → Option Value) (fa : Addr) (h : Heap), (K w.params).In h → h.Ns mainGlobals mg → mg d.name = some (.ref fa) →
      ∃ fd : FuncData, (∀ (s : Shared) (u : Value), BindsTo s fd ⟨[u], []⟩ [("_law_script", u)]) ∧ ∀ base : Heap, (K w.params).In base → base.Ns mainGlobals mg → FnOk l.prog w (K w.params) mg base CX0 8 fa fd ["_law_script"] (spLaw (K w.params))) :
    PySem.W.WalkO q loose XP YP l.row.toRowW d [] (fun f vs => PySem.call f vs) :=
  L2.walk_of (n := 63) (k := 8) (x := "_law_script") (CX := fun _ => CX0) (sp := fun w => spLaw (K w.params)) hn (by decide) hdf ⟨rfl, by decide, by decide⟩ hY F (fun _ _ a ns hl _ hS => ⟨a, ns, rfl, hS, hl, fun _ => rfl⟩) fun _ _ _ _ _ z => z
end W05
set_option Elab.async false
set_option linter.all false
set_option maxRecDepth 100000
set_option maxHeartbeats 4000000
namespace W05
open PySem L2 PySem.Spec PyProof.Rows WR
theorem names_mk {K : PySem.W.Frag} {h : Heap} {mg : Str → Option Value} {u0 u1 : Tok} (X : K.In h) (G : h.Ns mainGlobals mg)
    (n0 : PySem.W.nsIn K mainGlobals "isinstance" = some none) (n1 : PySem.W.nsIn K mainGlobals "int" = some none) (n2 : PySem.W.nsIn K mainGlobals "bool" = some none) (n3 : PySem.W.nsIn K mainGlobals "str" = some none) (n4 : PySem.W.nsIn K mainGlobals "list" = some none) (n5 : PySem.W.nsIn K mainGlobals "tuple" = some none) (n6 : PySem.W.nsIn K mainGlobals "all" = some none) (n7 : PySem.W.nsIn K mainGlobals "len" = some none) (n8 : PySem.W.nsIn K mainGlobals "abs" = some none) (n9 : PySem.W.nsIn K mainGlobals "range" = some none) (n10 : PySem.W.nsIn K mainGlobals "sorted" = some none) (g0 : PySem.W.nsIn K mainGlobals "MOST_KIND" = some (some (.int 26 u0))) (g1 : PySem.W.nsIn K mainGlobals "MOST_LETTERS" = some (some (.int 500 u1))) : Names mg :=
  ⟨PySem.W.mg_none_of X G n0, PySem.W.mg_none_of X G n1, PySem.W.mg_none_of X G n2, PySem.W.mg_none_of X G n3, PySem.W.mg_none_of X G n4, PySem.W.mg_none_of X G n5, PySem.W.mg_none_of X G n6, PySem.W.mg_none_of X G n7, PySem.W.mg_none_of X G n8, PySem.W.mg_none_of X G n9, PySem.W.mg_none_of X G n10, ⟨_, PySem.W.mg_of X G g0⟩, ⟨_, PySem.W.mg_of X G g1⟩⟩
theorem cls_mk {K : PySem.W.Frag} {h : Heap} {mg : Str → Option Value} {C : Addr} (X : K.In h) (G : h.Ns mainGlobals mg)
    (aC : PySem.W.nsIn K mainGlobals "Word" = some (some (.ref C)))
    (pg : PySem.W.plainGet K C Str.empty = true) (hd : PySem.W.hasDictIn K C = true) (po : PySem.W.plainOver K C = true) (sa : PySem.W.findIn K (.ref C) "__setattr__" = some (some (.builtin "object.__setattr__")))
    (nL : PySem.W.findIn K (.ref C) "letters" = some none) (nN : PySem.W.findIn K (.ref C) "length" = some none) (nK : PySem.W.findIn K (.ref C) "kinds" = some none) (nS : PySem.W.findIn K (.ref C) "is_short" = some none) (nR : PySem.W.findIn K (.ref C) "is_short_round" = some none)
    (ca : PySem.W.findIn K (.ref C) "__class__" = some (some (.builtin "object.__class__")))
    (cn : PySem.W.specialIn K (.builtin "object.__class__") "__get__" = some (some (.builtin "getset_descriptor.__get__")))
    (ct : PySem.W.takesIn K (.builtin "object.__class__") = some true)
    (cm : PySem.W.mroIn K C (.type "object") = some true)
    (ne : PySem.W.findIn K (.ref C) "__ne__" = some (some (.builtin "object.__ne__")))
    (mk : PySem.W.makesIn K C = true) (kc : PySem.W.keepIn K (.ref C) = true) : ClsW K mg C :=
  ⟨⟨pg, hd, po, sa⟩, nL, nN, nK, nS, nR, ca, cn, ct, cm, ne, mk, kc, PySem.W.mg_of X G aC⟩
end W05

open PySem PySem.W PyProof.Rows in
set_option maxRecDepth 100000 in
set_option maxHeartbeats 0 in
theorem PySem.Challenge.cw_handlerims_k05_shortened_in_one_way_holds : PySem.Challenge.rw_handlerims_k05_shortened_in_one_way.Holds := by
  w_on; o_law; k_head; (case hw => w_witness2)
  k_fill
  refine W05.walk (l := PySem.Challenge.rw_handlerims_k05_shortened_in_one_way) rfl rfl (fun w h Y => PySem.W.kIn_of Y) ?F
  case F =>
    intro w mg fa h KX G hmg
    have hN : W05.Names mg := by
      refine' W05.names_mk KX G ?q_n0 ?q_n1 ?q_n2 ?q_n3 ?q_n4 ?q_n5 ?q_n6 ?q_n7 ?q_n8 ?q_n9 ?q_n10 ?q_g0 ?q_g1
      (case q_n0 => k_is)
      (case q_n1 => k_is)
      (case q_n2 => k_is)
      (case q_n3 => k_is)
      (case q_n4 => k_is)
      (case q_n5 => k_is)
      (case q_n6 => k_is)
      (case q_n7 => k_is)
      (case q_n8 => k_is)
      (case q_n9 => k_is)
      (case q_n10 => k_is)
      (case q_g0 => k_is)
      (case q_g1 => k_is)
    refine' W05.at_mk KX G hmg hN ?q_D ?q_W
    case q_W =>
      refine' W05.cls_mk KX G ?q_aC ?q_pg ?q_hd ?q_po ?q_sa ?q_nL ?q_nN ?q_nK ?q_nS ?q_nR ?q_ca ?q_cn ?q_ct ?q_cm ?q_ne ?q_mk ?q_kc
      (case q_aC => k_is)
      (case q_pg => k_is)
      (case q_hd => k_is)
      (case q_po => k_is)
      (case q_sa => k_is)
      (case q_nL => k_is)
      (case q_nN => k_is)
      (case q_nK => k_is)
      (case q_nS => k_is)
      (case q_nR => k_is)
      (case q_ca => k_is)
      (case q_cn => k_is)
      (case q_ct => k_is)
      (case q_cm => k_is)
      (case q_ne => k_is)
      (case q_mk => k_is)
      (case q_kc => k_is)
    case q_D =>
      refine' { d_sIsInt := W05.ff_mk KX G ?q_a0 ?q_l0 ?q_c0 ?q_k0, d_sWithin := W05.ff_mk KX G ?q_a1 ?q_l1 ?q_c1 ?q_k1, d_sLetter := W05.ff_mk KX G ?q_a2 ?q_l2 ?q_c2 ?q_k2, d_sListed := W05.ff_mk KX G ?q_a3 ?q_l3 ?q_c3 ?q_k3, d_sCon := W05.ff_mk KX G ?q_a4 ?q_l4 ?q_c4 ?q_k4, d_sShr := W05.ff_mk KX G ?q_a5 ?q_l5 ?q_c5 ?q_k5, d_sRnd := W05.ff_mk KX G ?q_a6 ?q_l6 ?q_c6 ?q_k6, d_sKinds := W05.ff_mk KX G ?q_a7 ?q_l7 ?q_c7 ?q_k7, d_sNeedI := W05.ff_mk KX G ?q_a8 ?q_l8 ?q_c8 ?q_k8, d_sNeedW := W05.ff_mk KX G ?q_a9 ?q_l9 ?q_c9 ?q_k9, d_sFew := W05.ff_mk KX G ?q_a10 ?q_l10 ?q_c10 ?q_k10, d_sJar := W05.ff_mk KX G ?q_a11 ?q_l11 ?q_c11 ?q_k11, d_sDraw := W05.ff_mk KX G ?q_a12 ?q_l12 ?q_c12 ?q_k12, d_sPick := W05.ff_mk KX G ?q_a13 ?q_l13 ?q_c13 ?q_k13, d_sLetters := W05.ff_mk KX G ?q_a14 ?q_l14 ?q_c14 ?q_k14, d_sConL := W05.ff_mk KX G ?q_a15 ?q_l15 ?q_c15 ?q_k15, d_sTaken := W05.ff_mk KX G ?q_a16 ?q_l16 ?q_c16 ?q_k16, d_sEnds := W05.ff_mk KX G ?q_a17 ?q_l17 ?q_c17 ?q_k17, d_sPut := W05.ff_mk KX G ?q_a18 ?q_l18 ?q_c18 ?q_k18, d_sSR := W05.ff_mk KX G ?q_a19 ?q_l19 ?q_c19 ?q_k19, d_sBehind := W05.ff_mk KX G ?q_a20 ?q_l20 ?q_c20 ?q_k20, d_sCore := W05.ff_mk KX G ?q_a21 ?q_l21 ?q_c21 ?q_k21, d_sGreat := W05.ff_mk KX G ?q_a22 ?q_l22 ?q_c22 ?q_k22, d_sLaw := W05.ff_mk KX G ?q_a23 ?q_l23 ?q_c23 ?q_k23, m_sInit := W05.fm_mk ?q_ma0 ?q_mi0 ?q_ml0 ?q_mc0 ?q_mk0, m_sEq := W05.fm_mk ?q_ma1 ?q_mi1 ?q_ml1 ?q_mc1 ?q_mk1, m_sContrary := W05.fm_mk ?q_ma2 ?q_mi2 ?q_ml2 ?q_mc2 ?q_mk2, m_sShort := W05.fm_mk ?q_ma3 ?q_mi3 ?q_ml3 ?q_mc3 ?q_mk3, m_sRound := W05.fm_mk ?q_ma4 ?q_mi4 ?q_ml4 ?q_mc4 ?q_mk4, m_sThen := W05.fm_mk ?q_ma5 ?q_mi5 ?q_ml5 ?q_mc5 ?q_mk5, m_sTimes := W05.fm_mk ?q_ma6 ?q_mi6 ?q_ml6 ?q_mc6 ?q_mk6 }
      (case q_a0 => k_is); (case q_l0 => k_is); (case q_c0 => k_is); (case q_k0 => k_is)
      (case q_a1 => k_is); (case q_l1 => k_is); (case q_c1 => k_is); (case q_k1 => k_is)
      (case q_a2 => k_is); (case q_l2 => k_is); (case q_c2 => k_is); (case q_k2 => k_is)
      (case q_a3 => k_is); (case q_l3 => k_is); (case q_c3 => k_is); (case q_k3 => k_is)
      (case q_a4 => k_is); (case q_l4 => k_is); (case q_c4 => k_is); (case q_k4 => k_is)
      (case q_a5 => k_is); (case q_l5 => k_is); (case q_c5 => k_is); (case q_k5 => k_is)
      (case q_a6 => k_is); (case q_l6 => k_is); (case q_c6 => k_is); (case q_k6 => k_is)
      (case q_a7 => k_is); (case q_l7 => k_is); (case q_c7 => k_is); (case q_k7 => k_is)
      (case q_a8 => k_is); (case q_l8 => k_is); (case q_c8 => k_is); (case q_k8 => k_is)
      (case q_a9 => k_is); (case q_l9 => k_is); (case q_c9 => k_is); (case q_k9 => k_is)
      (case q_a10 => k_is); (case q_l10 => k_is); (case q_c10 => k_is); (case q_k10 => k_is)
      (case q_a11 => k_is); (case q_l11 => k_is); (case q_c11 => k_is); (case q_k11 => k_is)
      (case q_a12 => k_is); (case q_l12 => k_is); (case q_c12 => k_is); (case q_k12 => k_is)
      (case q_a13 => k_is); (case q_l13 => k_is); (case q_c13 => k_is); (case q_k13 => k_is)
      (case q_a14 => k_is); (case q_l14 => k_is); (case q_c14 => k_is); (case q_k14 => k_is)
      (case q_a15 => k_is); (case q_l15 => k_is); (case q_c15 => k_is); (case q_k15 => k_is)
      (case q_a16 => k_is); (case q_l16 => k_is); (case q_c16 => k_is); (case q_k16 => k_is)
      (case q_a17 => k_is); (case q_l17 => k_is); (case q_c17 => k_is); (case q_k17 => k_is)
      (case q_a18 => k_is); (case q_l18 => k_is); (case q_c18 => k_is); (case q_k18 => k_is)
      (case q_a19 => k_is); (case q_l19 => k_is); (case q_c19 => k_is); (case q_k19 => k_is)
      (case q_a20 => k_is); (case q_l20 => k_is); (case q_c20 => k_is); (case q_k20 => k_is)
      (case q_a21 => k_is); (case q_l21 => k_is); (case q_c21 => k_is); (case q_k21 => k_is)
      (case q_a22 => k_is); (case q_l22 => k_is); (case q_c22 => k_is); (case q_k22 => k_is)
      (case q_a23 => k_is); (case q_l23 => k_is); (case q_c23 => k_is); (case q_k23 => k_is)
      (case q_ma0 => k_is); (case q_mi0 => k_is); (case q_ml0 => k_is); (case q_mc0 => k_is); (case q_mk0 => k_is)
      (case q_ma1 => k_is); (case q_mi1 => k_is); (case q_ml1 => k_is); (case q_mc1 => k_is); (case q_mk1 => k_is)
      (case q_ma2 => k_is); (case q_mi2 => k_is); (case q_ml2 => k_is); (case q_mc2 => k_is); (case q_mk2 => k_is)
      (case q_ma3 => k_is); (case q_mi3 => k_is); (case q_ml3 => k_is); (case q_mc3 => k_is); (case q_mk3 => k_is)
      (case q_ma4 => k_is); (case q_mi4 => k_is); (case q_ml4 => k_is); (case q_mc4 => k_is); (case q_mk4 => k_is)
      (case q_ma5 => k_is); (case q_mi5 => k_is); (case q_ml5 => k_is); (case q_mc5 => k_is); (case q_mk5 => k_is)
      (case q_ma6 => k_is); (case q_mi6 => k_is); (case q_ml6 => k_is); (case q_mc6 => k_is); (case q_mk6 => k_is)
