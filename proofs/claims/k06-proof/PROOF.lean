import PyProof.Rows.All
import Wide.All
import OpenK.AllK
import Wide.FinOn
import HandS.ForMost
import HandS.Strs
import HandS.SetBool
import HandS.TupAny
import HandS.TupMul
import KE.KRevSl
import HandS.Exc
import HandS.TryOnly
import HandS.ExcOwn
import HandS.WordsExc
import HandS.Wide
import HandS.IsInst
import HandS.Style
import HandS.Flow
import HandS.Evl
import HandS.MakeKwOnly
import HandS.Walk
import KE.KEqSeq
import HandS.OwnEq
import HandS.More
import PyProof.InstNe
import KE.DatumOrd
import PySem.Challenge.RW_handlerims_k06_least_turned_and_turns_th
set_option Elab.async false
set_option linter.all false
/-! Rows of letters, shortened: neighbours that are contraries taken out. -/
namespace Fr

/-- a letter laid on what is left, its last one in front -/
def push : List Int → Int → List Int
  | [], a => [a]
  | b :: t, a => if b = -a then t else a :: b :: t

def act (s : List Int) (xs : List Int) : List Int := xs.foldl push s

/-- no neighbours are contraries -/
def Rd : List Int → Prop
  | [] => True
  | [_] => True
  | a :: b :: t => a ≠ -b ∧ Rd (b :: t)

/-- what is left of a row of letters -/
def shr (xs : List Int) : List Int := (act [] xs).reverse

/-- the contraries, the last one first -/
def con (xs : List Int) : List Int := xs.reverse.map (fun a => -a)

/-- so many times -/
def rep : Nat → List Int → List Int
  | 0, _ => []
  | n + 1, xs => xs ++ rep n xs

theorem Rd.tail {a : Int} {t : List Int} (h : Rd (a :: t)) : Rd t := by
  cases t with
  | nil => trivial
  | cons b u => exact h.2

theorem push_rd {s : List Int} (a : Int) (h : Rd s) : Rd (push s a) := by
  cases s with
  | nil => trivial
  | cons b t =>
    show Rd (if b = -a then t else a :: b :: t)
    by_cases e : b = -a
    · rw [if_pos e]; exact h.tail
    · rw [if_neg e]
      refine ⟨?_, h⟩
      omega

theorem push_push {s : List Int} (a : Int) (h : Rd s) : push (push s a) (-a) = s := by
  cases s with
  | nil => simp [push]
  | cons b t =>
    by_cases e : b = -a
    · have h1 : push (b :: t) a = t := by simp [push, e]
      rw [h1]
      cases t with
      | nil => simp [push, e]
      | cons c u =>
        have hc : c ≠ - -a := by
          intro hc
          exact h.1 (by omega)
        simp [push, e]
        omega
    · have h1 : push (b :: t) a = a :: b :: t := by simp [push, e]
      rw [h1]
      simp [push]

theorem push_push' {s : List Int} (a : Int) (h : Rd s) : push (push s (-a)) a = s := by
  have := push_push (-a) h
  rwa [Int.neg_neg] at this

theorem act_nil (s : List Int) : act s [] = s := rfl
theorem act_cons (s : List Int) (a : Int) (t : List Int) : act s (a :: t) = act (push s a) t := rfl
theorem act_append (s xs ys : List Int) : act s (xs ++ ys) = act (act s xs) ys := List.foldl_append
theorem act_snoc (s xs : List Int) (a : Int) : act s (xs ++ [a]) = push (act s xs) a := act_append s xs [a]

theorem act_rd : ∀ {xs s : List Int}, Rd s → Rd (act s xs)
  | [], _, h => h
  | a :: t, _, h => act_rd (xs := t) (push_rd a h)

/-- two rows are one and the same when they act alike -/
def Sm (xs ys : List Int) : Prop := ∀ s, Rd s → act s xs = act s ys

theorem Sm.refl (xs : List Int) : Sm xs xs := fun _ _ => rfl
theorem Sm.symm {xs ys : List Int} (h : Sm xs ys) : Sm ys xs := fun s r => (h s r).symm
theorem Sm.trans {xs ys zs : List Int} (h : Sm xs ys) (k : Sm ys zs) : Sm xs zs := fun s r => (h s r).trans (k s r)
theorem Sm.app {xs ys us vs : List Int} (h : Sm xs ys) (k : Sm us vs) : Sm (xs ++ us) (ys ++ vs) := fun s r => by
  rw [act_append, act_append, h s r, k _ (act_rd r)]
theorem Sm.out (a : Int) : Sm [a, -a] [] := fun s r => push_push a r
theorem Sm.out' (a : Int) : Sm [-a, a] [] := fun s r => push_push' a r
theorem Sm.mid {xs us vs ys : List Int} (h : Sm us vs) : Sm (xs ++ us ++ ys) (xs ++ vs ++ ys) := ((Sm.refl xs).app h).app (Sm.refl ys)

/-- what is left acts as the whole did -/
theorem sm_stack : ∀ xs : List Int, Sm (act [] xs).reverse xs := by
  intro xs
  have gen : ∀ (n : Nat) (xs : List Int), xs.length = n → Sm (act [] xs).reverse xs := by
    intro n
    induction n with
    | zero =>
      intro xs h
      cases xs with
      | nil => exact Sm.refl _
      | cons a t => simp at h
    | succ n ih =>
      intro xs h
      obtain ⟨ys, a, rfl⟩ : ∃ ys a, xs = ys ++ [a] := by
        refine ⟨xs.dropLast, xs.getLast (by intro e; rw [e] at h; simp at h), ?_⟩
        exact (List.dropLast_concat_getLast _).symm
      have hy : ys.length = n := by simp at h; exact h
      have k := ih ys hy
      intro s r
      rw [act_snoc, act_snoc]
      cases e : act [] ys with
      | nil =>
        have k2 := k s r
        rw [e] at k2
        rw [← k2]
        rfl
      | cons b t =>
        have k2 := k s r
        rw [e, List.reverse_cons, act_snoc] at k2
        rw [← k2]
        by_cases eb : b = -a
        · have h1 : push (b :: t) a = t := by simp [push, eb]
          rw [h1, eb]
          exact (push_push' a (act_rd r)).symm
        · have h1 : push (b :: t) a = a :: b :: t := by simp [push, eb]
          rw [h1, List.reverse_cons, List.reverse_cons, act_snoc, act_snoc]
  exact gen _ xs rfl

theorem sm_shr (xs : List Int) : Sm (shr xs) xs := sm_stack xs
theorem shr_of_sm {xs ys : List Int} (h : Sm xs ys) : shr xs = shr ys := by
  unfold shr
  rw [h [] trivial]
theorem sm_of_shr {xs ys : List Int} (h : shr xs = shr ys) : Sm xs ys := by
  refine (sm_shr xs).symm.trans ?_
  rw [h]
  exact sm_shr ys
theorem shr_shr (xs : List Int) : shr (shr xs) = shr xs := shr_of_sm (sm_shr xs)
theorem shr_app (xs ys : List Int) : shr (shr xs ++ shr ys) = shr (xs ++ ys) := shr_of_sm ((sm_shr xs).app (sm_shr ys))
theorem shr_out (xs : List Int) (a : Int) (ys : List Int) : shr (xs ++ a :: -a :: ys) = shr (xs ++ ys) := by
  refine shr_of_sm ?_
  have h : Sm (xs ++ [a, -a] ++ ys) (xs ++ [] ++ ys) := Sm.mid (Sm.out a)
  simpa using h

/-! ### short ones -/
theorem rd_cons {a : Int} {t : List Int} : Rd (a :: t) ↔ (∀ b, t.head? = some b → a ≠ -b) ∧ Rd t := by
  cases t with
  | nil => simp [Rd]
  | cons b u => simp [Rd]
theorem rd_append {xs ys : List Int} : Rd (xs ++ ys) ↔ Rd xs ∧ Rd ys ∧ ∀ a b, xs.getLast? = some a → ys.head? = some b → a ≠ -b := by
  induction xs with
  | nil => simp [Rd]
  | cons x t ih =>
    rw [List.cons_append, rd_cons, rd_cons, ih]
    cases t with
    | nil =>
      simp [Rd]
      constructor
      · rintro ⟨h1, h2⟩
        exact ⟨h2, fun a b ha hb => ha ▸ h1 b hb⟩
      · rintro ⟨h1, h2⟩
        exact ⟨fun b hb => h2 x b rfl hb, h1⟩
    | cons y u =>
      simp [List.getLast?_cons_cons]
      constructor
      · rintro ⟨h1, h2, h3, h4⟩
        exact ⟨⟨h1, h2⟩, h3, h4⟩
      · rintro ⟨⟨h1, h2⟩, h3, h4⟩
        exact ⟨h1, h2, h3, h4⟩
theorem rd_reverse {xs : List Int} : Rd xs.reverse ↔ Rd xs := by
  induction xs with
  | nil => simp [Rd]
  | cons x t ih =>
    rw [List.reverse_cons, rd_append, ih, rd_cons (a := x) (t := t)]
    have one : Rd [x] := trivial
    simp [one]
    constructor
    · rintro ⟨h1, h2⟩
      refine ⟨fun b hb => ?_, h1⟩
      have := h2 b hb
      omega
    · rintro ⟨h1, h2⟩
      refine ⟨h2, fun b hb => ?_⟩
      have := h1 b hb
      omega
theorem rd_shr (xs : List Int) : Rd (shr xs) := rd_reverse.2 (act_rd trivial)
theorem act_short : ∀ (xs s : List Int), Rd (s.reverse ++ xs) → act s xs = xs.reverse ++ s
  | [], s, _ => by simp [act]
  | a :: t, s, h => by
    rw [act_cons]
    have hp : push s a = a :: s := by
      cases s with
      | nil => rfl
      | cons b u =>
        have h3 := (rd_append.1 h).2.2 b a (by simp) (by simp)
        show (if b = -a then u else a :: b :: u) = _
        rw [if_neg h3]
    rw [hp, act_short t (a :: s) (by simpa using h)]
    simp
theorem shr_short {xs : List Int} (h : Rd xs) : shr xs = xs := by
  unfold shr
  rw [act_short xs [] (by simpa using h)]
  simp
theorem shr_iff {xs : List Int} : shr xs = xs ↔ Rd xs := ⟨fun h => h ▸ rd_shr xs, shr_short⟩
/-- a short one that acts alike is what is left -/
theorem shr_eq {xs ys : List Int} (h : Sm xs ys) (r : Rd ys) : shr xs = ys := (shr_of_sm h).trans (shr_short r)

/-! ### contraries -/
theorem con_nil : con [] = [] := rfl
theorem con_cons (a : Int) (t : List Int) : con (a :: t) = con t ++ [-a] := by simp [con]
theorem con_append (xs ys : List Int) : con (xs ++ ys) = con ys ++ con xs := by simp [con]
theorem con_con (xs : List Int) : con (con xs) = xs := by
  simp [con, List.map_reverse, Function.comp_def]
theorem con_length (xs : List Int) : (con xs).length = xs.length := by simp [con]
theorem con_head (xs : List Int) : (con xs).head? = xs.getLast?.map fun a => -a := by
  simp [con]
theorem con_last (xs : List Int) : (con xs).getLast? = xs.head?.map fun a => -a := by
  simp [con, List.map_reverse]
theorem sm_con : ∀ xs : List Int, Sm (xs ++ con xs) []
  | [] => Sm.refl _
  | a :: t => by
    rw [con_cons]
    have h : Sm ([a] ++ (t ++ con t) ++ [-a]) ([a] ++ [] ++ [-a]) := Sm.mid (sm_con t)
    have k : Sm ([a] ++ [] ++ [-a]) [] := Sm.out a
    have := h.trans k
    simpa using this
theorem sm_con' (xs : List Int) : Sm (con xs ++ xs) [] := by
  have := sm_con (con xs)
  rwa [con_con] at this
theorem Sm.con {xs ys : List Int} (h : Sm xs ys) : Sm (con xs) (con ys) := by
  have h1 : Sm (Fr.con xs ++ (ys ++ Fr.con ys)) (Fr.con xs ++ []) := (Sm.refl _).app (sm_con ys)
  have h2 : Sm (Fr.con xs ++ ys ++ Fr.con ys) (Fr.con xs ++ xs ++ Fr.con ys) := Sm.mid h.symm
  have h3 : Sm (Fr.con xs ++ xs ++ Fr.con ys) ([] ++ Fr.con ys) := (sm_con' xs).app (Sm.refl _)
  rw [List.append_nil, ← List.append_assoc] at h1
  exact (h1.symm.trans h2).trans h3
theorem rd_con {xs : List Int} : Rd (con xs) ↔ Rd xs := by
  have one : ∀ xs : List Int, Rd xs → Rd (con xs) := by
    intro xs
    induction xs with
    | nil => exact fun _ => trivial
    | cons a t ih =>
      intro h
      rw [con_cons, rd_append]
      refine ⟨ih h.tail, trivial, fun x y hx hy => ?_⟩
      rw [con_last] at hx
      cases t with
      | nil => simp at hx
      | cons b u =>
        simp at hx hy
        have := h.1
        omega
  refine ⟨fun h => ?_, one xs⟩
  have := one _ h
  rwa [con_con] at this
theorem shr_con (xs : List Int) : shr (con xs) = con (shr xs) := shr_eq (sm_shr xs).con.symm (rd_con.2 (rd_shr xs))

/-! ### so many times -/
theorem rep_zero (xs : List Int) : rep 0 xs = [] := rfl
theorem rep_succ (n : Nat) (xs : List Int) : rep (n + 1) xs = xs ++ rep n xs := rfl
theorem rep_one (xs : List Int) : rep 1 xs = xs := by simp [rep]
theorem rep_add (m n : Nat) (xs : List Int) : rep (m + n) xs = rep m xs ++ rep n xs := by
  induction m with
  | zero => simp [rep]
  | succ m ih => rw [Nat.succ_add, rep_succ, rep_succ, ih, List.append_assoc]
theorem rep_length (n : Nat) (xs : List Int) : (rep n xs).length = n * xs.length := by
  induction n with
  | zero => simp [rep]
  | succ n ih => rw [rep_succ, List.length_append, ih, Nat.succ_mul, Nat.add_comm]
theorem rep_nil (n : Nat) : rep n [] = [] := by
  induction n with
  | zero => rfl
  | succ n ih => rw [rep_succ, ih]; rfl
theorem Sm.rep {xs ys : List Int} (h : Sm xs ys) (n : Nat) : Sm (rep n xs) (rep n ys) := by
  induction n with
  | zero => exact Sm.refl _
  | succ n ih => exact h.app ih
theorem shr_rep (n : Nat) (xs : List Int) : shr (rep n (shr xs)) = shr (rep n xs) := shr_of_sm ((sm_shr xs).rep n)
theorem rep_succ' (n : Nat) (xs : List Int) : rep (n + 1) xs = rep n xs ++ xs := by
  rw [rep_add n 1, rep_one]
theorem con_rep (n : Nat) (xs : List Int) : con (rep n xs) = rep n (con xs) := by
  induction n with
  | zero => rfl
  | succ n ih => rw [rep_succ, con_append, ih, ← rep_succ']

/-! ### the ends -/
/-- short, and its ends are no contraries -/
def Cy (w : List Int) : Prop := Rd w ∧ ∀ a b, w.head? = some a → w.getLast? = some b → a ≠ -b
/-- no letter is 0 -/
def NZ (xs : List Int) : Prop := ∀ a ∈ xs, a ≠ 0
theorem cy_nil : Cy [] := ⟨trivial, fun a b h => by simp at h⟩
theorem NZ.app {xs ys : List Int} (h : NZ xs) (k : NZ ys) : NZ (xs ++ ys) := fun a ha => by
  rcases List.mem_append.1 ha with h1 | h1
  · exact h a h1
  · exact k a h1
theorem NZ.left {xs ys : List Int} (h : NZ (xs ++ ys)) : NZ xs := fun a ha => h a (List.mem_append_left _ ha)
theorem NZ.right {xs ys : List Int} (h : NZ (xs ++ ys)) : NZ ys := fun a ha => h a (List.mem_append_right _ ha)
theorem NZ.con {xs : List Int} (h : NZ xs) : NZ (con xs) := fun a ha => by
  unfold Fr.con at ha
  obtain ⟨b, hb, rfl⟩ := List.mem_map.1 ha
  have := h b (List.mem_reverse.1 hb)
  omega
theorem push_mem {s : List Int} {a x : Int} (h : x ∈ push s a) : x = a ∨ x ∈ s := by
  cases s with
  | nil => left; simpa [push] using h
  | cons b t =>
    have h2 : x ∈ (if b = -a then t else a :: b :: t) := h
    by_cases e : b = -a
    · rw [if_pos e] at h2; exact .inr (List.mem_cons_of_mem _ h2)
    · rw [if_neg e] at h2
      rcases List.mem_cons.1 h2 with h3 | h3
      · exact .inl h3
      · exact .inr h3
theorem act_mem : ∀ {xs s : List Int} {x : Int}, x ∈ act s xs → x ∈ xs ∨ x ∈ s
  | [], _, _, h => .inr h
  | a :: t, s, x, h => by
    rw [act_cons] at h
    rcases act_mem h with h1 | h1
    · exact .inl (List.mem_cons_of_mem _ h1)
    · rcases push_mem h1 with h2 | h2
      · exact .inl (h2 ▸ List.mem_cons_self)
      · exact .inr h2
theorem shr_mem {xs : List Int} {x : Int} (h : x ∈ shr xs) : x ∈ xs := by
  unfold shr at h
  rcases act_mem (List.mem_reverse.1 h) with h1 | h1
  · exact h1
  · simp at h1
theorem NZ.shr {xs : List Int} (h : NZ xs) : NZ (shr xs) := fun a ha => h a (shr_mem ha)

/-- a row between a letter and its contrary, or one that has no such ends -/
theorem ends_or (xs : List Int) (nz : NZ xs) : (∃ a m, xs = a :: (m ++ [-a])) ∨ ∀ a b, xs.head? = some a → xs.getLast? = some b → a ≠ -b := by
  cases xs with
  | nil => right; intro a b h; simp at h
  | cons a t =>
    by_cases ht : t = []
    · subst ht
      right
      intro x y hx hy
      simp at hx hy
      have := nz a (by simp)
      omega
    · have e := List.dropLast_concat_getLast ht
      by_cases hb : t.getLast ht = -a
      · left
        refine ⟨a, t.dropLast, ?_⟩
        rw [← hb, e]
      · right
        intro x y hx hy
        rw [← e] at hy
        rw [show a :: (t.dropLast ++ [t.getLast ht]) = (a :: t.dropLast) ++ [t.getLast ht] from rfl] at hy
        rw [List.getLast?_append] at hy
        simp at hx hy
        omega
/-- every short row is a row, one that is short round, and the contrary of the first -/
theorem parted (xs : List Int) (nz : NZ xs) (r : Rd xs) : ∃ u w, xs = u ++ w ++ con u ∧ Cy w ∧ (w = [] → u = []) := by
  have gen : ∀ (n : Nat) (xs : List Int), xs.length ≤ n → NZ xs → Rd xs → ∃ u w, xs = u ++ w ++ con u ∧ Cy w ∧ (w = [] → u = []) := by
    intro n
    induction n with
    | zero =>
      intro xs h _ _
      have : xs = [] := List.length_eq_zero_iff.1 (by omega)
      subst this
      exact ⟨[], [], rfl, cy_nil, fun _ => rfl⟩
    | succ n ih =>
      intro xs h nz r
      rcases ends_or xs nz with ⟨a, m, rfl⟩ | k
      · have hr : Rd (m ++ [-a]) := r.tail
        have hm : Rd m := (rd_append.1 hr).1
        obtain ⟨u, w, e, c, z⟩ := ih m (by simp at h; omega) (fun x hx => nz x (by simp [hx])) hm
        have hne : m ≠ [] := by
          intro e0
          subst e0
          have := r.1
          simp at this
        refine ⟨a :: u, w, ?_, c, fun hw => ?_⟩
        · rw [con_cons, e]; simp
        · exfalso
          have hu := z hw
          subst hw hu
          exact hne (by simpa [con] using e)
      · exact ⟨[], xs, by simp [con], ⟨r, k⟩, fun _ => rfl⟩
  exact gen xs.length xs (Nat.le_refl _) nz r

/-- the ends off, as long as they are contraries -/
def endsN : Nat → List Int → List Int
  | 0, xs => xs
  | n + 1, xs => if 1 < xs.length ∧ xs.head? = xs.getLast?.map (fun a => -a) then endsN n xs.tail.dropLast else xs
def ends (xs : List Int) : List Int := endsN xs.length xs
theorem endsN_cy : ∀ (n : Nat) {w : List Int}, Cy w → endsN n w = w
  | 0, _, _ => rfl
  | n + 1, w, h => by
    unfold endsN
    rw [if_neg]
    rintro ⟨h1, h2⟩
    cases e : w.getLast? with
    | none =>
      rw [List.getLast?_eq_none_iff] at e
      subst e
      simp at h1
    | some b =>
      rw [e] at h2
      exact h.2 (-b) b h2 e rfl
theorem endsN_eq : ∀ (n : Nat) (u w : List Int), Cy w → u.length ≤ n → (w = [] → u = []) → endsN n (u ++ w ++ con u) = w
  | n, [], w, c, _, _ => by
    simp [con]
    exact endsN_cy n c
  | 0, a :: u, w, c, h, _ => by simp at h
  | n + 1, a :: u, w, c, h, z => by
    have e : (a :: u) ++ w ++ con (a :: u) = a :: ((u ++ w ++ con u) ++ [-a]) := by
      rw [con_cons]; simp
    rw [e]
    unfold endsN
    rw [if_pos]
    · rw [List.tail_cons, List.dropLast_concat]
      refine endsN_eq n u w c (by simp at h; exact h) fun hw => ?_
      have := z hw
      simp at this
    · constructor
      · simp only [List.length_cons, List.length_append, List.length_nil]; omega
      · rw [show a :: ((u ++ w ++ con u) ++ [-a]) = (a :: (u ++ w ++ con u)) ++ [-a] from rfl, List.getLast?_append]
        simp
theorem ends_eq {u w : List Int} (c : Cy w) (z : w = [] → u = []) : ends (u ++ w ++ con u) = w :=
  endsN_eq _ u w c (by simp) z
theorem ends_cy {w : List Int} (c : Cy w) : ends w = w := endsN_cy _ c
/-- what is left of a ring -/
def rnd (xs : List Int) : List Int := ends (shr xs)
theorem rnd_of {xs u w : List Int} (h : Sm xs (u ++ w ++ con u)) (r : Rd (u ++ w ++ con u)) (c : Cy w) (z : w = [] → u = []) : rnd xs = w := by
  unfold rnd
  rw [shr_eq h r]
  exact ends_eq c z
theorem rnd_cy {xs : List Int} (nz : NZ xs) : Cy (rnd xs) := by
  obtain ⟨u, w, e, c, z⟩ := parted (shr xs) nz.shr (rd_shr xs)
  unfold rnd
  rw [e, ends_eq c z]
  exact c
theorem rnd_sm {xs ys : List Int} (h : Sm xs ys) : rnd xs = rnd ys := by
  unfold rnd
  rw [shr_of_sm h]
theorem rnd_iff {xs : List Int} (nz : NZ xs) : rnd xs = xs ↔ Cy xs := by
  constructor
  · intro h
    rw [← h]
    exact rnd_cy nz
  · intro c
    unfold rnd
    rw [shr_short c.1, ends_cy c]

/-! ### turned -/
def Trn (xs ys : List Int) : Prop := ∃ p q, xs = p ++ q ∧ ys = q ++ p
theorem Trn.refl (xs : List Int) : Trn xs xs := ⟨[], xs, rfl, by simp⟩
theorem Trn.symm {xs ys : List Int} (h : Trn xs ys) : Trn ys xs := by
  obtain ⟨p, q, e1, e2⟩ := h
  exact ⟨q, p, e2, e1⟩
theorem Trn.trans {xs ys zs : List Int} (h : Trn xs ys) (k : Trn ys zs) : Trn xs zs := by
  obtain ⟨p, q, rfl, e⟩ := h
  obtain ⟨p2, q2, e2, rfl⟩ := k
  rw [e] at e2
  rcases List.append_eq_append_iff.1 e2 with ⟨c, h1, h2⟩ | ⟨c, h1, h2⟩
  · subst h1 h2
    exact ⟨c, q2 ++ q, by simp, by simp⟩
  · subst h1 h2
    exact ⟨p ++ p2, c, by simp, by simp⟩
theorem Trn.cy {xs ys : List Int} (h : Trn xs ys) (c : Cy xs) : Cy ys := by
  obtain ⟨p, q, rfl, rfl⟩ := h
  by_cases hp : p = []
  · subst hp; simpa using c
  by_cases hq : q = []
  · subst hq; simpa using c
  obtain ⟨r, l⟩ := c
  obtain ⟨r1, r2, r3⟩ := rd_append.1 r
  obtain ⟨a, t, rfl⟩ := List.exists_cons_of_ne_nil hp
  obtain ⟨b, s, rfl⟩ := List.exists_cons_of_ne_nil hq
  refine ⟨rd_append.2 ⟨r2, r1, fun x y hx hy => ?_⟩, fun x y hx hy => ?_⟩
  · have := l y x (by simpa using hy) (by rw [List.getLast?_append, hx]; rfl)
    omega
  · have := r3 y x (by rw [List.getLast?_append] at hy; rw [List.getLast?_eq_some_getLast (by simp)] at hy ⊢; simpa using hy) (by simpa using hx)
    omega
/-- a letter ahead and its contrary behind -/
theorem rnd_moved1 (a : Int) (ha : a ≠ 0) (xs : List Int) (nz : NZ xs) : Trn (rnd xs) (rnd ([a] ++ xs ++ [-a])) := by
  obtain ⟨u, w, e, c, z⟩ := parted (shr xs) nz.shr (rd_shr xs)
  have hr : rnd xs = w := by
    unfold rnd
    rw [e, ends_eq c z]
  have rs := rd_shr xs
  rw [e] at rs
  have base : Sm ([a] ++ xs ++ [-a]) ([a] ++ (u ++ w ++ con u) ++ [-a]) := by
    rw [← e]
    exact Sm.mid (sm_shr xs).symm
  rw [hr]
  cases u with
  | cons b u =>
    have wne : w ≠ [] := fun h => by simp at z; exact z h
    have e2 : (b :: u) ++ w ++ con (b :: u) = b :: ((u ++ w ++ con u) ++ [-b]) := by rw [con_cons]; simp
    rw [e2] at rs base
    by_cases hb : b = -a
    · have inner : Rd (u ++ w ++ con u) := (rd_append.1 rs.tail).1
      have sm : Sm ([a] ++ (b :: ((u ++ w ++ con u) ++ [-b])) ++ [-a]) (u ++ w ++ con u) := by
        subst hb
        have h1 : Sm ([a, -a] ++ (u ++ w ++ con u) ++ [a, -a]) ([] ++ (u ++ w ++ con u) ++ []) := ((Sm.out a).app (Sm.refl _)).app (Sm.out a)
        simpa using h1
      rw [rnd_of (base.trans sm) inner c fun h => absurd h wne]
      exact Trn.refl _
    · have whole : Rd ((a :: b :: u) ++ w ++ con (a :: b :: u)) := by
        have e3 : (a :: b :: u) ++ w ++ con (a :: b :: u) = [a] ++ (b :: ((u ++ w ++ con u) ++ [-b])) ++ [-a] := by
          rw [con_cons, con_cons]; simp
        rw [e3, rd_append, rd_append]
        refine ⟨⟨trivial, rs, fun x y hx hy => ?_⟩, trivial, fun x y hx hy => ?_⟩
        · simp at hx hy; omega
        · rw [show [a] ++ (b :: ((u ++ w ++ con u) ++ [-b])) = (a :: b :: (u ++ w ++ con u)) ++ [-b] by simp] at hx
          rw [List.getLast?_append] at hx
          simp at hx hy
          omega
      have sm : Sm ([a] ++ (b :: ((u ++ w ++ con u) ++ [-b])) ++ [-a]) ((a :: b :: u) ++ w ++ con (a :: b :: u)) := by
        have e3 : (a :: b :: u) ++ w ++ con (a :: b :: u) = [a] ++ (b :: ((u ++ w ++ con u) ++ [-b])) ++ [-a] := by
          rw [con_cons, con_cons]; simp
        rw [e3]
        exact Sm.refl _
      rw [rnd_of (base.trans sm) whole c fun h => absurd h wne]
      exact Trn.refl _
  | nil =>
    have e2 : ([] : List Int) ++ w ++ con [] = w := by simp [con]
    rw [e2] at rs base
    cases w with
    | nil =>
      have sm : Sm ([a] ++ [] ++ [-a]) ([] ++ [] ++ con []) := Sm.out a
      rw [rnd_of (base.trans sm) trivial cy_nil fun _ => rfl]
      exact Trn.refl _
    | cons b t =>
      by_cases hb : b = -a
      · -- the letter takes the first one out, and its contrary stands behind
        have turn : Trn (b :: t) (t ++ [b]) := ⟨[b], t, rfl, rfl⟩
        have sm : Sm ([a] ++ (b :: t) ++ [-a]) ([] ++ (t ++ [b]) ++ con []) := by
          subst hb
          have h1 : Sm ([a, -a] ++ (t ++ [-a])) ([] ++ (t ++ [-a])) := (Sm.out a).app (Sm.refl _)
          simpa [con] using h1
        have cy := turn.cy c
        rw [rnd_of (base.trans sm) (by simpa [con] using cy.1) cy fun _ => rfl]
        exact turn
      · by_cases hl : (b :: t).getLast? = some a
        · obtain ⟨m, em⟩ : ∃ m, b :: t = m ++ [a] := by
            refine ⟨(b :: t).dropLast, ?_⟩
            have h1 := List.dropLast_concat_getLast (l := b :: t) (by simp)
            rw [List.getLast?_eq_some_getLast (by simp)] at hl
            rw [Option.some.inj hl] at h1
            exact h1.symm
          rw [em] at c base ⊢
          have turn : Trn (m ++ [a]) (a :: m) := ⟨m, [a], rfl, rfl⟩
          have sm : Sm ([a] ++ (m ++ [a]) ++ [-a]) ([] ++ (a :: m) ++ con []) := by
            have h1 : Sm ((a :: m) ++ [a, -a]) ((a :: m) ++ []) := (Sm.refl _).app (Sm.out a)
            simpa [con] using h1
          have cy := turn.cy c
          rw [rnd_of (base.trans sm) (by simpa [con] using cy.1) cy fun _ => rfl]
          exact turn
        · have whole : Rd ([a] ++ (b :: t) ++ con [a]) := by
            rw [rd_append, rd_append]
            refine ⟨⟨trivial, rs, fun x y hx hy => ?_⟩, trivial, fun x y hx hy => ?_⟩
            · simp at hx hy; omega
            · rw [List.getLast?_append] at hx
              rw [List.getLast?_eq_some_getLast (by simp)] at hx hl
              simp [con] at hx hy hl
              omega
          rw [rnd_of (base.trans (by simpa [con] using Sm.refl _)) whole c fun h => by simp at h]
          exact Trn.refl _
/-- moved: a word ahead, its contrary behind -/
theorem rnd_moved : ∀ (ys xs : List Int), NZ ys → NZ xs → Trn (rnd xs) (rnd (ys ++ xs ++ con ys))
  | [], xs, _, _ => by simpa [con] using Trn.refl _
  | a :: t, xs, hy, hx => by
    have ht : NZ t := fun x h => hy x (List.mem_cons_of_mem _ h)
    have h1 := rnd_moved t xs ht hx
    have h2 := rnd_moved1 a (hy a List.mem_cons_self) (t ++ xs ++ con t) ((ht.app hx).app ht.con)
    have e : [a] ++ (t ++ xs ++ con t) ++ [-a] = (a :: t) ++ xs ++ con (a :: t) := by rw [con_cons]; simp
    rw [e] at h2
    exact h1.trans h2
/-- turned first, shortened round then -/
theorem rnd_turned {xs ys : List Int} (nz : NZ xs) (h : Trn xs ys) : Trn (rnd xs) (rnd ys) := by
  obtain ⟨p, q, rfl, rfl⟩ := h
  have h1 := rnd_moved (con p) (p ++ q) nz.left.con nz
  have sm : Sm (con p ++ (p ++ q) ++ con (con p)) (q ++ p) := by
    rw [con_con]
    have h2 : Sm ((con p ++ p) ++ (q ++ p)) ([] ++ (q ++ p)) := (sm_con' p).app (Sm.refl _)
    simpa using h2
  rw [rnd_sm sm] at h1
  exact h1

/-! ### so many times one that is short round -/
theorem rep_head {n : Nat} {w : List Int} : (rep (n + 1) w).head? = w.head? := by
  cases w with
  | nil => rw [rep_nil]
  | cons a t => rw [rep_succ]; rfl
theorem rep_last {n : Nat} {w : List Int} : (rep (n + 1) w).getLast? = w.getLast? := by
  by_cases hw : w = []
  · subst hw; rw [rep_nil]
  · rw [rep_succ', List.getLast?_append, List.getLast?_eq_some_getLast hw]; rfl
theorem cy_rep {w : List Int} (c : Cy w) : ∀ n, Cy (rep n w)
  | 0 => cy_nil
  | n + 1 => by
    have ih := cy_rep c n
    refine ⟨?_, fun a b ha hb => ?_⟩
    · rw [rep_succ, rd_append]
      refine ⟨c.1, ih.1, fun a b ha hb => ?_⟩
      cases n with
      | zero => simp [rep] at hb
      | succ n =>
        rw [rep_head] at hb
        have := c.2 b a hb ha
        omega
    · rw [rep_head] at ha
      rw [rep_last] at hb
      exact c.2 a b ha hb
/-- so many times a row: its ends stay, what is between them comes so many times -/
theorem shr_core {xs u w : List Int} (e : shr xs = u ++ w ++ con u) (c : Cy w) (z : w = [] → u = []) (n : Nat) : shr (rep (n + 1) xs) = u ++ rep (n + 1) w ++ con u := by
  have sm : ∀ n, Sm (rep (n + 1) (u ++ w ++ con u)) (u ++ rep (n + 1) w ++ con u) := by
    intro n
    induction n with
    | zero => rw [rep_one, rep_one]; exact Sm.refl _
    | succ n ih =>
      rw [rep_succ]
      refine ((Sm.refl _).app ih).trans ?_
      have h : Sm ((u ++ w) ++ (con u ++ u) ++ (rep (n + 1) w ++ con u)) ((u ++ w) ++ [] ++ (rep (n + 1) w ++ con u)) := Sm.mid (sm_con' u)
      have e2 : rep (n + 1 + 1) w = w ++ rep (n + 1) w := rfl
      rw [e2]
      simpa using h
  refine shr_eq ?_ ?_
  · have h1 : Sm (rep (n + 1) xs) (rep (n + 1) (shr xs)) := ((sm_shr xs).rep _).symm
    rw [e] at h1
    exact h1.trans (sm n)
  · have r := rd_shr xs
    rw [e] at r
    by_cases hw : w = []
    · have hu := z hw
      subst hw hu
      rw [rep_nil]
      trivial
    · obtain ⟨r12, r3, b23⟩ := rd_append.1 r
      obtain ⟨r1, r2, b12⟩ := rd_append.1 r12
      rw [rd_append, rd_append]
      refine ⟨⟨r1, (cy_rep c _).1, fun a b ha hb => ?_⟩, r3, fun a b ha hb => ?_⟩
      · rw [rep_head] at hb
        exact b12 a b ha hb
      · refine b23 a b ?_ hb
        have hne : rep (n + 1) w ≠ [] := by
          intro h
          have h2 := rep_length (n + 1) w
          rw [h, Nat.succ_mul] at h2
          simp at h2
          exact hw (List.length_eq_zero_iff.1 (by omega))
        rw [List.getLast?_append, List.getLast?_eq_some_getLast hne] at ha
        rw [List.getLast?_append, ← rep_last (n := n), List.getLast?_eq_some_getLast hne]
        exact ha
end Fr
set_option Elab.async false
set_option linter.all false
set_option maxRecDepth 100000
set_option maxHeartbeats 2000000
/-! {e for x in xs}, e an int. -/
namespace WS
open PySem PySem.Spec PyProof.Rows L2 PpSet
/-- a set as it is when it is made -/
abbrev bareSet (w : World) : Obj := { cls := .type "set", dict := none, data := .set #[] 0 (.fresh 0 0 (!w.params.followText "set-order")) }
theorem bare_ok (w : World) (h : Heap) : SetR w (h.push (bareSet w)) h.objs.size (fun _ => false) 0 := by
  have led : w.params.followText "set-order" = true ∨ (!w.params.followText "set-order") = true := by
    cases w.params.followText "set-order"
    · right; rfl
    · left; rfl
  refine ⟨bareSet w, #[], 0, _, Heap.get?_push_size _ rfl, ⟨rfl, rfl, rfl⟩, rfl, ?_, ?_, ?_, by decide, rfl, rfl, List.Pairwise.nil, led⟩
  · intro e he; simp at he
  · simp
  · intro k; simp
/-- the new set at D, filled turn by turn -/
def Fills (w : World) (J : It) (g : TG) (tt : TT) (te : TE) (vs : List Nat) (σ : L2.St) (D : Addr) (Q : VK) (W : Nat → Nat → Hp → Prop) : Prop :=
  ∀ i m H, W i m H → (J.stop i H ∧ Q (.ref D) H) ∨ (J.go i H ∧ ∃ N : Hp → Prop, (∀ H', N H' → ∃ m', m' < m ∧ W (i + 1) m' H') ∧
    ∀ x H', J.yld i H x H' → g x (wipe σ vs) H' fun σ2 H2 => wipe σ2 vs = wipe σ vs ∧ tt σ2 H2 fun b H3 => if b = true then te σ2 H3 fun y H4 => rSAdd w (.ref D) [y] H4 fun _ H5 => N H5 else N H3)
def tSetI (w : World) (wi : TI) (g : TG) (tt : TT) (te : TE) (vs : List Nat) : TE := fun σ H Q => wi σ H fun J H1 => ∀ D, H1 D = none →
  ∃ W : Nat → Nat → Hp → Prop, (∃ m, W 0 m (upd H1 D (SetO w D (fun _ => false) 0))) ∧ Fills w J g tt te vs σ D Q W
section
variable {X : Cx}
/-- what a turn leaves known -/
def Known (X : Cx) (Z : Cx) (σw : L2.St) (fp : List Addr) (tn : Nat → Heap → Prop) (W : Nat → Nat → Hp → Prop) (m : Nat) (s : Shared) : Prop :=
  ∃ (i : Nat) (H : Hp), Inv Z [] σw H s ∧ tn i s.heap ∧ (∀ b ∈ fp, H b = none) ∧ W i m H
theorem fill_set {elt tg iter : Expr} {ifs : List Expr} {scope : Scope} {own : List (PySem.Str × Nat)} {pos : Pos} {g : TG} {tt : TT} {te : TE} {pins : List (Addr × Obj)} {σ : L2.St} {H3 : Hp} {s3 : Shared} {it D : Addr} {fp : List Addr} {tn : Nat → Heap → Prop} {J : It} {m0 : Nat} {W : Nat → Nat → Hp → Prop} {Q : VK}
    (calm : X.calm = true) (nod : X.N.Nodup) (blk : BlkOk X.N X.env.scope scope own)
    (target : ∀ (s : Shared) (H : Hp) (C : Addr) (cl : List (PySem.Str × Addr)) (fp : List Addr), PG (X.blk s H scope (compEnvC scope cl C X.env) fp) tg g)
    (tests : ∀ (s : Shared) (H : Hp) (C : Addr) (cl : List (PySem.Str × Addr)) (fp : List Addr), PTs (X.blk s H scope (compEnvC scope cl C X.env) fp) ifs tt)
    (item : ∀ (s : Shared) (H : Hp) (C : Addr) (cl : List (PySem.Str × Addr)) (fp : List Addr), PE (X.blk s H scope (compEnvC scope cl C X.env) fp) elt te)
    (T : Turn X.prog X.w X.K tg J fp it tn) (I3 : Inv X pins σ H3 s3) (off : ∀ b ∈ fp, FpOk X pins H3 b ∧ b < s3.heap.objs.size) (st3 : tn 0 s3.heap) (w0 : W 0 m0 H3) (turn : Fills X.w J g tt te (own.map (·.2)) σ D Q W) :
    codeAny (model X.prog X.w) X.A (.compStart (.SetComp elt [⟨tg, iter, ifs, 0⟩] scope pos) 0 (.ref it) (.ref D) (compEnvC scope (cellsFrom (s3.heap.objs.size + 1) scope.names (cloFrom X.env.cells scope.names [])) s3.heap.objs.size X.env))
      (compPost (model X.prog X.w) X.A X.xe none (EP X pins σ Q) (.ref D) s3.heap.objs.size) { s3 with heap := pushCells (s3.heap.push { cls := .type "dict", data := .dict #[] }) scope.names } := by
  have I4 := block_start I3 blk nod off
  have pg := target s3 H3 s3.heap.objs.size (cellsFrom (s3.heap.objs.size + 1) scope.names (cloFrom X.env.cells scope.names [])) fp
  have pt := tests s3 H3 s3.heap.objs.size (cellsFrom (s3.heap.objs.size + 1) scope.names (cloFrom X.env.cells scope.names [])) fp
  have pe := item s3 H3 s3.heap.objs.size (cellsFrom (s3.heap.objs.size + 1) scope.names (cloFrom X.env.cells scope.names [])) fp
  have st4 : tn 0 (pushCells (s3.heap.push { cls := .type "dict", data := .dict #[] }) scope.names) := T.keep _ _ _ st3 fun _ _ _ e => pushCells_keeps _ _ _ _ (Heap.get?_push_of_some _ e)
  obtain ⟨ce, ece⟩ : ∃ ce : Env, ce = compEnvC scope (cellsFrom (s3.heap.objs.size + 1) scope.names (cloFrom X.env.cells scope.names [])) s3.heap.objs.size X.env := ⟨_, rfl⟩
  have loc : ce.locals = s3.heap.objs.size := by rw [ece]; rfl
  rw [← ece] at I4 pg pt pe ⊢
  -- the places that the walk keeps
  have held : ∀ {σ' : L2.St} {H' : Hp} {s' : Shared}, Inv (X.blk s3 H3 scope ce fp) [] σ' H' s' → (∀ b ∈ fp, H' b = none) → ∀ b ∈ fp, FpOk (X.blk s3 H3 scope ce fp) [] H' b := by
    intro σ' H' s' I' none' b hb
    refine ⟨none' b hb, (I'.ok.exf b hb).1, I'.ok.exfs b hb, .inl hb, (I'.ok.exf b hb).2, fun p hp => ?_⟩
    simp at hp
  have all : codeAny (model X.prog X.w) X.A (.compLoop (.SetComp elt [⟨tg, iter, ifs, 0⟩] scope pos) 0 (.ref it) (.ref D) ce) (compPost (model X.prog X.w) X.A X.xe none (EP X pins σ Q) (.ref D) s3.heap.objs.size) { s3 with heap := pushCells (s3.heap.push { cls := .type "dict", data := .dict #[] }) scope.names } := by
    refine compLoopS_any (Known X (X.blk s3 H3 scope ce fp) (wipe σ (own.map (·.2))) fp tn W) (fun m s5 known => ?_) m0 ⟨0, H3, I4, st4, fun b hb => (off b hb).1.1, w0⟩
    obtain ⟨i, H5, I5, st5, none5, w5⟩ := known
    cases turn i m H5 w5 with
    | inl ended =>
      refine thnF (T.done (X.blk s3 H3 scope ce fp) rfl rfl rfl calm i [] s5 _ H5 (fun _ _ => False) I5 (held I5 none5) st5 ended.1) fun r s6 hr => ?_
      obtain ⟨rfl, I6⟩ := hr
      have back : Inv X pins σ H5 s6 := I3.call' (ch := fp) I6.os I6.base I6.hok I6.bare fun b hb => by
        obtain ⟨⟨_, f1, f2, f3, f4, f5⟩, _⟩ := off b hb
        exact ⟨f3, f1, f4, f5⟩
      have noL : H5 s3.heap.objs.size = none := by rw [← loc]; exact I6.free
      obtain ⟨mm, names, _⟩ := I6.loc
      have names' : s6.heap.Ns s3.heap.objs.size mm := by rw [← loc]; exact names
      obtain ⟨f0, f1, f2, f3, f4, f5⟩ := I3.fpOk (Nat.le_refl _) noL
      exact ⟨mm, names', fun h' same => ⟨.ref D, H5, back.turned (t' := s6.toks) (fun b o hb e => (same.2 b hb).trans e) f0 f1 f3 f4 f5, rfl, ended.2⟩⟩
    | inr goes =>
      obtain ⟨go, N, hN, step⟩ := goes
      refine thnF (T.item (X.blk s3 H3 scope ce fp) rfl rfl rfl calm i [] s5 _ H5 (fun _ _ => False) I5 (held I5 none5) st5 go) fun r s6 hr => ?_
      obtain ⟨u, rfl, h6⟩ := hr
      refine thnF h6 fun _ s7 h7 => ?_
      obtain ⟨x, H7, I7, r7, y7, st7, none7⟩ := h7
      refine thnF (pg.run _ s7 _ H7 x u _ (I7.pinned (held I7 none7) (T.obj _ _ st7)) r7 (step x H7 y7)) fun _ s8 h8 => ?_
      obtain ⟨σ8, H8, I8, wiped, q8⟩ := h8
      refine thnF (pt.run _ s8 σ8 H8 _ I8 q8) fun b s9 h9 => ?_
      obtain ⟨H9, I9, q9⟩ := h9
      have next : ∀ {s' : Shared} {H' : Hp}, Inv (X.blk s3 H3 scope ce fp) ([] ++ pinsAt fp s7.heap) σ8 H' s' → N H' → ∃ m', m' < m ∧ Known X (X.blk s3 H3 scope ce fp) (wipe σ (own.map (·.2))) fp tn W m' s' := by
        intro s' H' I' nx
        obtain ⟨m', lt, w'⟩ := hN H' nx
        have kept : ∀ b ∈ fp, ∀ o, s7.heap.get? b = some o → s'.heap.get? b = some o ∧ H' b = none := by
          intro b hb o e
          obtain ⟨z1, z2, _⟩ := I'.pin (b, o) (List.mem_append_right _ (List.mem_append_right _ (mem_pinsAt hb e)))
          exact ⟨z1, z2⟩
        have len : (wipe σ (own.map (·.2))).length = σ8.length := by rw [← wiped, wipe_length]
        refine ⟨m', lt, i + 1, H', (I'.unpinned (pins := [])).weak len (fun j v e => ?_), T.keep _ _ _ st7 fun b hb o e => (kept b hb o e).1, fun b hb => ?_, w'⟩
        · rw [← wiped] at e
          exact (wipe_some e).1
        · obtain ⟨o, e, _⟩ := T.obj _ _ st7 b hb
          exact (kept b hb o e).2
      cases b with
      | false =>
        rw [if_neg Bool.false_ne_true] at q9 ⊢
        exact next I9 q9
      | true =>
        rw [if_pos rfl] at q9 ⊢
        refine thnF (pe.run _ s9 σ8 H9 _ I9 q9) fun z s10 h10 => ?_
        obtain ⟨yv, H10, I10, r10, adds⟩ := h10
        refine thnF (mt_sadd (X := X.blk s3 H3 scope ce fp) _ s10 σ8 H10 (.ref D) [yv] (.ref D) [z] _ I10 rfl (.cons r10 .nil) adds) fun _ s11 h11 => ?_
        obtain ⟨_, H11, I11, _, nx⟩ := h11
        exact next I11 nx
  exact codeAny_compStart_set all (T.self X.A 0 _ _ _ st4 all)
theorem pe_setI {elt tg iter : Expr} {ifs : List Expr} {scope : Scope} {own : List (PySem.Str × Nat)} {pos : Pos} {wi : TI} {g : TG} {tt : TT} {te : TE} (calm : X.calm = true) (nod : X.N.Nodup) (walked : PI X tg iter wi) (blk : BlkOk X.N X.env.scope scope own)
    (target : ∀ (s : Shared) (H : Hp) (C : Addr) (cl : List (PySem.Str × Addr)) (fp : List Addr), PG (X.blk s H scope (compEnvC scope cl C X.env) fp) tg g)
    (tests : ∀ (s : Shared) (H : Hp) (C : Addr) (cl : List (PySem.Str × Addr)) (fp : List Addr), PTs (X.blk s H scope (compEnvC scope cl C X.env) fp) ifs tt)
    (item : ∀ (s : Shared) (H : Hp) (C : Addr) (cl : List (PySem.Str × Addr)) (fp : List Addr), PE (X.blk s H scope (compEnvC scope cl C X.env) fp) elt te) (plain : ∀ x, foldedSetIterable iter X.env x = pure x := by intro _; rfl) :
    PE X (.SetComp elt [⟨tg, iter, ifs, 0⟩] scope pos) (tSetI X.w wi g tt te (own.map (·.2))) := by
  refine ⟨fun pins s σ H Q I asked => ?_⟩
  rw [eval_SetComp]
  have caught : ∀ y ∈ scope.names, y.2 = .free → ∃ c, X.env.cells.lookup y.1 = some c := by
    intro y hy e
    cases blk.free y hy e with
    | inl k => exact I.ok.has _ (.inl k)
    | inr k => exact I.ok.has _ (.inr k)
  refine wpAny_comprehension_free (use := none) rfl plain (closure_ok caught) blk.kind (fun y hy e => by rw [blk.uniq y hy, e]) ?_
  refine thn (walked.run pins s σ H _ I asked) fun _ _ h1 => thn h1 fun _ s2 h2 => ?_
  obtain ⟨it, fp, tn, J, H2, rfl, I2, T, st2, off2, fill⟩ := h2
  refine newSet_ok (newEnv_comp ?_)
  have free0 : H2 s2.heap.objs.size = none := I2.hok.fresh (Nat.le_refl _)
  obtain ⟨W, ⟨m0, w0⟩, turn⟩ := fill s2.heap.objs.size free0
  have I3 : Inv X pins σ (upd H2 s2.heap.objs.size (SetO X.w s2.heap.objs.size (fun _ => false) 0)) { s2 with heap := s2.heap.push (bareSet X.w) } :=
    I2.laid (t' := s2.toks) (fun _ _ e => Heap.get?_push_of_some _ e) (Nat.le_refl _) (setO_new (bare_ok X.w s2.heap))
  have below : ∀ b ∈ fp, b < s2.heap.objs.size := by
    intro b hb
    obtain ⟨o, e, _⟩ := T.obj _ _ st2 b hb
    exact Heap.lt_size e
  have off3 : ∀ b ∈ fp, FpOk X pins (upd H2 s2.heap.objs.size (SetO X.w s2.heap.objs.size (fun _ => false) 0)) b ∧ b < (s2.heap.push (bareSet X.w)).objs.size := by
    intro b hb
    refine ⟨⟨?_, (off2 b hb).2⟩, by rw [Heap.size_push]; exact Nat.lt_succ_of_lt (below b hb)⟩
    rw [upd_ne (Nat.ne_of_lt (below b hb))]
    exact (off2 b hb).1
  exact fill_set calm nod blk target tests item T I3 off3 (T.keep _ _ _ st2 fun _ _ _ e => Heap.get?_push_of_some _ e) w0 turn
end
end WS
set_option Elab.async false
set_option linter.all false
set_option maxRecDepth 100000
set_option maxHeartbeats 2000000
/-! t[::-1]; tuple * int for 0 and 1. -/
namespace WR
open PySem PySem.Spec PyProof.Rows L2
section
variable {prog : Program} {w : World} {A : Around} {E : Value → Shared → Prop} {s : Shared}
theorem adjust_back (n : Nat) : Builtin.Slice.sliceAdjust none none (-1) (n : Int) = ((n : Int) - 1, -1) := by
  unfold Builtin.Slice.sliceAdjust
  simp
theorem places_back (n : Nat) : Builtin.Slice.slicePlaces ((n : Int) - 1) (-1) (-1) = n := by
  unfold Builtin.Slice.slicePlaces
  have h1 : ¬ ((-1 : Int) > 0) := by omega
  simp only [h1, if_false]
  rw [show (- -1 : Int) = 1 by decide, Int.ediv_one]
  split <;> omega
theorem fm_congr {α β : Type} {f g : α → Option β} : ∀ {l : List α}, (∀ m ∈ l, f m = g m) → l.filterMap f = l.filterMap g
  | [], _ => rfl
  | a :: t, h => by
    rw [List.filterMap_cons, List.filterMap_cons, h a List.mem_cons_self, fm_congr fun m hm => h m (List.mem_cons_of_mem _ hm)]
theorem pick_back (xs : Array Value) : ((List.range xs.size).filterMap fun (m : Nat) => xs[((xs.size : Int) - 1 + (m : Int) * (-1)).toNat]?).toArray = xs.toList.reverse.toArray := by
  have e : (List.range xs.size).filterMap (fun (m : Nat) => xs[((xs.size : Int) - 1 + (m : Int) * (-1)).toNat]?) = ((List.range xs.size).map fun k => xs.size - 1 - k).filterMap (xs[·]?) := by
    rw [List.filterMap_map]
    refine fm_congr fun m hm => ?_
    have hm2 := List.mem_range.mp hm
    have : ((xs.size : Int) - 1 + (m : Int) * (-1)).toNat = xs.size - 1 - m := by omega
    rw [this]
    rfl
  rw [e, PySem.W.krv_range, List.filterMap_reverse, PySem.W.krv_all]
theorem sliceApplied_back {sl : Addr} {vl vu vs : Value} {n : Nat} {Q : Int × Int × Nat → Shared → Prop} (hs : s.heap.IsSliceOf sl vl vu vs) (pl : IsPart vl none) (pu : IsPart vu none) (ps : IsPart vs (some (-1)))
    (h : Q ((n : Int) - 1, -1, n) s) : wpAny (model prog w) A (Builtin.Slice.sliceApplied (.ref sl) (pure (n : Int))) Q E s := by
  obtain ⟨os, hos, hcs, hds⟩ := id hs
  unfold Builtin.Slice.sliceApplied Builtin.Slice.sliceFields
  refine wpAny_bind (wpAny_bind (wpAny_field hos hds (x := vl) rfl (wpAny_bind (wpAny_field hos hds (x := vu) rfl (wpAny_bind (wpAny_field hos hds (x := vs) rfl (wpAny_pure ?_)))))))
  refine wpAny_bind (HT.slicePart_ ps ?_)
  show wpAny _ _ (if ((-1 : Int) == 0) = true then _ else _) _ _ s
  rw [if_neg (by decide)]
  refine wpAny_bind (HT.slicePart_ pl (wpAny_bind (HT.slicePart_ pu (wpAny_bind (wpAny_pure ?_)))))
  show wpAny _ _ (match Builtin.Slice.sliceAdjust none none (-1) (n : Int) with | (lo, hi) => pure (lo, (-1 : Int), Builtin.Slice.slicePlaces lo hi (-1))) _ _ s
  rw [adjust_back n]
  show wpAny _ _ (pure ((n : Int) - 1, (-1 : Int), Builtin.Slice.slicePlaces ((n : Int) - 1) (-1) (-1))) _ _ s
  rw [places_back]
  exact wpAny_pure h
theorem getItem_tuple_back {t sl : Addr} {items : Array Value} {vl vu vs : Value} {Q : Value → Shared → Prop} (ht : IsTup s.heap t items) (hs : s.heap.IsSliceOf sl vl vu vs) (pl : IsPart vl none) (pu : IsPart vu none) (ps : IsPart vs (some (-1)))
    (h : Q (.ref s.heap.objs.size) { s with heap := s.heap.push { cls := .type "tuple", data := .seq items.toList.reverse.toArray } })
    (hsz : items.size ≤ sizeLine) : wpAny (model prog w) A (getItem (.ref t) (.ref sl)) Q E s := by
  have htake : sizeOk (.seq items.toList.reverse.toArray) := by
    show items.toList.reverse.toArray.size ≤ sizeLine
    rw [List.size_toArray, List.length_reverse, Array.length_toList]
    exact hsz
  obtain ⟨os, hos, hcs, hds⟩ := id hs
  have hTs : s.TypeIs (.ref sl) "slice" := ⟨os, hos, hcs⟩
  unfold getItem
  try with_reducible refine wpAny_holding ?_
  first | refine wpAny_bind (wpAny_pure ?_) | skip
  refine wpAny_bind (wpAny_sequenceKey ht.typeIs (by decide) ?_)
  refine wpAny_bind (wpAny_callSpecial?_slot (name := Str.ofString "__getitem__") ht.typeIs PyProof.Rows.slot_tuple_getitem
    (wpAny_call_entry PyProof.Rows.slot_tuple_getitem ht.typeIs entry_tuple_getitem ?_ (args_tuple_getitem _ _)))
  show wpAny _ _ (Builtin.Tuple.tupleItemsOf (.ref t) >>= _) _ _ s
  refine wpAny_bind (tupleItemsOf_ ht ?_)
  refine wpAny_bind (wpAny_typeOf hTs ?_)
  rw [if_pos (by decide)]
  refine wpAny_bind (sliceApplied_back hs pl pu ps ?_)
  have hno : ¬ ((((items.size : Int) - 1) == 0 && (-1 : Int) == 1 && items.size == items.size) = true) := by
    intro q
    rw [Bool.and_eq_true, Bool.and_eq_true] at q
    exact absurd q.1.2 (by decide)
  show wpAny _ _ (if (((items.size : Int) - 1) == 0 && (-1 : Int) == 1 && items.size == items.size) = true then _ else _) _ _ s
  rw [if_neg hno, pick_back]
  first
    | exact wpAny_bind (m := Builtin.Tuple.tupleExact _) (wpAny_newObj_type (wpAny_pure ⟨_, rfl, wpAny_pure h⟩) htake)
    | exact wpAny_bind (m := Builtin.Tuple.tupleExact _) (wpAny_newObj_type (wpAny_bind (wpAny_pure (wpAny_pure ⟨_, rfl, wpAny_pure h⟩))) htake)
end
section
variable {X : Cx}
def tRevT (K : PySem.W.Frag) (te : TE) : TE := fun σ H Q => te σ H fun x H1 => ∃ a xs, x = .ref a ∧ SqT K H1 a xs ∧ ∀ p, H1 p = none → Q (.ref p) (upd H1 p (.tup xs.reverse))
theorem pe_revT {e : Expr} {te : TE} {k : Nat} {p1 p2 p3 pos : Pos} (he : PE X e te) : PE X (.Subscript e (.Slice none none (some (.UnaryOp .USub (.Constant (.int 1) k p1) p2)) p3) pos) (tRevT X.K te) := by
  refine ⟨fun pins s σ H Q I h => ?_⟩
  refine Subscript_ (thn (he.run pins s σ H _ I h) fun v s1 ⟨x, H1, I1, r1, q1⟩ => ?_)
  obtain ⟨a, xs, ex, hx, q⟩ := q1
  subst ex
  cases r1
  have hst : PO X (some (.UnaryOp .USub (.Constant (.int 1) k p1) p2)) (tPart (tUn (rU fun i => .int (-i)) (tC (.int 1)))) := po_some (pe_un un_neg pe_int)
  refine wpAny_Slice (thn (po_none.run pins s1 σ H1 (fun o H2 => o = none ∧ H2 = H1) I1 ⟨rfl, rfl⟩) fun vl s2 ⟨l, H2, I2, pl, el, e2⟩ => ?_)
  subst el e2
  refine thn (po_none.run pins s2 σ H2 (fun o H3 => o = none ∧ H3 = H2) I2 ⟨rfl, rfl⟩) fun vu s3 ⟨u, H3, I3, pu, eu, e3⟩ => ?_
  subst eu e3
  refine thn (hst.run pins s3 σ H3 (fun o H4 => o = some (-1) ∧ H4 = H3) I3 ⟨1, rfl, -1, rfl, rfl, rfl⟩) fun vs s4 ⟨o, H4, I4, ps, eo, e4⟩ => ?_
  subst eo e4
  have I5 : Inv X pins σ H4 { s4 with heap := s4.heap.push { cls := .type "slice", data := .fields #[vl, vu, vs] } } := I4.kept (t' := s4.toks) fun b ob q => Heap.get?_push_of_some _ q
  obtain ⟨its, r, ht, hz⟩ := I5.tuple hx
  have hlen := r.length
  show wpAny (model X.prog X.w) X.A (subscriptTail e (.Slice none none (some (.UnaryOp .USub (.Constant (.int 1) k p1) p2)) p3) (.ref a) (.ref s4.heap.objs.size)) (EP X pins σ Q) X.xe { s4 with heap := s4.heap.push { cls := .type "slice", data := .fields #[vl, vu, vs] } }
  refine tail_any (ops := [.ref a, .ref s4.heap.objs.size]) ht.typeIs (PyProof.Rows.slot_tuple_getitem.lookup) ?_ (by with_unfolding_all rfl)
  refine getItem_tuple_back ht (Heap.IsSliceOf.new _ vl vu vs) pl pu ps ?_ (by rw [List.size_toArray]; omega)
  refine ⟨.ref _, _, I5.laid (t' := s4.toks) (o := .tup xs.reverse) (fun b ob q => Heap.get?_push_of_some _ q) (Nat.le_refl _) ?_, rfl, q _ (I5.hok.fresh (Nat.le_refl _))⟩
  exact ⟨by rw [List.length_reverse]; exact hz, _, r.reverse, IsTup.new _ _⟩
end

theorem tuple_mulS (l : Addr) (items : Array Value) (n : Nat) (dd : Option Addr) (sl : Array (Option Value)) (x : Int) (u : Tok) (c0 : (decide (x < -(2 ^ 63)) || decide (x ≥ 2 ^ 63)) = false) (c1 : (items.isEmpty || x == 1) = true) :
    Meets (Builtin.«tuple.__mul__» ⟨[.ref l, .int x u], []⟩) (fun _ R s => s.heap.get? l = some { cls := .type "tuple", dict := dd, data := .seq items n, slots := sl } ∧
      R (.ok (.ret (Value.ref l))) { s with heap := s.heap, toks := s.toks }) :=
  .of_wp fun prog w A R s h => by
    obtain ⟨hp, g, d, tk, os⟩ := s
    obtain ⟨hl, h⟩ := h
    have f1 := AutoSeq1.idx_int
    wp_walk using wpAny_loadPart' hl
    repeat (first
      | (refine wpAny_ite_false (decide_eq_false (by rw [c0]; exact Bool.false_ne_true)) ?_; wp_walk using wpAny_loadPart' hl)
      | (refine wpAny_ite_true (decide_eq_true c1) ?_; wp_walk using wpAny_loadPart' hl)
      | (refine wpAny_ite_true c1 ?_; wp_walk using wpAny_loadPart' hl))
    exact ⟨_, rfl, h⟩
theorem tuple_mul0 (l : Addr) (items : Array Value) (n : Nat) (dd : Option Addr) (sl : Array (Option Value)) (x : Int) (u : Tok) (c0 : (decide (x < -(2 ^ 63)) || decide (x ≥ 2 ^ 63)) = false) (c1 : (items.isEmpty || x == 1) = false) (c2 : (decide (x ≤ 0) || items.isEmpty) = true) :
    Meets (Builtin.«tuple.__mul__» ⟨[.ref l, .int x u], []⟩) (fun _ R s => s.heap.get? l = some { cls := .type "tuple", dict := dd, data := .seq items n, slots := sl } ∧
      R (.ok (.ret (Value.ref s.heap.objs.size))) { s with heap := s.heap.push { cls := Value.type "tuple", data := Data.seq #[] }, toks := s.toks }) :=
  .of_wp fun prog w A R s h => by
    obtain ⟨hp, g, d, tk, os⟩ := s
    obtain ⟨hl, h⟩ := h
    have f1 := AutoSeq1.idx_int
    wp_walk using wpAny_loadPart' hl
    repeat (first
      | (refine wpAny_ite_false (decide_eq_false (by rw [c0]; exact Bool.false_ne_true)) ?_; wp_walk using wpAny_loadPart' hl)
      | (refine wpAny_ite_false (decide_eq_false (by rw [c1]; exact Bool.false_ne_true)) ?_; wp_walk using wpAny_loadPart' hl)
      | (refine wpAny_ite_true (decide_eq_true c2) ?_; wp_walk using wpAny_loadPart' hl))
    exact ⟨_, rfl, h⟩
/-- some tuple of these values, all else as it stood -/
def NewT (K : PySem.W.Frag) (H : Hp) (Q : VK) (xs : List V) : Prop := ∀ p H', Same H H' → SqT K H' p xs → Q (.ref p) H'
theorem same_upd {H : Hp} {p : Addr} {o : HO} (hp : H p = none) : Same H (upd H p o) := fun b u e => by
  rw [upd_ne (ne_of_none e hp)]
  exact e
theorem Same.seqT {K : PySem.W.Frag} {H H' : Hp} {a : Addr} {xs : List V} (e : Same H H') (h : SqT K H a xs) : SqT K H' a xs := by
  rcases h with h | h
  · left
    rcases h with h | ⟨o, h⟩
    · exact .inl (e _ _ h)
    · exact .inr ⟨o, e _ _ h⟩
  · exact .inr h
theorem NewT.self {K : PySem.W.Frag} {H : Hp} {Q : VK} {xs : List V} {a : Addr} (k : NewT K H Q xs) (h : SqT K H a xs) : Q (.ref a) H := k a H (Same.refl H) h
theorem NewT.new {K : PySem.W.Frag} {H : Hp} {Q : VK} {xs : List V} (k : NewT K H Q xs) {p : Addr} (hp : H p = none) : Q (.ref p) (upd H p (.tup xs)) := k p _ (same_upd hp) (SqT.of upd_same)
section
variable {X : Cx}
def rSlU (K : PySem.W.Frag) : V → Option Int → Option Int → Hp → VK → Prop := fun x lo hi H Q => ∃ a xs, x = .ref a ∧ SqT K H a xs ∧ NewT K H Q (cutV xs lo hi)
theorem sl_tupU : SlR X (rSlU X.K) := by
  intro pins s σ H x v vl vu lo hi sl Q I rx hs pl pu h
  obtain ⟨a, xs, rfl, hx, k⟩ := h
  refine sl_tupA pins s σ H _ v vl vu lo hi sl Q I rx hs pl pu ⟨a, xs, rfl, hx, fun e => ?_, fun _ p hp => k.new hp⟩
  refine k.self ?_
  have : cutV xs lo hi = xs := by
    unfold cutV
    rw [e.1, e.2, List.drop_zero, Nat.sub_zero, List.take_of_length_le (Nat.le_refl _)]
  rw [this]
  exact hx
def rCatU (K : PySem.W.Frag) : R2 := fun x y H Q => ∃ a b xs ys, x = .ref a ∧ y = .ref b ∧ SqT K H a xs ∧ SqT K H b ys ∧ xs.length + ys.length ≤ sizeLine ∧ NewT K H Q (xs ++ ys)
theorem op_catU : OpR X (binaryOp .Add) (rCatU X.K) := by
  intro pins s σ H x y v u Q I rx ry h
  obtain ⟨a, b, xs, ys, rfl, rfl, ha, hb, hz, k⟩ := h
  by_cases hx : xs = []
  · subst hx
    cases rx
    cases ry
    obtain ⟨its, r1, p1, _⟩ := I.tuple ha
    obtain ⟨its2, r2, p2, _⟩ := I.tuple hb
    cases r1
    obtain ⟨⟨cls, dd, data, sl⟩, ho, hc, n, hd⟩ := id p1
    obtain ⟨⟨cls2, dd2, data2, sl2⟩, ho2, hc2, n2, hd2⟩ := id p2
    simp only at hc hd hc2 hd2
    subst hc hd hc2 hd2
    exact concat_meets ⟨_, ho, rfl⟩ ⟨_, ho2, rfl⟩ noFill_tuple_add seq_tuple_add PySem.F.slot_tuple_add PySem.F.entry_tuple_add (PySem.F.args_tuple_add_2 _ _)
      (tuple_addW0 a b _ its2.toArray n n2 dd dd2 sl sl2 (by simp)) ⟨ho, ho2, ⟨.ref b, H, I, rfl, k.self hb⟩⟩
  · refine op_catT pins s σ H _ _ v u Q I rx ry ⟨a, b, xs, ys, rfl, rfl, ha, hb, hx, hz, fun e => ?_, fun _ p hp => k.new hp⟩
    subst e
    rw [List.append_nil] at k
    exact k.self ha
def rRepU (K : PySem.W.Frag) : R2 := fun x y H Q => ∃ l k xs, x = .ref l ∧ y = .int k ∧ SqT K H l xs ∧ 0 ≤ k ∧ k ≤ 1000 ∧ xs.length ≤ 1000 ∧ NewT K H Q (List.replicate k.toNat xs).flatten
theorem op_repU : OpR X (binaryOp .Mult) (rRepU X.K) := by
  intro pins s σ H x y v u Q I rx ry h
  obtain ⟨l, k, xs, rfl, rfl, hT, h1, h2, hz, kq⟩ := h
  by_cases hne : xs ≠ [] ∧ 2 ≤ k
  · exact op_repT pins s σ H _ _ v u Q I rx ry ⟨l, k, xs, rfl, rfl, hT, hne.1, hne.2, h2, hz, fun p hp => kq.new hp⟩
  cases rx
  obtain ⟨t, rfl⟩ := ry
  obtain ⟨its, r, ⟨⟨cls, dd, data, sl⟩, ho, hc, n, hd⟩, hs⟩ := I.tuple hT
  simp only at hc hd
  subst hc hd
  have c0 : (decide (k < -(2 ^ 63)) || decide (k ≥ 2 ^ 63)) = false := by
    rw [decide_eq_false (by omega), decide_eq_false (by omega)] <;> rfl
  by_cases hs1 : (its.toArray.isEmpty || k == 1) = true
  · refine wpAny_binaryOp_repeat_ref (T := "tuple") (U := "int") (by decide) ⟨_, ho, rfl⟩ (fun s' => typeIs_int s' k t) noFill_tuple_mul F.fills_int_mul F.slot_int_rmul repeat_tuple F.slot_int_index.lookup
      (call_meets F.slot_int_rmul (typeIs_int s k t) F.entry_int_rmul (F.args_int_rmul_2 _ _) (int_rmul_tuple k t l its.toArray n dd sl)
        ⟨ho, rfl, ⟨_, ho, rfl⟩, call_meets F.slot_tuple_mul ⟨_, ho, rfl⟩ F.entry_tuple_mul (F.args_tuple_mul_2 _ _) (tuple_mulS l its.toArray n dd sl k t c0 hs1) ⟨ho, ?_⟩⟩)
    refine ⟨.ref l, H, I, rfl, kq.self ?_⟩
    rw [Bool.or_eq_true] at hs1
    rcases hs1 with e | e
    · have ei : its = [] := by simpa using e
      have ex : xs = [] := by
        have := r.length
        rw [ei] at this
        exact List.eq_nil_of_length_eq_zero this
      subst ex
      have : (List.replicate k.toNat ([] : List V)).flatten = [] := by simp
      rw [this]
      exact hT
    · have : k = 1 := eq_of_beq e
      subst this
      have : (List.replicate (1 : Int).toNat xs).flatten = xs := by simp
      rw [this]
      exact hT
  · have hs1' : (its.toArray.isEmpty || k == 1) = false := by
      cases e : (its.toArray.isEmpty || k == 1) with
      | false => rfl
      | true => exact absurd e hs1
    have hxs : xs ≠ [] := fun e => by
      subst e
      cases r
      exact hs1 rfl
    have k1 : k ≠ 1 := fun e => by
      rw [e] at hs1'
      simp at hs1'
    have k0 : k = 0 := by
      have : ¬ 2 ≤ k := fun e => hne ⟨hxs, e⟩
      omega
    subst k0
    refine wpAny_binaryOp_repeat_ref (T := "tuple") (U := "int") (by decide) ⟨_, ho, rfl⟩ (fun s' => typeIs_int s' 0 t) noFill_tuple_mul F.fills_int_mul F.slot_int_rmul repeat_tuple F.slot_int_index.lookup
      (call_meets F.slot_int_rmul (typeIs_int s 0 t) F.entry_int_rmul (F.args_int_rmul_2 _ _) (int_rmul_tuple 0 t l its.toArray n dd sl)
        ⟨ho, rfl, ⟨_, ho, rfl⟩, call_meets F.slot_tuple_mul ⟨_, ho, rfl⟩ F.entry_tuple_mul (F.args_tuple_mul_2 _ _) (tuple_mul0 l its.toArray n dd sl 0 t c0 hs1' rfl) ⟨ho, ?_⟩⟩)
    refine ⟨.ref s.heap.objs.size, _, I.laid (t' := s.toks) (o := .tup []) (fun b ob q => Heap.get?_push_of_some _ q) (Nat.le_refl _) ?_, rfl, kq.new (xs := []) (I.hok.fresh (Nat.le_refl _))⟩
    exact ⟨Nat.zero_le _, [], .nil, IsTup.new _ _⟩
end
end WR
set_option linter.all false
/-! The least turned form of a row, by two places that race. -/
namespace Lt
/-- the row from place p on, read round, is less than that from place q on -/
def Ls (f : Nat → Int) (n p q : Nat) : Prop := ∃ k, k < n ∧ (∀ t, t < k → f (p + t) = f (q + t)) ∧ f (p + k) < f (q + k)
theorem Ls.irr {f n p} : ¬ Ls f n p p := by
  rintro ⟨k, _, _, h⟩
  omega
theorem Ls.trans {f : Nat → Int} {n p q r : Nat} (h1 : Ls f n p q) (h2 : Ls f n q r) : Ls f n p r := by
  obtain ⟨k, hk, e1, l1⟩ := h1
  obtain ⟨m, hm, e2, l2⟩ := h2
  by_cases h : k < m
  · exact ⟨k, hk, fun t ht => (e1 t ht).trans (e2 t (by omega)), by rw [← e2 k h]; exact l1⟩
  · by_cases h' : m < k
    · exact ⟨m, hm, fun t ht => (e1 t (by omega)).trans (e2 t ht), by rw [e1 m h']; exact l2⟩
    · have : k = m := by omega
      subst this
      exact ⟨k, hk, fun t ht => (e1 t ht).trans (e2 t ht), by omega⟩
theorem Ls.total (f : Nat → Int) (n p q : Nat) : Ls f n p q ∨ Ls f n q p ∨ ∀ t, t < n → f (p + t) = f (q + t) := by
  induction n with
  | zero => exact .inr (.inr fun t ht => by omega)
  | succ n ih =>
    rcases ih with ⟨k, hk, e, l⟩ | ⟨k, hk, e, l⟩ | e
    · exact .inl ⟨k, by omega, e, l⟩
    · exact .inr (.inl ⟨k, by omega, e, l⟩)
    · by_cases h : f (p + n) < f (q + n)
      · exact .inl ⟨n, by omega, e, h⟩
      · by_cases h' : f (q + n) < f (p + n)
        · exact .inr (.inl ⟨n, by omega, fun t ht => (e t ht).symm, h'⟩)
        · refine .inr (.inr fun t ht => ?_)
          by_cases htn : t < n
          · exact e t htn
          · have : t = n := by omega
            subst this
            omega
theorem ex_min (f : Nat → Int) (n : Nat) : ∀ m, 0 < m → ∃ p, p < m ∧ ∀ q, q < m → ¬ Ls f n q p := by
  intro m
  induction m with
  | zero => intro h; omega
  | succ m ih =>
    intro _
    by_cases h0 : m = 0
    · subst h0
      exact ⟨0, by omega, fun q hq => by have : q = 0 := by omega
                                         subst this; exact Ls.irr⟩
    · obtain ⟨p, hp, hm⟩ := ih (by omega)
      by_cases h : Ls f n m p
      · refine ⟨m, by omega, fun q hq hl => ?_⟩
        by_cases hqm : q = m
        · subst hqm; exact Ls.irr hl
        · exact hm q (by omega) (hl.trans h)
      · refine ⟨p, by omega, fun q hq => ?_⟩
        by_cases hqm : q = m
        · subst hqm; exact h
        · exact hm q (by omega)
/-- the least place whose reading is least -/
theorem ex_first (f : Nat → Int) (n m : Nat) (h : 0 < m) : ∃ p, p < m ∧ (∀ q, q < m → ¬ Ls f n q p) ∧ ∀ q, q < p → ∃ r, r < m ∧ Ls f n r q := by
  obtain ⟨p0, hp0, hm0⟩ := ex_min f n m h
  have key : ∀ k p, p ≤ k → p < m → (∀ q, q < m → ¬ Ls f n q p) → ∃ p, p < m ∧ (∀ q, q < m → ¬ Ls f n q p) ∧ ∀ q, q < p → ∃ r, r < m ∧ Ls f n r q := by
    intro k
    induction k with
    | zero => intro p hk hp hm; exact ⟨p, hp, hm, fun q hq => by omega⟩
    | succ k ih =>
      intro p hk hp hm
      by_cases hx : ∀ q, q < p → ∃ r, r < m ∧ Ls f n r q
      · exact ⟨p, hp, hm, hx⟩
      · have ⟨q, hq⟩ := Classical.not_forall.mp hx
        have ⟨hqp, hn⟩ := Classical.not_imp.mp hq
        refine ih q (by omega) (by omega) fun r hr hl => hn ⟨r, hr, hl⟩
  exact key p0 p0 (Nat.le_refl _) hp0 hm0
/-- what is left out can't be least -/
def Out (f : Nat → Int) (n p : Nat) : Prop := ∃ q, Ls f n q p
structure Race (f : Nat → Int) (n one other alike : Nat) : Prop where
  a : ∀ p, p < one → Out f n p
  b : ∀ p, p < other → p ≠ one → Out f n p
  ne : one ≠ other
  al : alike ≤ n
  e : ∀ t, t < alike → f (one + t) = f (other + t)
theorem Race.start (f : Nat → Int) (n : Nat) : Race f n 0 1 0 := ⟨fun p h => by omega, fun p h h' => by omega, by omega, Nat.zero_le _, fun t h => by omega⟩
theorem Race.more {f n one other alike} (R : Race f n one other alike) (h : alike < n) (e : f (one + alike) = f (other + alike)) : Race f n one other (alike + 1) :=
  ⟨R.a, R.b, R.ne, h, fun t ht => by
    by_cases h' : t < alike
    · exact R.e t h'
    · have : t = alike := by omega
      subst this; exact e⟩
theorem out_run {f : Nat → Int} {n p q alike t : Nat} (h : alike < n) (e : ∀ t, t < alike → f (p + t) = f (q + t)) (l : f (q + alike) < f (p + alike)) (ht : t ≤ alike) : Out f n (p + t) := by
  refine ⟨q + t, alike - t, by omega, fun s hs => ?_, ?_⟩
  · have := e (t + s) (by omega)
    rw [Nat.add_assoc, Nat.add_assoc]
    exact this.symm
  · have e1 : q + t + (alike - t) = q + alike := by omega
    have e2 : p + t + (alike - t) = p + alike := by omega
    rw [e1, e2]
    exact l
theorem Race.one {f n one other alike} (R : Race f n one other alike) (h : alike < n) (l : f (other + alike) < f (one + alike)) :
    Race f n (one + (alike + 1)) (if one + (alike + 1) = other then other + 1 else other) 0 := by
  have A : ∀ p, p < one + (alike + 1) → Out f n p := by
    intro p hp
    by_cases h' : p < one
    · exact R.a p h'
    · obtain ⟨t, rfl⟩ : ∃ t, p = one + t := ⟨p - one, by omega⟩
      exact out_run h R.e l (by omega)
  refine ⟨A, fun p hp hn => ?_, ?_, Nat.zero_le _, fun t ht => by omega⟩
  · by_cases hp1 : p < one + (alike + 1)
    · exact A p hp1
    · split at hp
      · omega
      · by_cases hpo : p = one
        · omega
        · exact R.b p hp hpo
  · split <;> omega
theorem Race.other {f n one other alike} (R : Race f n one other alike) (h : alike < n) (l : f (one + alike) < f (other + alike)) :
    Race f n one (if one = other + (alike + 1) then other + (alike + 1) + 1 else other + (alike + 1)) 0 := by
  have B : ∀ p, p < other + (alike + 1) → p ≠ one → Out f n p := by
    intro p hp hn
    by_cases h' : p < other
    · exact R.b p h' hn
    · obtain ⟨t, rfl⟩ : ∃ t, p = other + t := ⟨p - other, by omega⟩
      exact out_run h (fun t ht => (R.e t ht).symm) l (by omega)
  refine ⟨R.a, fun p hp hn => ?_, ?_, Nat.zero_le _, fun t ht => by omega⟩
  · split at hp
    · exact B p (by omega) hn
    · exact B p hp hn
  · split <;> omega
/-- round: f comes back after n -/
theorem per_mod {f : Nat → Int} {n : Nat} (hf : ∀ s, f (s + n) = f s) (s : Nat) : f (s % n) = f s := by
  have : ∀ k s, f (s + n * k) = f s := by
    intro k
    induction k with
    | zero => intro s; rfl
    | succ k ih => intro s; rw [Nat.mul_succ, ← Nat.add_assoc, hf, ih]
  have h := this (s / n) (s % n)
  rw [Nat.mod_add_div] at h
  exact h.symm
theorem out_in {f : Nat → Int} {n p : Nat} (hf : ∀ s, f (s + n) = f s) (h0 : 0 < n) (h : Out f n p) : ∃ q, q < n ∧ Ls f n q p := by
  obtain ⟨q, k, hk, e, l⟩ := h
  refine ⟨q % n, Nat.mod_lt _ h0, k, hk, fun t ht => ?_, ?_⟩
  · rw [← e t ht, ← per_mod hf (q % n + t), ← per_mod hf (q + t), Nat.mod_add_mod]
  · rw [← per_mod hf (q % n + k), Nat.mod_add_mod, per_mod hf]
    exact l
/-- what comes of the race: the place reads least -/
theorem Race.fin {f : Nat → Int} {n one other alike : Nat} (R : Race f n one other alike) (hf : ∀ s, f (s + n) = f s) (h0 : 0 < n) (hend : ¬ (one < n ∧ other < n ∧ alike < n)) :
    min one other < n ∧ ∀ q, q < n → ¬ Ls f n q (min one other) := by
  obtain ⟨p, hp, hm, hfirst⟩ := ex_first f n n h0
  have no : ¬ Out f n p := fun ho => by
    obtain ⟨q, hq, hl⟩ := out_in hf h0 ho
    exact hm q hq hl
  have h1 : one ≤ p := by
    by_cases h : p < one
    · exact absurd (R.a p h) no
    · omega
  have h2 : p = one ∨ other ≤ p := by
    by_cases h : p = one
    · exact .inl h
    · by_cases h' : p < other
      · exact absurd (R.b p h' h) no
      · omega
  by_cases hn : other < n
  · -- all letters alike
    have ha : alike = n := by
      have := R.al
      omega
    have e := R.e
    rw [ha] at e
    have eall : ∀ t, f (one + t) = f (other + t) := by
      intro t
      have := e (t % n) (Nat.mod_lt _ h0)
      rw [← per_mod hf (one + t), ← per_mod hf (other + t), ← Nat.add_mod_mod one t n, ← Nat.add_mod_mod other t n, per_mod hf, per_mod hf]
      exact this
    have same : ∀ q, Ls f n q one ↔ Ls f n q other := fun q => ⟨fun ⟨k, hk, e1, l⟩ => ⟨k, hk, fun t ht => (e1 t ht).trans (eall t), by rw [← eall k]; exact l⟩, fun ⟨k, hk, e1, l⟩ => ⟨k, hk, fun t ht => (e1 t ht).trans (eall t).symm, by rw [eall k]; exact l⟩⟩
    have hp2 : p = one ∨ p = other := by
      rcases h2 with h2 | h2
      · exact .inl h2
      · by_cases hx : p = one ∨ p = other
        · exact hx
        · exfalso
          have ⟨hx1, hx2⟩ := not_or.mp hx
          have hne := R.ne
          -- one step back
          by_cases hlt : one < other
          · have hd : p - (other - one) < p := by omega
            obtain ⟨r, hr, hl⟩ := hfirst _ hd
            refine hm r hr ?_
            obtain ⟨k, hk, e1, l⟩ := hl
            have sh : ∀ t, f (p - (other - one) + t) = f (p + t) := by
              intro t
              have := eall (p - other + t)
              have a1 : one + (p - other + t) = p - (other - one) + t := by omega
              have a2 : other + (p - other + t) = p + t := by omega
              rw [a1, a2] at this
              exact this
            exact ⟨k, hk, fun t ht => (e1 t ht).trans (sh t), by rw [← sh k]; exact l⟩
          · have hd : p - (one - other) < p := by omega
            obtain ⟨r, hr, hl⟩ := hfirst _ hd
            refine hm r hr ?_
            obtain ⟨k, hk, e1, l⟩ := hl
            have sh : ∀ t, f (p - (one - other) + t) = f (p + t) := by
              intro t
              have := eall (p - one + t)
              have a1 : other + (p - one + t) = p - (one - other) + t := by omega
              have a2 : one + (p - one + t) = p + t := by omega
              rw [a1, a2] at this
              exact this.symm
            exact ⟨k, hk, fun t ht => (e1 t ht).trans (sh t), by rw [← sh k]; exact l⟩
    refine ⟨by omega, fun q hq hl => hm q hq ?_⟩
    have hmin : min one other = one ∨ min one other = other := by omega
    rcases hp2 with rfl | rfl <;> rcases hmin with h | h <;> rw [h] at hl
    · exact hl
    · exact (same q).mpr hl
    · exact (same q).mp hl
    · exact hl
  · have hpo : p = one := by omega
    subst hpo
    have : min p other = p := by omega
    rw [this]
    exact ⟨hp, hm⟩
end Lt
namespace Lt
/-! ### rows read round -/
def rot (xs : List Int) (p : Nat) : List Int := xs.drop p ++ xs.take p
def rd (xs : List Int) (s : Nat) : Int := xs.getD (s % xs.length) 0
theorem rot_length (xs : List Int) (p : Nat) : (rot xs p).length = xs.length := by
  unfold rot
  rw [List.length_append, List.length_drop, List.length_take]
  omega
theorem rd_per (xs : List Int) (s : Nat) : rd xs (s + xs.length) = rd xs s := by
  unfold rd
  rw [Nat.add_mod_right]
theorem rd_lt {xs : List Int} {s : Nat} (h : s < xs.length) : rd xs s = xs.getD s 0 := by
  unfold rd
  rw [Nat.mod_eq_of_lt h]
theorem rot_getD {xs : List Int} {p t : Nat} (hp : p ≤ xs.length) (ht : t < xs.length) : (rot xs p).getD t 0 = rd xs (p + t) := by
  unfold rot rd
  rw [List.getD_eq_getElem?_getD, List.getD_eq_getElem?_getD]
  congr 1
  by_cases h : p + t < xs.length
  · rw [Nat.mod_eq_of_lt h, List.getElem?_append_left (by rw [List.length_drop]; omega), List.getElem?_drop]
  · have e : (p + t) % xs.length = p + t - xs.length := by
      rw [Nat.mod_eq_sub_mod (by omega)]
      by_cases h2 : p + t - xs.length < xs.length
      · exact Nat.mod_eq_of_lt h2
      · omega
    rw [e, List.getElem?_append_right (by rw [List.length_drop]; omega), List.length_drop, List.getElem?_take]
    have h3 : t - (xs.length - p) = p + t - xs.length := by omega
    rw [h3, if_pos (by omega)]
theorem ext_getD {a b : List Int} (hl : a.length = b.length) (h : ∀ t, t < a.length → a.getD t 0 = b.getD t 0) : a = b := by
  apply List.ext_getElem hl
  intro i h1 h2
  have := h i h1
  rw [List.getD_eq_getElem?_getD, List.getD_eq_getElem?_getD, List.getElem?_eq_getElem h1, List.getElem?_eq_getElem h2] at this
  exact this
theorem rot_mem {xs : List Int} {p : Nat} {x : Int} (h : x ∈ rot xs p) : x ∈ xs := by
  unfold rot at h
  rcases List.mem_append.mp h with h | h
  · exact List.mem_of_mem_drop h
  · exact List.mem_of_mem_take h
theorem rot_eq_of {xs : List Int} {p q : Nat} (hp : p ≤ xs.length) (hq : q ≤ xs.length) (h : ∀ t, t < xs.length → rd xs (p + t) = rd xs (q + t)) : rot xs p = rot xs q := by
  refine ext_getD (by rw [rot_length, rot_length]) fun t ht => ?_
  rw [rot_length] at ht
  rw [rot_getD hp ht, rot_getD hq ht, h t ht]
theorem rd_rot {xs : List Int} {p : Nat} (hp : p ≤ xs.length) (h0 : 0 < xs.length) (s : Nat) : rd (rot xs p) s = rd xs (p + s) := by
  have h1 : rd (rot xs p) s = (rot xs p).getD (s % xs.length) 0 := by
    unfold rd
    rw [rot_length]
  rw [h1, rot_getD hp (Nat.mod_lt _ h0)]
  unfold rd
  rw [Nat.add_mod_mod]
theorem rot_rot {xs : List Int} {p q : Nat} (hp : p ≤ xs.length) (hq : q ≤ xs.length) (h0 : 0 < xs.length) : rot (rot xs p) q = rot xs ((p + q) % xs.length) := by
  refine ext_getD (by rw [rot_length, rot_length, rot_length]) fun t ht => ?_
  rw [rot_length, rot_length] at ht
  rw [rot_getD (by rw [rot_length]; exact hq) (by rw [rot_length]; exact ht), rd_rot hp h0, rot_getD (Nat.le_of_lt (Nat.mod_lt _ h0)) ht]
  unfold rd
  rw [Nat.mod_add_mod, Nat.add_assoc]
/-- ms is the least of the turned forms of ns -/
def Least (ns ms : List Int) : Prop := ∃ p, p < max 1 ns.length ∧ ms = rot ns p ∧ ∀ q, q < ns.length → ¬ Ls (rd ns) ns.length q p
theorem Least.ex (ns : List Int) : ∃ ms, Least ns ms := by
  by_cases h : 0 < ns.length
  · obtain ⟨p, hp, hm⟩ := ex_min (rd ns) ns.length ns.length h
    exact ⟨_, p, by omega, rfl, hm⟩
  · exact ⟨_, 0, by omega, rfl, fun q hq => by omega⟩
theorem Least.uniq {ns a b : List Int} (h1 : Least ns a) (h2 : Least ns b) : a = b := by
  obtain ⟨p, hp, rfl, m1⟩ := h1
  obtain ⟨q, hq, rfl, m2⟩ := h2
  by_cases h0 : 0 < ns.length
  · rcases Ls.total (rd ns) ns.length p q with h | h | h
    · exact absurd h (m2 p (by omega))
    · exact absurd h (m1 q (by omega))
    · exact rot_eq_of (by omega) (by omega) h
  · have : p = q := by omega
    rw [this]
theorem Ls.shift {xs : List Int} {j p q : Nat} (hj : j ≤ xs.length) (h0 : 0 < xs.length) : Ls (rd (rot xs j)) xs.length p q ↔ Ls (rd xs) xs.length (j + p) (j + q) := by
  constructor
  · rintro ⟨k, hk, e, l⟩
    refine ⟨k, hk, fun t ht => ?_, ?_⟩
    · have := e t ht
      rw [rd_rot hj h0, rd_rot hj h0] at this
      rw [Nat.add_assoc, Nat.add_assoc]
      exact this
    · rw [rd_rot hj h0, rd_rot hj h0] at l
      rw [Nat.add_assoc, Nat.add_assoc]
      exact l
  · rintro ⟨k, hk, e, l⟩
    refine ⟨k, hk, fun t ht => ?_, ?_⟩
    · rw [rd_rot hj h0, rd_rot hj h0, ← Nat.add_assoc, ← Nat.add_assoc]
      exact e t ht
    · rw [rd_rot hj h0, rd_rot hj h0, ← Nat.add_assoc, ← Nat.add_assoc]
      exact l
theorem Ls.modl {xs : List Int} {p q : Nat} : Ls (rd xs) xs.length (p % xs.length) (q % xs.length) ↔ Ls (rd xs) xs.length p q := by
  have e : ∀ s t, rd xs (s % xs.length + t) = rd xs (s + t) := fun s t => by
    unfold rd
    rw [Nat.mod_add_mod]
  constructor
  · rintro ⟨k, hk, h, l⟩
    exact ⟨k, hk, fun t ht => by rw [← e p, ← e q]; exact h t ht, by rw [← e p, ← e q]; exact l⟩
  · rintro ⟨k, hk, h, l⟩
    exact ⟨k, hk, fun t ht => by rw [e p, e q]; exact h t ht, by rw [e p, e q]; exact l⟩
theorem Least.turn {ns ms : List Int} {j : Nat} (hj : j ≤ ns.length) (h : Least (rot ns j) ms) : Least ns ms := by
  obtain ⟨p, hp, rfl, m⟩ := h
  rw [rot_length] at hp m
  by_cases h0 : 0 < ns.length
  · refine ⟨(j + p) % ns.length, by have := Nat.mod_lt (j + p) h0; omega, rot_rot hj (by omega) h0, fun q hq hl => ?_⟩
    refine m ((q + (ns.length - j)) % ns.length) (Nat.mod_lt _ h0) ?_
    rw [Ls.shift hj h0]
    have e1 : (j + (q + (ns.length - j)) % ns.length) % ns.length = q % ns.length := by
      rw [Nat.add_mod_mod]
      have : j + (q + (ns.length - j)) = q + ns.length := by omega
      rw [this, Nat.add_mod_right]
    rw [← Ls.modl, e1, Ls.modl, ← Ls.modl]
    have := Ls.modl.mpr hl
    rw [Nat.mod_mod] at this
    exact this
  · have : ns = [] := List.length_eq_zero_iff.mp (by omega)
    subst this
    refine ⟨0, by decide, ?_, fun q hq => absurd hq (by simp)⟩
    unfold rot
    simp
theorem Least.turn' {ns ms : List Int} {j : Nat} (hj : j ≤ ns.length) (h : Least ns ms) : Least (rot ns j) ms := by
  obtain ⟨ms', h'⟩ := Least.ex (rot ns j)
  have := h.uniq (h'.turn hj)
  rw [this]
  exact h'
theorem Least.self {ns ms : List Int} (h : Least ns ms) : Least ms ms := by
  obtain ⟨p, hp, e, m⟩ := id h
  by_cases h0 : 0 < ns.length
  · have := h.turn' (j := p) (by omega)
    rw [← e] at this
    exact this
  · have : ns = [] := List.length_eq_zero_iff.mp (by omega)
    subst this
    have : ms = [] := by rw [e]; unfold rot; simp
    rw [this] at h ⊢
    exact h
theorem Least.length {ns ms : List Int} (h : Least ns ms) : ms.length = ns.length := by
  obtain ⟨p, _, e, _⟩ := h
  rw [e, rot_length]
/-! ### the order of rows of one length -/
theorem ls_rows {ns : List Int} {p q : Nat} (hp : p ≤ ns.length) (hq : q ≤ ns.length) : Ls (rd ns) ns.length p q ↔ ∃ k, k < ns.length ∧ (∀ t, t < k → (rot ns p).getD t 0 = (rot ns q).getD t 0) ∧ (rot ns p).getD k 0 < (rot ns q).getD k 0 := by
  constructor
  · rintro ⟨k, hk, e, l⟩
    refine ⟨k, hk, fun t ht => ?_, ?_⟩
    · rw [rot_getD hp (by omega), rot_getD hq (by omega)]
      exact e t ht
    · rw [rot_getD hp hk, rot_getD hq hk]
      exact l
  · rintro ⟨k, hk, e, l⟩
    refine ⟨k, hk, fun t ht => ?_, ?_⟩
    · have := e t ht
      rw [rot_getD hp (by omega), rot_getD hq (by omega)] at this
      exact this
    · rw [rot_getD hp hk, rot_getD hq hk] at l
      exact l
end Lt
set_option Elab.async false
set_option linter.all false
set_option maxRecDepth 100000
set_option maxHeartbeats 2000000
/-! Words: rows of letters. -/
namespace W06
open PySem L2 PySem.Spec PyProof.Rows WR
def top (i : Nat) : Stmt := PySem.Challenge.pw_handlerims_k06_least_turned_and_turns_th.main.body.getD i (.Pass ⟨0, 0, 0, 0⟩)
abbrev sCon : Stmt := top 8
abbrev sShr : Stmt := top 9
abbrev sRnd : Stmt := top 10

theorem gen_heap {P : Hp → Prop} {H : Hp} (h : ∀ H3, H3 = H → P H3) : P H := h H rfl
theorem yes_te {σ : L2.St} {H : Hp} {A B : Hp → Prop} (h : A H) : tYes σ H (fun b H3 => if b = true then A H3 else B H3) := by
  show (if (true : Bool) = true then A H else B H)
  exact iteT h
/-! ### a def that the module's name x holds, with its promise -/
structure Cal (P : Program) (w : World) (K : PySem.W.Frag) (mg : Str → Option Value) (base : Heap) (x : Str) (k : Nat) (ps : List Str) (sp : Sp) : Prop where
  ex : ∃ (f : Addr) (fd : FuncData), FnOk P w K mg base CX0 k f fd ps sp ∧ mg x = some (.ref f) ∧ PySem.W.keepIn K (.ref f) = true ∧ Binds K fd ps []
section
variable {X : Cx} {x : Str} {k j : Nat} {ps : List Str} {sp : Sp} {p pos : Pos} {e : Expr} {es : List Expr} {t : TA}
theorem pe_cal (C : Cal X.prog X.w X.K X.mg X.base x k ps sp) (hr : Room j X.A) (hkj : k ≤ j) (hg : Gl X x) (ha : PA X (e :: es) t) (hdb : (x == ("__debug__" : Str)) = false := by decide)
    (he : starEach (e :: es) X.env = (false, eval e X.env) :: starEach es X.env := by rfl) (hpl : (backTo pos (starEach es X.env)).any (·.1) = false := by rfl) :
    PE X (.Call (.Name x p) (e :: es) [] pos) (tCall sp [] E0 t) := by
  obtain ⟨f, fd, F, hm, hk, hb⟩ := C.ex
  exact pe_call F (hr.mono hkj) hg hm hk hb .nil pass0 ha hdb he hpl
end
/-! ### comprehensions that change nothing -/
theorem lc_in {wi : TI} {g : TG} {tt : TT} {te : TE} {vs : List Nat} {σ : L2.St} {H : Hp} {Q : VK} (h : wi σ H fun J H1 => tLc (fun _ H R => R J H) g tt te vs σ H1 Q) : tLc wi g tt te vs σ H Q := h
theorem lcp {J : It} {xs : List V} {G : Hp → Prop} (w : Walk J xs.length G (YAt xs)) {g : TG} {tt : TT} {te : TE} {vs : List Nat} {σ : L2.St} {H1 : Hp} {Q : VK} (f : V → Bool) (v : V → V) (hz : xs.length < 40000) (hG : ∀ H, Same H1 H → G H)
    (hs : ∀ x, x ∈ xs → ∀ H, Same H1 H → ∀ (Qy : V → Hp → Prop) (Qn : Hp → Prop), (f x = true → ∀ H', Same H H' → Qy (v x) H') → (f x = false → ∀ H', Same H H' → Qn H') →
      g x (wipe σ vs) H fun σ2 H2 => wipe σ2 vs = wipe σ vs ∧ tt σ2 H2 fun b H3 => if b = true then te σ2 H3 Qy else Qn H3)
    (hd : ∀ (D : Addr) H', H1 D = none → Same H1 H' → H' D = some (.lst ((xs.filter f).map v)) → Q (.ref D) H') : tLc (fun _ H R => R J H) g tt te vs σ H1 Q := by
  intro D hD
  refine lc_it w (fun i H => Same H1 H ∧ H D = some (.lst (((xs.take i).filter f).map v))) ⟨fun b o e => by rw [upd_ne (ne_of_none e hD)]; exact e, upd_same⟩ (fun i H _ q => hG H q.1) ?_ ?_
  · rintro i x H H' hi q ⟨rfl, hx⟩
    have hm : x ∈ xs := List.mem_of_getElem? hx
    have et : xs.take (i + 1) = xs.take i ++ [x] := by
      have hx2 : xs[i] = x := (List.getElem?_eq_some_iff.mp hx).2
      rw [List.take_succ_eq_append_getElem hi, hx2]
    refine hs x hm H' q.1 _ _ (fun hf H2 s2 => ⟨_, s2 _ _ q.2, ?_, ?_, ?_⟩) (fun hf H2 s2 => ⟨fun b o e => s2 b o (q.1 b o e), ?_⟩)
    · refine Evl.sz_lt ?_
      rw [List.length_map]
      have := List.length_filter_le f (xs.take i)
      rw [List.length_take] at this
      omega
    · intro b o e
      rw [upd_ne (ne_of_none e hD)]
      exact s2 b o (q.1 b o e)
    · rw [upd_same, et, List.filter_append, List.map_append, List.filter_cons, if_pos hf]
      rfl
    · rw [et, List.filter_append, List.filter_cons, if_neg (by rw [hf]; decide)]
      show H2 D = some (.lst (((xs.take i).filter f ++ []).map v))
      rw [List.append_nil]
      exact s2 _ _ q.2
  · intro H q
    have q2 := q.2
    rw [List.take_length] at q2
    exact hd D H hD q.1 q2

theorem ret_cb {r : List V → Hp → VK → Prop} {te : TE} {D : Ends} {σ : L2.St} {H : Hp} (h : te σ H fun x H1 => r [x] H1 D.rt) : tRet (tCB r (tCons te tNil)) D σ H := h
theorem ret_e {te : TE} {D : Ends} {σ : L2.St} {H : Hp} (h : te σ H D.rt) : tRet te D σ H := h
theorem iteT' {c : Bool} {A B : Prop} (hc : c = true) (h : A) : if c = true then A else B := by rw [if_pos hc]; exact h
abbrev iv (ns : List Int) : List V := ns.map V.int
def SqE (K : PySem.W.Frag) (H : Hp) (a : Addr) (xs : List V) : Prop := SqL K H a xs ∨ SqT K H a xs
theorem SqE.same {K : PySem.W.Frag} {H H' : Hp} {a : Addr} {xs : List V} (h : SqE K H a xs) (s : Same H H') : SqE K H' a xs := by
  rcases h with h | h
  · exact .inl (s.seq h)
  · exact .inr (WR.Same.seqT s h)
def spCon (K : PySem.W.Frag) : Sp := fun vs H Q _ => ∃ (a : Addr) (ns : List Int), vs = [.ref a] ∧ SqT K H a (iv ns) ∧ ns.length ≤ 1000 ∧ NewT K H Q (iv (Fr.con ns))
def spShr (K : PySem.W.Frag) : Sp := fun vs H Q _ => ∃ (a : Addr) (ns : List Int), vs = [.ref a] ∧ SqE K H a (iv ns) ∧ ns.length ≤ 1000 ∧ NewT K H Q (iv (Fr.shr ns))
def spRnd (K : PySem.W.Frag) : Sp := fun vs H Q _ => ∃ (a : Addr) (ns : List Int), vs = [.ref a] ∧ SqE K H a (iv ns) ∧ ns.length ≤ 1000 ∧ Fr.NZ ns ∧ NewT K H Q (iv (Fr.rnd ns))
structure TxA (mg : Str → Option Value) : Prop where
  tuple : mg "tuple" = none
  len : mg "len" = none
section
variable {P : Program} {w : World} {K : PySem.W.Frag} {mg : Str → Option Value} {base : Heap}
theorem scCon : FnScope ["letters", "letter"] ["letters"] (defScope sCon) := ⟨rfl, rfl, rfl, by decide +kernel, rfl, by decide +kernel, by decide +kernel⟩
theorem ok_con {f : Addr} {fd : FuncData} (F : Fun K "contrary_letters" "contrary_letters" sCon f fd) (T : TxA mg) : FnOk P w K mg base CX0 1 f fd ["letters"] (spCon K) := by
  refine F.ok scCon (fun vs H Q E h => ?_) (fun cdv A outer s H vs Q E hr h => ?_)
  · obtain ⟨a, ns, rfl, _⟩ := h
    rfl
  · obtain ⟨a, ns, rfl, hS, hlen, k⟩ := h
    refine ⟨_, pss_one (ps_ret (pe_callTy call_tuple_of (by rfl) T.tuple (by decide +kernel) (pa_cons (pe_lc (own := [("letter", 1)]) (g := gName 1) (tt := tYes) rfl scCon.nd (pi_tup (pe_revT (pv 0)))
      (blkOk_by (N := ["letters", "letter"]) (sc := defScope sCon) (by decide +kernel)) (fun _ _ _ _ _ => pg_name (i := 1) scCon.nd rfl (Or.inl rfl)) (fun _ _ _ _ _ => pts_nil)
      (fun _ _ _ _ _ => pe_un un_neg (pv 1))) pa_nil))), ?_⟩
    refine ret_cb (lc_in ?_)
    refine ⟨_, rfl, a, iv ns, rfl, hS, fun p hp => ?_⟩
    refine ⟨p, rfl, ⟨_, SqT.of upd_same⟩, ?_⟩
    refine lcp (walk_tup (xs := (iv ns).reverse)) (fun _ => true) (fun x => match x with | .int i => .int (-i) | _ => .non) (by simp; omega) (fun H2 s2 => SqT.of (s2 _ _ upd_same)) ?_ ?_
    · intro x hx H2 s2 Qy Qn ky kn
      obtain ⟨i, rfl⟩ : ∃ i, x = V.int i := by
        simp at hx
        obtain ⟨i, _, rfl⟩ := hx
        exact ⟨i, rfl⟩
      refine ⟨rfl, yes_te ?_⟩
      exact ⟨_, rfl, i, rfl, ky rfl H2 (fun _ _ e => e)⟩
    · intro D H2 hD s2 h2
      refine ⟨D, _, rfl, .inl ⟨SqL.of h2, fun l hl => ?_⟩⟩
      have e : (((iv ns).reverse.filter fun _ => true).map fun x => match x with | .int i => V.int (-i) | _ => .non) = iv (Fr.con ns) := by
        rw [List.filter_eq_self.mpr (fun _ _ => rfl)]
        unfold Fr.con
        simp [iv, List.map_reverse, Function.comp_def]
      rw [e]
      exact k l _ ((same_upd hp).trans (s2.trans (same_upd hl))) (SqT.of upd_same)
theorem scShr : FnScope ["letters", "left", "letter"] ["letters"] (defScope sShr) := ⟨rfl, rfl, rfl, by decide +kernel, rfl, by decide +kernel, by decide +kernel⟩
theorem act_take {ns : List Int} {i : Nat} {x : Int} (h : ns[i]? = some x) : Fr.act [] (ns.take (i + 1)) = Fr.push (Fr.act [] (ns.take i)) x := by
  have hi : i < ns.length := (List.getElem?_eq_some_iff.mp h).1
  have hx : ns[i] = x := (List.getElem?_eq_some_iff.mp h).2
  rw [List.take_succ_eq_append_getElem hi, hx, Fr.act_snoc]
theorem act_len : ∀ (ns s : List Int), (Fr.act s ns).length ≤ s.length + ns.length
  | [], s => by simp [Fr.act]
  | a :: t, s => by
    rw [Fr.act_cons]
    have h1 := act_len t (Fr.push s a)
    have h2 : (Fr.push s a).length ≤ s.length + 1 := by
      cases s with
      | nil => simp [Fr.push]
      | cons b u =>
        show (if b = -a then u else a :: b :: u).length ≤ _
        split <;> simp <;> omega
    simp only [List.length_cons]
    omega
theorem shr_len (ns : List Int) : (Fr.shr ns).length ≤ ns.length := by
  unfold Fr.shr
  rw [List.length_reverse]
  simpa using act_len ns []
theorem ok_shr {f : Addr} {fd : FuncData} (F : Fun K "shortened_letters" "shortened_letters" sShr f fd) (T : TxA mg) : FnOk P w K mg base CX0 1 f fd ["letters"] (spShr K) := by
  refine F.ok scShr (fun vs H Q E h => ?_) (fun cdv A outer s H vs Q E hr h => ?_)
  · obtain ⟨a, ns, rfl, _⟩ := h
    rfl
  · obtain ⟨a, ns, rfl, hS, hlen, k⟩ := h
    rcases hS with hS | hS
    · refine ⟨_, pss_cons (ps_set (i := 1) scShr.nd rfl (Or.inl rfl) (pe_lst pa_nil))
        (pss_cons (ps_for PassesOwn.never rfl (pi_list (pv 0)) (pg_name (i := 2) scShr.nd rfl (Or.inl rfl))
          (pss_one (ps_if (PW.pt (pw_and (pt_truth (pv 1) (by intro _; rfl)) (pw_and1 (pt_cmpR op_eq (pe_ix ix_list (pv 1) (pe_un un_neg pe_int) (fun _ _ => rfl)) (pe_un un_neg (pv 2)) (nomark _)))))
            (pss_one (ps_expr (pe_bm0 PySem.F.plainAttrs_list PySem.F.slot_list_pop PySem.F.type_list_pop mt_pop (pv 1))))
            (pss_one (ps_expr (pe_bm PySem.F.plainAttrs_list PySem.F.slot_list_append PySem.F.type_list_append mt_append (pv 1) (pa_cons (pv 2) pa_nil)))))))
        (pss_one (ps_ret (pe_callTy call_tuple_of (by rfl) T.tuple (by decide +kernel) (pa_cons (pv 1) pa_nil))))), ?_⟩
      refine ⟨Nat.zero_le _, fun l hl => ?_⟩
      refine ⟨_, rfl, a, rfl, ⟨_, (by have s := same_upd (o := HO.lst []) hl; exact (s.seq hS))⟩, for_list (K := K) (a := a) (xs := iv ns) (fun i σ H1 => ∃ v, σ = [some (.ref a), some (.ref l), v] ∧ Same H H1 ∧ H1 l = some (.lst (iv (Fr.act [] (ns.take i)).reverse)))
        ⟨none, rfl, same_upd hl, by rw [upd_same]; rfl⟩ (fun i σ H1 _ ⟨_, _, s, _⟩ => (s.seq hS)) ?_ ?_⟩
      · rintro i y σ H1 hi ⟨v, rfl, sm, hL⟩
        obtain ⟨x, hx, rfl⟩ : ∃ x, ns[i]? = some x ∧ y = V.int x := by
          rw [List.getElem?_map] at hi
          cases e : ns[i]? with
          | none => rw [e] at hi; cases hi
          | some x => rw [e] at hi; exact ⟨x, rfl, (Option.some.inj hi).symm⟩
        have hi2 : i < ns.length := (List.getElem?_eq_some_iff.mp hx).1
        have nx := act_take hx
        have hsz : (Fr.act [] (ns.take i)).length ≤ 1000 := by
          have := act_len (ns.take i) []
          rw [List.length_take] at this
          simp at this
          omega
        have put : ∀ xs, Same H (L2.upd H1 l (.lst xs)) := fun xs b o e => by
          rw [upd_ne (ne_of_none e hl)]
          exact sm b o e
        refine ⟨_, rfl, _, .inl ⟨_, SqL.of hL, rfl⟩, ?_⟩
        cases est : Fr.act [] (ns.take i) with
        | nil =>
          rw [est] at hL nx
          refine iteF ?_
          refine iteF ?_
          refine ⟨_, rfl, .inl ⟨rfl, _, SqL.of hL⟩, _, rfl, l, _, _, rfl, rfl, hL, Evl.sz_lt (by simp), ?_⟩
          refine ⟨_, rfl, put _, ?_⟩
          rw [upd_same, nx]
          rfl
        | cons b t =>
          rw [est] at hL nx hsz
          have eL : iv (b :: t).reverse = iv t.reverse ++ [V.int b] := by simp [iv]
          refine iteT' (by simp [iv]) ?_
          refine ⟨_, rfl, _, rfl, l, _, _, _, rfl, rfl, SqL.of hL, (by rw [eL]; exact atI_last _ _), _, rfl, x, rfl, rfl, _, rfl, ?_⟩
          refine ite2 (fun hb => ?_) (fun hb => ?_)
          · have eb : b = -x := by
              have := of_decide_eq_true hb
              injection this
            refine ⟨_, rfl, .inl ⟨rfl, _, SqL.of hL⟩, l, _, V.int b, rfl, rfl, hL, (by rw [eL]; simp), ?_⟩
            refine ⟨_, rfl, put _, ?_⟩
            rw [upd_same, nx]
            have : Fr.push (b :: t) x = t := by simp [Fr.push, eb]
            rw [this, eL, List.dropLast_concat]
          · have eb : ¬ b = -x := fun e => hb (decide_eq_true (by rw [e]))
            refine ⟨_, rfl, .inl ⟨rfl, _, SqL.of hL⟩, _, rfl, l, _, _, rfl, rfl, hL, Evl.sz_lt (by simp [iv] at hsz ⊢; omega), ?_⟩
            refine ⟨_, rfl, put _, ?_⟩
            rw [upd_same, nx]
            have : Fr.push (b :: t) x = x :: b :: t := by simp [Fr.push, eb]
            rw [this]
            simp [iv]
      · rintro σ H1 ⟨v, rfl, sm, hL⟩
        rw [List.take_of_length_le (by simp)] at hL
        refine ⟨_, rfl, l, _, rfl, .inl ⟨SqL.of hL, fun p hp => ?_⟩⟩
        exact k p _ (sm.trans (same_upd hp)) (SqT.of (by rw [upd_same]; rfl))
    · refine ⟨_, pss_cons (ps_set (i := 1) scShr.nd rfl (Or.inl rfl) (pe_lst pa_nil))
        (pss_cons (ps_for PassesOwn.never rfl (pi_tup (pv 0)) (pg_name (i := 2) scShr.nd rfl (Or.inl rfl))
          (pss_one (ps_if (PW.pt (pw_and (pt_truth (pv 1) (by intro _; rfl)) (pw_and1 (pt_cmpR op_eq (pe_ix ix_list (pv 1) (pe_un un_neg pe_int) (fun _ _ => rfl)) (pe_un un_neg (pv 2)) (nomark _)))))
            (pss_one (ps_expr (pe_bm0 PySem.F.plainAttrs_list PySem.F.slot_list_pop PySem.F.type_list_pop mt_pop (pv 1))))
            (pss_one (ps_expr (pe_bm PySem.F.plainAttrs_list PySem.F.slot_list_append PySem.F.type_list_append mt_append (pv 1) (pa_cons (pv 2) pa_nil)))))))
        (pss_one (ps_ret (pe_callTy call_tuple_of (by rfl) T.tuple (by decide +kernel) (pa_cons (pv 1) pa_nil))))), ?_⟩
      refine ⟨Nat.zero_le _, fun l hl => ?_⟩
      refine ⟨_, rfl, a, rfl, ⟨_, (by have s := same_upd (o := HO.lst []) hl; exact (WR.Same.seqT s hS))⟩, for_tup (K := K) (a := a) (xs := iv ns) (fun i σ H1 => ∃ v, σ = [some (.ref a), some (.ref l), v] ∧ Same H H1 ∧ H1 l = some (.lst (iv (Fr.act [] (ns.take i)).reverse)))
        ⟨none, rfl, same_upd hl, by rw [upd_same]; rfl⟩ (fun i σ H1 _ ⟨_, _, s, _⟩ => (WR.Same.seqT s hS)) ?_ ?_⟩
      · rintro i y σ H1 hi ⟨v, rfl, sm, hL⟩
        obtain ⟨x, hx, rfl⟩ : ∃ x, ns[i]? = some x ∧ y = V.int x := by
          rw [List.getElem?_map] at hi
          cases e : ns[i]? with
          | none => rw [e] at hi; cases hi
          | some x => rw [e] at hi; exact ⟨x, rfl, (Option.some.inj hi).symm⟩
        have hi2 : i < ns.length := (List.getElem?_eq_some_iff.mp hx).1
        have nx := act_take hx
        have hsz : (Fr.act [] (ns.take i)).length ≤ 1000 := by
          have := act_len (ns.take i) []
          rw [List.length_take] at this
          simp at this
          omega
        have put : ∀ xs, Same H (L2.upd H1 l (.lst xs)) := fun xs b o e => by
          rw [upd_ne (ne_of_none e hl)]
          exact sm b o e
        refine ⟨_, rfl, _, .inl ⟨_, SqL.of hL, rfl⟩, ?_⟩
        cases est : Fr.act [] (ns.take i) with
        | nil =>
          rw [est] at hL nx
          refine iteF ?_
          refine iteF ?_
          refine ⟨_, rfl, .inl ⟨rfl, _, SqL.of hL⟩, _, rfl, l, _, _, rfl, rfl, hL, Evl.sz_lt (by simp), ?_⟩
          refine ⟨_, rfl, put _, ?_⟩
          rw [upd_same, nx]
          rfl
        | cons b t =>
          rw [est] at hL nx hsz
          have eL : iv (b :: t).reverse = iv t.reverse ++ [V.int b] := by simp [iv]
          refine iteT' (by simp [iv]) ?_
          refine ⟨_, rfl, _, rfl, l, _, _, _, rfl, rfl, SqL.of hL, (by rw [eL]; exact atI_last _ _), _, rfl, x, rfl, rfl, _, rfl, ?_⟩
          refine ite2 (fun hb => ?_) (fun hb => ?_)
          · have eb : b = -x := by
              have := of_decide_eq_true hb
              injection this
            refine ⟨_, rfl, .inl ⟨rfl, _, SqL.of hL⟩, l, _, V.int b, rfl, rfl, hL, (by rw [eL]; simp), ?_⟩
            refine ⟨_, rfl, put _, ?_⟩
            rw [upd_same, nx]
            have : Fr.push (b :: t) x = t := by simp [Fr.push, eb]
            rw [this, eL, List.dropLast_concat]
          · have eb : ¬ b = -x := fun e => hb (decide_eq_true (by rw [e]))
            refine ⟨_, rfl, .inl ⟨rfl, _, SqL.of hL⟩, _, rfl, l, _, _, rfl, rfl, hL, Evl.sz_lt (by simp [iv] at hsz ⊢; omega), ?_⟩
            refine ⟨_, rfl, put _, ?_⟩
            rw [upd_same, nx]
            have : Fr.push (b :: t) x = x :: b :: t := by simp [Fr.push, eb]
            rw [this]
            simp [iv]
      · rintro σ H1 ⟨v, rfl, sm, hL⟩
        rw [List.take_of_length_le (by simp)] at hL
        refine ⟨_, rfl, l, _, rfl, .inl ⟨SqL.of hL, fun p hp => ?_⟩⟩
        exact k p _ (sm.trans (same_upd hp)) (SqT.of (by rw [upd_same]; rfl))
end
end W06
set_option Elab.async false
set_option linter.all false
set_option maxRecDepth 100000
set_option maxHeartbeats 2000000
namespace W06
open PySem L2 PySem.Spec PyProof.Rows WR
section
variable {P : Program} {w : World} {K : PySem.W.Frag} {mg : Str → Option Value} {base : Heap}
theorem iteF' {c : Bool} {A B : Prop} (hc : c = false) (h : B) : if c = true then A else B := by rw [if_neg (by rw [hc]; exact Bool.false_ne_true)]; exact h
theorem iv_get {ns : List Int} {i : Nat} {x : Int} (h : ns[i]? = some x) : (iv ns)[i]? = some (V.int x) := by
  rw [List.getElem?_map, h]
  rfl
theorem con_get {u : List Int} {j : Nat} (h : j < u.length) : (Fr.con u)[u.length - 1 - j]? = some (-u[j]) := by
  unfold Fr.con
  rw [List.getElem?_map, List.getElem?_reverse (by omega)]
  have e : u.length - 1 - (u.length - 1 - j) = j := by omega
  rw [e, List.getElem?_eq_getElem h]
  rfl
theorem whole_len (u w : List Int) : (u ++ w ++ Fr.con u).length = 2 * u.length + w.length := by
  rw [List.length_append, List.length_append, Fr.con_length]
  omega
theorem whole_lo {u w : List Int} {j : Nat} (h : j < u.length) : (u ++ w ++ Fr.con u)[j]? = some u[j] := by
  rw [List.append_assoc, List.getElem?_append_left h, List.getElem?_eq_getElem h]
theorem whole_hi {u w : List Int} {j : Nat} (h : j < u.length) : (u ++ w ++ Fr.con u)[2 * u.length + w.length - 1 - j]? = some (-u[j]) := by
  rw [List.getElem?_append_right (by rw [List.length_append]; omega), List.length_append]
  have e : 2 * u.length + w.length - 1 - j - (u.length + w.length) = u.length - 1 - j := by omega
  rw [e, con_get h]
theorem mid_lo {u w : List Int} (hw : w ≠ []) : (u ++ w ++ Fr.con u)[u.length]? = w.head? := by
  have : 0 < w.length := List.length_pos_iff.mpr hw
  rw [List.append_assoc, List.getElem?_append_right (Nat.le_refl _), Nat.sub_self, List.getElem?_append_left this, List.head?_eq_getElem?]
theorem mid_hi {u w : List Int} (hw : w ≠ []) : (u ++ w ++ Fr.con u)[2 * u.length + w.length - 1 - u.length]? = w.getLast? := by
  have : 0 < w.length := List.length_pos_iff.mpr hw
  rw [List.append_assoc, List.getElem?_append_right (by omega)]
  have e : 2 * u.length + w.length - 1 - u.length - u.length = w.length - 1 := by omega
  rw [e, List.getElem?_append_left (by omega), List.getLast?_eq_getElem?]
theorem whole_cut (u w : List Int) : ((u ++ w ++ Fr.con u).drop u.length).take w.length = w := by
  rw [List.append_assoc, List.drop_left, List.take_left]
theorem scRnd : FnScope ["letters", "left", "skipped"] ["letters"] (defScope sRnd) := ⟨rfl, rfl, rfl, by decide +kernel, rfl, by decide +kernel, by decide +kernel⟩
theorem cut_nat {xs : List V} {i j : Nat} (hi : i ≤ xs.length) (hj : j ≤ xs.length) : cutV xs (some (i : Int)) (some (j : Int)) = (xs.drop i).take (j - i) := by
  unfold cutV
  rw [HT.sIx_nat, HT.sIx_nat, Nat.min_eq_left hi, Nat.min_eq_left hj]
theorem ok_rnd {f : Addr} {fd : FuncData} (F : Fun K "rounded_letters" "rounded_letters" sRnd f fd) (GS : Cal P w K mg base "shortened_letters" 1 ["letters"] (spShr K)) (T : TxA mg) : FnOk P w K mg base CX0 2 f fd ["letters"] (spRnd K) := by
  refine F.ok scRnd (fun vs H Q E h => ?_) (fun cdv A outer s H vs Q E hr h => ?_)
  · obtain ⟨a, ns, rfl, _⟩ := h
    rfl
  · obtain ⟨a, ns, rfl, hS, hlen, nz, k⟩ := h
    refine ⟨_, pss_cons (ps_set (i := 1) scRnd.nd rfl (Or.inl rfl) (pe_cal GS hr (by decide) (by rfl) (pa_cons (pv 0) pa_nil)))
      (pss_cons (ps_set (i := 2) scRnd.nd rfl (Or.inl rfl) pe_int)
      (pss_cons (ps_while PassesOwn.never (PW.pt (pw_and (pt_cmpR op_lt (pe_op op_mul pe_int (pv 2)) (pe_callB call_len_seq (by rfl) T.len PySem.boot_len (pa_cons (pv 1) pa_nil)) (nomark _))
          (pw_and1 (pt_cmpR op_eq (pe_ix ix_tup (pv 1) (pv 2) (fun _ _ => rfl)) (pe_un un_neg (pe_ix ix_tup (pv 1) (pe_op op_sub (pe_op op_sub (pe_callB call_len_seq (by rfl) T.len PySem.boot_len (pa_cons (pv 1) pa_nil)) pe_int) (pv 2)) (fun _ _ => rfl))) (nomark _)))))
        (pss_one (ps_aug (i := 2) scRnd.nd rfl (Or.inl rfl) pe_int ip_add)))
      (pss_one (ps_ret (pe_slice sl_tupU (pv 1) (po_some (pv 2)) (po_some (pe_op op_sub (pe_callB call_len_seq (by rfl) T.len PySem.boot_len (pa_cons (pv 1) pa_nil)) (pv 2)))))))), ?_⟩
    refine ⟨_, rfl, a, ns, rfl, hS, hlen, fun p H1 sm hP => ?_⟩
    obtain ⟨u, m, e, c, z⟩ := Fr.parted (Fr.shr ns) nz.shr (Fr.rd_shr ns)
    have er : Fr.rnd ns = m := by
      unfold Fr.rnd
      rw [e, Fr.ends_eq c z]
    rw [er] at k
    have hl := shr_len ns
    rw [e] at hP hl
    rw [whole_len] at hl
    have L : (iv (u ++ m ++ Fr.con u)).length = 2 * u.length + m.length := by rw [List.length_map, whole_len]
    refine ⟨fun n σ H' => ∃ j, n = u.length - j ∧ j ≤ u.length ∧ σ = [some (.ref a), some (.ref p), some (.int ((j : Nat) : Int))] ∧ H' = H1, ⟨_, 0, rfl, Nat.zero_le _, rfl, rfl⟩, ?_⟩
    rintro n σ H' ⟨j, rfl, hj, rfl, rfl⟩
    refine ⟨_, rfl, _, _, rfl, rfl, .inl ⟨by decide, by decide⟩, _, rfl, p, _, rfl, .inr hP, _, _, rfl, rfl, _, rfl, ?_⟩
    have hback : ((iv (u ++ m ++ Fr.con u)).length : Int) - 1 - (j : Int) = ((2 * u.length + m.length - 1 - j : Nat) : Int) ∨ 2 * u.length + m.length = 0 := by
      rw [L]
      by_cases h0 : 2 * u.length + m.length = 0
      · exact .inr h0
      · left; omega
    by_cases hlt : j < u.length
    · refine iteT' (decide_eq_true (by rw [L]; omega)) ?_
      have hb := hback.resolve_right (by omega)
      refine ⟨_, rfl, _, rfl, p, _, _, _, rfl, rfl, hP, atI_nat (iv_get (whole_lo hlt)), ?_⟩
      refine ⟨_, rfl, _, rfl, p, _, rfl, .inr hP, _, _, rfl, rfl, _, rfl, _, _, rfl, rfl, p, _, _, _, rfl, rfl, hP, (by rw [hb]; exact atI_nat (iv_get (whole_hi hlt))), _, rfl, rfl, _, rfl, ?_⟩
      refine iteT' (decide_eq_true (by show V.int _ = V.int (- -_); rw [Int.neg_neg])) ?_
      refine ⟨fun σ' H'' => ∃ j', u.length - (j + 1) = u.length - j' ∧ j' ≤ u.length ∧ σ' = [some (.ref a), some (.ref p), some (.int ((j' : Nat) : Int))] ∧ H'' = H', fun σ' H'' ⟨j', q1, q2, q3, q4⟩ => ⟨_, by omega, j', q1, q2, q3, q4⟩, ?_⟩
      refine ⟨_, rfl, _, _, rfl, rfl, ?_⟩
      exact ⟨j + 1, rfl, hlt, by rfl, rfl⟩
    · have hj2 : j = u.length := by omega
      subst hj2
      have fin : NewT K H' Q (cutV (iv (u ++ m ++ Fr.con u)) (some ((u.length : Nat) : Int)) (some (((iv (u ++ m ++ Fr.con u)).length : Int) - ((u.length : Nat) : Int)))) := by
        have e1 : ((iv (u ++ m ++ Fr.con u)).length : Int) - ((u.length : Nat) : Int) = ((u.length + m.length : Nat) : Int) := by rw [L]; omega
        rw [e1, cut_nat (by rw [L]; omega) (by rw [L]; omega)]
        have e2 : u.length + m.length - u.length = m.length := by omega
        rw [e2]
        have e3 : ((iv (u ++ m ++ Fr.con u)).drop u.length).take m.length = iv m := by
          rw [← List.map_drop, ← List.map_take, whole_cut]
        rw [e3]
        exact fun q H2 s2 h2 => k q H2 (sm.trans s2) h2
      by_cases hm : m = []
      · have hu := z hm
        refine iteF' (decide_eq_false (by rw [L, hm, hu]; simp)) ?_
        refine iteF ?_
        exact ⟨_, rfl, _, rfl, _, rfl, _, rfl, p, _, rfl, .inr hP, _, rfl, _, _, rfl, rfl, _, rfl, p, _, rfl, hP, fin⟩
      · refine iteT' (decide_eq_true (by have := List.length_pos_iff.mpr hm; rw [L]; omega)) ?_
        have hb := hback.resolve_right (by have := List.length_pos_iff.mpr hm; omega)
        obtain ⟨x, hx⟩ : ∃ x, m.head? = some x := by
          cases m with
          | nil => exact absurd rfl hm
          | cons x t => exact ⟨x, rfl⟩
        obtain ⟨y, hy⟩ : ∃ y, m.getLast? = some y := ⟨_, List.getLast?_eq_some_getLast hm⟩
        have lo := (mid_lo (u := u) hm).trans hx
        have hi := (mid_hi (u := u) hm).trans hy
        refine ⟨_, rfl, _, rfl, p, _, _, _, rfl, rfl, hP, atI_nat (iv_get lo), ?_⟩
        refine ⟨_, rfl, _, rfl, p, _, rfl, .inr hP, _, _, rfl, rfl, _, rfl, _, _, rfl, rfl, p, _, _, _, rfl, rfl, hP, (by rw [hb]; exact atI_nat (iv_get hi)), _, rfl, rfl, _, rfl, ?_⟩
        refine iteF' (decide_eq_false fun q => ?_) ?_
        · have q2 : V.int x = V.int (-y) := q
          injection q2 with q3
          exact c.2 x y hx hy q3
        exact ⟨_, rfl, _, rfl, _, rfl, _, rfl, p, _, rfl, .inr hP, _, rfl, _, _, rfl, rfl, _, rfl, p, _, rfl, hP, fin⟩
end
end W06
set_option Elab.async false
set_option linter.all false
set_option maxRecDepth 100000
set_option maxHeartbeats 2000000
namespace W06
open PySem L2 PySem.Spec PyProof.Rows WR WS
abbrev sKinds : Stmt := top 13
theorem pigeon : ∀ (m : Nat) (L : List Int), L.Nodup → (∀ k ∈ L, 1 ≤ k ∧ k ≤ (m : Int)) → L.length ≤ m
  | 0, L, _, h => by
    cases L with
    | nil => simp
    | cons a t =>
      have := h a (by simp)
      omega
  | m + 1, L, nd, h => by
    by_cases hm : ((m + 1 : Nat) : Int) ∈ L
    · have ih := pigeon m (L.erase ((m + 1 : Nat) : Int)) (nd.erase _) fun k hk => by
        have h1 := (nd.mem_erase_iff).mp hk
        have h2 := h k h1.2
        have h3 := h1.1
        omega
      rw [List.length_erase_of_mem hm] at ih
      omega
    · have ih := pigeon m L nd fun k hk => by
        have h2 := h k hk
        have : k ≠ ((m + 1 : Nat) : Int) := fun e => hm (e ▸ hk)
        omega
      omega
theorem sci {w : World} {J : It} {xs : List V} {G : Hp → Prop} (wk : Walk J xs.length G (YAt xs)) {g : TG} {tt : TT} {te : TE} {vs : List Nat} {σ : L2.St} {H1 : Hp} {Q : VK} (v : V → Int)
    (hv : ∀ x ∈ xs, 1 ≤ v x ∧ v x ≤ 26) (hG : ∀ H, Same H1 H → G H)
    (hs : ∀ x, x ∈ xs → ∀ H, Same H1 H → ∀ (Qy : V → Hp → Prop) (Qn : Hp → Prop), Qy (.int (v x)) H →
      g x (wipe σ vs) H fun σ2 H2 => wipe σ2 vs = wipe σ vs ∧ tt σ2 H2 fun b H3 => if b = true then te σ2 H3 Qy else Qn H3)
    (hd : ∀ (D : Addr) (S : Int → Bool) (n : Nat) H', H1 D = none → Same H1 H' → H' D = some (SetO w D S n) → n ≤ 26 → (∀ k, S k = true ↔ ∃ x ∈ xs, k = v x) → Q (.ref D) H') : tSetI w (fun _ H R => R J H) g tt te vs σ H1 Q := by
  intro D hD
  refine ⟨fun i m H => m = xs.length - i ∧ i ≤ xs.length ∧ Same H1 H ∧ ∃ (S : Int → Bool) (L : List Int), H D = some (SetO w D S L.length) ∧ L.Nodup ∧ (∀ k, S k = true ↔ k ∈ L) ∧ ∀ k, k ∈ L ↔ ∃ x ∈ xs.take i, k = v x, ?_, ?_⟩
  · refine ⟨_, rfl, Nat.zero_le _, same_upd hD, fun _ => false, [], by rw [upd_same]; rfl, List.nodup_nil, fun k => by simp, fun k => by simp⟩
  · rintro i m H ⟨rfl, hi, sm, S, L, hS, nd, hL, hm⟩
    have bound : L.length ≤ 26 := pigeon 26 L nd fun k hk => by
      obtain ⟨x, hx, e⟩ := (hm k).mp hk
      have := hv x (List.mem_of_mem_take hx)
      omega
    by_cases hlt : i < xs.length
    · right
      refine ⟨wk.goes i H hlt (hG H sm), fun H' => Same H1 H' ∧ ∃ (S : Int → Bool) (L : List Int), H' D = some (SetO w D S L.length) ∧ L.Nodup ∧ (∀ k, S k = true ↔ k ∈ L) ∧ ∀ k, k ∈ L ↔ ∃ x ∈ xs.take (i + 1), k = v x, ?_, ?_⟩
      · rintro H' ⟨s2, q⟩
        exact ⟨xs.length - (i + 1), by omega, rfl, hlt, s2, q⟩
      · intro x H' hy
        obtain ⟨rfl, hx⟩ := wk.yields i H x H' hlt (hG H sm) hy
        have hmem : x ∈ xs := List.mem_of_getElem? hx
        have et : xs.take (i + 1) = xs.take i ++ [x] := by
          have hx2 : xs[i] = x := (List.getElem?_eq_some_iff.mp hx).2
          rw [List.take_succ_eq_append_getElem hlt, hx2]
        refine hs x hmem H' sm _ _ ?_
        refine ⟨D, v x, S, L.length, rfl, rfl, hS, ?_, ?_⟩
        · have : scanBound = 40000 ∨ 64 < scanBound := by right; decide
          have h64 : 64 < scanBound := by decide
          omega
        refine ⟨fun b o e => by rw [upd_ne (ne_of_none e hD)]; exact sm b o e, fun j => S j || decide (j = v x), if S (v x) = true then L else v x :: L, ?_, ?_, ?_, ?_⟩
        · rw [upd_same]
          by_cases c : S (v x) = true
          · rw [if_pos c, if_pos c]
          · rw [if_neg c, if_neg c]; rfl
        · by_cases c : S (v x) = true
          · rw [if_pos c]; exact nd
          · rw [if_neg c]
            exact List.nodup_cons.mpr ⟨fun h => c ((hL _).mpr h), nd⟩
        · intro k
          rw [Bool.or_eq_true, decide_eq_true_eq]
          by_cases c : S (v x) = true
          · rw [if_pos c, ← hL]
            constructor
            · rintro (h | rfl)
              · exact h
              · exact c
            · exact .inl
          · rw [if_neg c, List.mem_cons, ← hL]
            exact or_comm
        · intro k
          have e : (k ∈ if S (v x) = true then L else v x :: L) ↔ (k = v x ∨ k ∈ L) := by
            by_cases c : S (v x) = true
            · rw [if_pos c]
              constructor
              · exact .inr
              · rintro (rfl | h)
                · exact (hL _).mp c
                · exact h
            · rw [if_neg c, List.mem_cons]
          rw [e, hm, et]
          constructor
          · rintro (rfl | ⟨y, hy, rfl⟩)
            · exact ⟨x, by simp, rfl⟩
            · exact ⟨y, by simp [hy], rfl⟩
          · rintro ⟨y, hy, rfl⟩
            rw [List.mem_append, List.mem_singleton] at hy
            rcases hy with hy | rfl
            · exact .inr ⟨y, hy, rfl⟩
            · exact .inl rfl
    · left
      have hi2 : i = xs.length := by omega
      subst hi2
      rw [List.take_length] at hm
      exact ⟨wk.stops H (hG H sm), hd D S L.length H hD sm hS bound fun k => (hL k).trans (hm k)⟩
def kindsOk (ns ks : List Int) : Prop := ks.Pairwise (· < ·) ∧ ∀ k : Int, k ∈ ks ↔ ∃ x ∈ ns, k = (x.natAbs : Int)
/-- every letter of a kind from 1 to 26 -/
def Lts (ns : List Int) : Prop := ∀ x ∈ ns, 1 ≤ x.natAbs ∧ x.natAbs ≤ 26
def spKinds (K : PySem.W.Frag) : Sp := fun vs H Q _ => ∃ (a : Addr) (ns : List Int), vs = [.ref a] ∧ SqE K H a (iv ns) ∧ ns.length ≤ 1000 ∧ Lts ns ∧ ∀ ks, kindsOk ns ks → NewT K H Q (iv ks)
structure TxB (mg : Str → Option Value) : Prop where
  sorted : mg "sorted" = none
  abs : mg "abs" = none
section
variable {P : Program} {w : World} {K : PySem.W.Frag} {mg : Str → Option Value} {base : Heap}
theorem scKinds : FnScope ["letters", "letter"] ["letters"] (defScope sKinds) := ⟨rfl, rfl, rfl, by decide +kernel, rfl, by decide +kernel, by decide +kernel⟩
theorem ok_kinds {f : Addr} {fd : FuncData} (F : Fun K "kinds_of" "kinds_of" sKinds f fd) (T : TxA mg) (T2 : TxB mg) : FnOk P w K mg base CX0 1 f fd ["letters"] (spKinds K) := by
  refine F.ok scKinds (fun vs H Q E h => ?_) (fun cdv A outer s H vs Q E hr h => ?_)
  · obtain ⟨a, ns, rfl, _⟩ := h
    rfl
  · obtain ⟨a, ns, rfl, hS, hlen, hk, k⟩ := h
    have fin : ∀ (D : Addr) (S : Int → Bool) (n : Nat) H', H D = none → Same H H' → H' D = some (SetO w D S n) → n ≤ 26 → (∀ k, S k = true ↔ ∃ x ∈ iv ns, k = (match x with | .int i => (i.natAbs : Int) | _ => 0)) →
        rSortedSet w [.ref D] H' fun x H2 => ∃ p ys, [x] = [V.ref p] ∧ ((SqL K H2 p ys ∧ ∀ l, H2 l = none → Q (.ref l) (L2.upd H2 l (.tup ys))) ∨ (SqT K H2 p ys ∧ Q (.ref p) H2)) := by
      intro D S n H' hD sm hS hn hm
      refine ⟨D, S, n, rfl, hS, by omega, fun ks p up mem _ hp => ?_⟩
      refine ⟨p, _, rfl, .inl ⟨SqL.of upd_same, fun l hl => ?_⟩⟩
      refine k ks ⟨up, fun j => ?_⟩ l _ ((sm.trans (same_upd hp)).trans (same_upd hl)) (SqT.of upd_same)
      rw [mem, hm]
      constructor
      · rintro ⟨x, hx, e⟩
        obtain ⟨i, hi, rfl⟩ := List.mem_map.mp hx
        exact ⟨i, hi, e⟩
      · rintro ⟨i, hi, e⟩
        exact ⟨_, List.mem_map_of_mem hi, e⟩
    have turn : ∀ x, x ∈ iv ns → ∀ H2, Same H H2 → ∀ (Qy : V → Hp → Prop) (Qn : Hp → Prop), Qy (.int (match x with | .int i => (i.natAbs : Int) | _ => 0)) H2 →
        gName 1 x (wipe [some (.ref a), none] [1]) H2 fun σ2 H2 => wipe σ2 [1] = wipe [some (.ref a), none] [1] ∧ tYes σ2 H2 fun b H3 => if b = true then tCB (fun xs H Q => ∃ i, xs = [.int i] ∧ Q (.int (if i < 0 then -i else i)) H) (tCons (tVar 1) tNil) σ2 H3 Qy else Qn H3 := by
      intro x hx H2 s2 Qy Qn ky
      obtain ⟨i, hi, rfl⟩ := List.mem_map.mp hx
      refine ⟨rfl, yes_te ⟨_, rfl, i, rfl, ?_⟩⟩
      have e : (if i < 0 then -i else i) = (i.natAbs : Int) := by split <;> omega
      rw [e]
      exact ky
    have bd : ∀ x ∈ iv ns, 1 ≤ (match x with | .int i => (i.natAbs : Int) | _ => 0) ∧ (match x with | .int i => (i.natAbs : Int) | _ => 0) ≤ 26 := by
      intro x hx
      obtain ⟨i, hi, rfl⟩ := List.mem_map.mp hx
      have := hk i hi
      show 1 ≤ (i.natAbs : Int) ∧ (i.natAbs : Int) ≤ 26
      omega
    rcases hS with hS | hS
    · refine ⟨_, pss_one (ps_ret (pe_callTy call_tuple_of (by rfl) T.tuple (by decide +kernel) (pa_cons (pe_callB (cr_sortedSet rfl) (by rfl) T2.sorted (by decide +kernel) (pa_cons (pe_setI (own := [("letter", 1)]) (g := gName 1) (tt := tYes) rfl scKinds.nd (pi_list (pv 0))
        (blkOk_by (N := ["letters", "letter"]) (sc := defScope sKinds) (by decide +kernel)) (fun _ _ _ _ _ => pg_name (i := 1) scKinds.nd rfl (Or.inl rfl)) (fun _ _ _ _ _ => pts_nil)
        (fun _ _ _ _ _ => pe_callB call_abs (by rfl) T2.abs (by decide +kernel) (pa_cons (pv 1) pa_nil))) pa_nil)) pa_nil))), ?_⟩
      refine ⟨_, rfl, a, rfl, ⟨_, hS⟩, ?_⟩
      exact sci (walk_list (xs := iv ns)) _ bd (fun H2 s2 => s2.seq hS) turn fin
    · refine ⟨_, pss_one (ps_ret (pe_callTy call_tuple_of (by rfl) T.tuple (by decide +kernel) (pa_cons (pe_callB (cr_sortedSet rfl) (by rfl) T2.sorted (by decide +kernel) (pa_cons (pe_setI (own := [("letter", 1)]) (g := gName 1) (tt := tYes) rfl scKinds.nd (pi_tup (pv 0))
        (blkOk_by (N := ["letters", "letter"]) (sc := defScope sKinds) (by decide +kernel)) (fun _ _ _ _ _ => pg_name (i := 1) scKinds.nd rfl (Or.inl rfl)) (fun _ _ _ _ _ => pts_nil)
        (fun _ _ _ _ _ => pe_callB call_abs (by rfl) T2.abs (by decide +kernel) (pa_cons (pv 1) pa_nil))) pa_nil)) pa_nil))), ?_⟩
      refine ⟨_, rfl, a, rfl, ⟨_, hS⟩, ?_⟩
      exact sci (walk_tup (xs := iv ns)) _ bd (fun H2 s2 => WR.Same.seqT s2 hS) turn fin
end
end W06
set_option Elab.async false
set_option linter.all false
set_option maxRecDepth 100000
set_option maxHeartbeats 2000000
namespace W06
open PySem L2 PySem.Spec PyProof.Rows WR
abbrev sIsInt : Stmt := top 17
abbrev sWithin : Stmt := top 18
abbrev sLetter : Stmt := top 19
abbrev sListed : Stmt := top 20
abbrev sNeedW : Stmt := top 30
abbrev sFew : Stmt := top 31
/-! ### values and their classes -/
inductive Typ (H : Hp) : V → String → Prop
  | int (i : Int) : Typ H (.int i) "int"
  | bl (b : Bool) : Typ H (.bl b) "bool"
  | str (z : Str) : Typ H (.str z) "str"
  | non : Typ H .non "NoneType"
  | lst {p : Addr} {xs : List V} (e : H p = some (.lst xs)) : Typ H (.ref p) "list"
  | tup {p : Addr} {xs : List V} (e : H p = some (.tup xs)) : Typ H (.ref p) "tuple"
  | dct {p : Addr} {kvs : List (Key × V)} (e : H p = some (.dK kvs)) : Typ H (.ref p) "dict"
def isI : V → Bool
  | .int _ => true
  | _ => false
def isB : V → Bool
  | .bl _ => true
  | _ => false
def isS : V → Bool
  | .str _ => true
  | _ => false
theorem Typ.same {H H' : Hp} {x : V} {t : String} (h : Typ H x t) (s : Same H H') : Typ H' x t := by
  cases h with
  | int i => exact .int i
  | bl b => exact .bl b
  | str z => exact .str z
  | non => exact .non
  | lst e => exact .lst (s _ _ e)
  | tup e => exact .tup (s _ _ e)
  | dct e => exact .dct (s _ _ e)
theorem Typ.ty {K : PySem.W.Frag} {H : Hp} {x : V} {t : String} (h : Typ H x t) : TyX K H x (.type t) := by
  cases h with
  | int i => exact .base (.int i)
  | bl b => exact .base (.bl b)
  | str z => exact .base (.str z)
  | non => exact .base .non
  | lst e => exact .base (.lst e)
  | tup e => exact .base (.tup e)
  | dct e => exact .base (.dK e)
theorem Typ.kInt {K : PySem.W.Frag} {H : Hp} {x : V} {t : String} (h : Typ H x t) : PySem.W.kitOne K (.type t) (.type "int") = some (isI x || isB x) := by
  cases h <;> first | exact kit_ty (show kitB _ _ = some true by decide +kernel) | exact kit_ty (show kitB _ _ = some false by decide +kernel)
theorem Typ.kBool {K : PySem.W.Frag} {H : Hp} {x : V} {t : String} (h : Typ H x t) : PySem.W.kitOne K (.type t) (.type "bool") = some (isB x) := by
  cases h <;> first | exact kit_ty (show kitB _ _ = some true by decide +kernel) | exact kit_ty (show kitB _ _ = some false by decide +kernel)
theorem Typ.kStr {K : PySem.W.Frag} {H : Hp} {x : V} {t : String} (h : Typ H x t) : PySem.W.kitOne K (.type t) (.type "str") = some (isS x) := by
  cases h <;> first | exact kit_ty (show kitB _ _ = some true by decide +kernel) | exact kit_ty (show kitB _ _ = some false by decide +kernel)
theorem Typ.kTup {K : PySem.W.Frag} {H : Hp} {x : V} {t : String} (h : Typ H x t) : PySem.W.kitOne K (.type t) (.type "tuple") = some (t == "tuple") := by
  cases h <;> first | exact kit_ty (show kitB _ _ = some true by decide +kernel) | exact kit_ty (show kitB _ _ = some false by decide +kernel)
theorem Typ.kList {K : PySem.W.Frag} {H : Hp} {x : V} {t : String} (h : Typ H x t) : PySem.W.kitOne K (.type t) (.type "list") = some (t == "list") := by
  cases h <;> first | exact kit_ty (show kitB _ _ = some true by decide +kernel) | exact kit_ty (show kitB _ _ = some false by decide +kernel)
theorem Typ.kSeq {K : PySem.W.Frag} {H : Hp} {x : V} {t : String} (h : Typ H x t) : PySem.W.kitAny K (.type t) [.type "list", .type "tuple"] = some (t == "list" || t == "tuple") := by
  refine kitAny_cons h.kList (fun e => ?_) (fun e => by rw [e]; rfl)
  refine kitAny_cons h.kTup (fun e2 => ?_) (fun e2 => by rw [e2]; simp)
  rw [kitAny_nil, e, e2]
  rfl

def spIsInt : Sp := fun vs H Q _ => ∃ (x : V) (t : String), vs = [x] ∧ Typ H x t ∧ Q (.bl (isI x)) H
structure TxI (mg : Str → Option Value) : Prop where
  isin : mg "isinstance" = none
  int : mg "int" = none
  bool : mg "bool" = none
  str : mg "str" = none
  list : mg "list" = none
  tuple : mg "tuple" = none
section
variable {P : Program} {w : World} {K : PySem.W.Frag} {mg : Str → Option Value} {base : Heap}
theorem scIsInt : FnScope ["value"] ["value"] (defScope sIsInt) := ⟨rfl, rfl, rfl, by decide +kernel, rfl, by decide +kernel, by decide +kernel⟩
theorem ok_isInt {f : Addr} {fd : FuncData} (F : Fun K "is_integer" "is_integer" sIsInt f fd) (T : TxI mg) : FnOk P w K mg base CX0 1 f fd ["value"] spIsInt := by
  refine F.ok scIsInt (fun vs H Q E h => ?_) (fun cdv A outer s H vs Q E hr h => ?_)
  · obtain ⟨x, t, rfl, _⟩ := h
    rfl
  · obtain ⟨x, t, rfl, ht, k⟩ := h
    refine ⟨_, pss_one (ps_ret (pe_and (pe_callB call_isi (by rfl) T.isin (by decide +kernel) (pa_cons (pv 0) (pa_cons (pe_bltn (v := .ty "int") (by rfl) T.int (by decide +kernel) rfl) pa_nil)))
      (pe_one (pe_not (pe_callB call_isi (by rfl) T.isin (by decide +kernel) (pa_cons (pv 0) (pa_cons (pe_bltn (v := .ty "bool") (by rfl) T.bool (by decide +kernel) rfl) pa_nil))))))), ?_⟩
    refine ⟨_, rfl, x, _, _, _, _, rfl, .ty _, ht.ty, ht.kInt, _, rfl, ?_⟩
    refine ite2 (fun hi => ?_) (fun hn => ?_)
    · refine ⟨_, rfl, x, _, _, _, _, rfl, .ty _, ht.ty, ht.kBool, _, rfl, ?_⟩
      have e : (!isB x) = isI x := by cases ht <;> first | rfl | exact absurd hi Bool.false_ne_true
      show Q (.bl (!isB x)) H
      rw [e]
      exact k
    · have e : isI x = false := by cases ht <;> first | rfl | exact absurd rfl hn
      show Q (.bl false) H
      rw [← e]
      exact k
end
def Bnd (v : V) : Prop := v = .non ∨ ∃ i, v = .int i
def geB (i : Int) : V → Bool
  | .int a => decide (a ≤ i)
  | _ => true
def leB (i : Int) : V → Bool
  | .int b => decide (i ≤ b)
  | _ => true
def within : V → V → V → Bool
  | .int i, l, m => geB i l && leB i m
  | _, _, _ => false
def spWithin : Sp := fun vs H Q _ => ∃ (x l m : V) (t : String), vs = [x, l, m] ∧ Typ H x t ∧ Bnd l ∧ Bnd m ∧ Q (.bl (within x l m)) H
def letterB : V → Bool
  | .int i => (decide (-26 ≤ i) && decide (i ≤ 26)) && !decide (i = 0)
  | _ => false
def spLetter : Sp := fun vs H Q _ => ∃ (x : V) (t : String), vs = [x] ∧ Typ H x t ∧ Q (.bl (letterB x)) H
def spListed : Sp := fun vs H Q _ => ∃ (x : V) (t : String), vs = [x] ∧ Typ H x t ∧ ∀ H', Same H H' → Q (.bl (t == "list" || t == "tuple")) H'
structure TxC (mg : Str → Option Value) : Prop where
  kind : ∃ t, mg "MOST_KIND" = some (.int 26 t)
  all : mg "all" = none
section
variable {P : Program} {w : World} {K : PySem.W.Frag} {mg : Str → Option Value} {base : Heap}
theorem scWithin : FnScope ["value", "least", "most"] ["value", "least", "most"] (defScope sWithin) := ⟨rfl, rfl, rfl, by decide +kernel, rfl, by decide +kernel, by decide +kernel⟩
theorem ok_within {f : Addr} {fd : FuncData} (F : Fun K "is_within" "is_within" sWithin f fd) (GI : Cal P w K mg base "is_integer" 1 ["value"] spIsInt) : FnOk P w K mg base CX0 2 f fd ["value", "least", "most"] spWithin := by
  refine F.ok scWithin (fun vs H Q E h => ?_) (fun cdv A outer s H vs Q E hr h => ?_)
  · obtain ⟨x, l, m, t, rfl, _⟩ := h
    rfl
  · obtain ⟨x, l, m, t, rfl, ht, hl, hm, k⟩ := h
    refine ⟨_, pss_cons (ps_if (pt_not (pt_val (pe_cal GI hr (by decide) (by rfl) (pa_cons (pv 0) pa_nil)))) (pss_one (ps_ret pe_bl)) pss_nil)
      (pss_one (ps_ret (pe_and (pe_or (pe_cmpR op_isN (pv 1) pe_non (nomark _)) (pe_one (pe_cmpR op_ge (pv 0) (pv 1) (nomark _)))) (pe_one (pe_or (pe_cmpR op_isN (pv 2) pe_non (nomark _)) (pe_one (pe_cmpR op_le (pv 0) (pv 2) (nomark _)))))))), ?_⟩
    refine ⟨_, rfl, x, t, rfl, ht, _, rfl, ?_⟩
    refine ite2 (fun hn => ?_) (fun hi => ?_)
    · have e : within x l m = false := by cases ht <;> first | rfl | exact absurd hn Bool.false_ne_true
      rw [e] at k
      exact k
    · obtain ⟨i, rfl⟩ : ∃ i, x = .int i := by cases ht <;> first | exact ⟨_, rfl⟩ | exact absurd rfl hi
      -- the second half, whatever the first one says
      have half : ∀ H1 : Hp, H1 = H → ∀ Q1 : VK, Q1 (.bl (leB i m)) H1 → tOrV (tOp (fun x y H Q => y = .non ∧ Q (.bl (decide (x = .non))) H) (tVar 2) (tC .non)) (tOp (rI0 fun i j => .bl (decide (i ≤ j))) (tVar 0) (tVar 2)) [some (.int i), some l, some m] H1 Q1 := by
        intro H1 _ Q1 q
        rcases hm with rfl | ⟨b, rfl⟩
        · exact ⟨_, rfl, rfl, _, rfl, iteT q⟩
        · exact ⟨_, rfl, rfl, _, rfl, iteF ⟨_, rfl, _, rfl, _, _, rfl, rfl, q⟩⟩
      rcases hl with rfl | ⟨a, rfl⟩
      · refine ⟨_, rfl, rfl, _, rfl, iteT ⟨_, rfl, iteT (half H rfl _ ?_)⟩⟩
        exact k
      · refine ⟨_, rfl, rfl, _, rfl, iteF ⟨_, rfl, _, rfl, _, _, rfl, rfl, _, rfl, ?_⟩⟩
        refine ite2 (fun hg => half H rfl _ ?_) (fun hg => ?_)
        · have e : within (.int i) (.int a) m = leB i m := by
            show (decide (a ≤ i) && leB i m) = leB i m
            rw [hg]
            rfl
          rw [e] at k
          exact k
        · have e : within (.int i) (.int a) m = false := by
            show (decide (a ≤ i) && leB i m) = false
            rw [Bool.eq_false_iff.mpr hg]
            rfl
          rw [e] at k
          exact k
theorem scLetter : FnScope ["value"] ["value"] (defScope sLetter) := ⟨rfl, rfl, rfl, by decide +kernel, rfl, by decide +kernel, by decide +kernel⟩
theorem ok_letter {f : Addr} {fd : FuncData} (F : Fun K "is_letter" "is_letter" sLetter f fd) (GW : Cal P w K mg base "is_within" 2 ["value", "least", "most"] spWithin) (T : TxC mg) : FnOk P w K mg base CX0 3 f fd ["value"] spLetter := by
  refine F.ok scLetter (fun vs H Q E h => ?_) (fun cdv A outer s H vs Q E hr h => ?_)
  · obtain ⟨x, t, rfl, _⟩ := h
    rfl
  · obtain ⟨x, t, rfl, ht, k⟩ := h
    obtain ⟨tk, mK⟩ := T.kind
    refine ⟨_, pss_one (ps_ret (pe_and (pe_cal GW hr (by decide) (by rfl) (pa_cons (pv 0) (pa_cons (pe_un un_neg (pe_glob (v := .int 26) (by rfl) mK ⟨_, rfl⟩)) (pa_cons (pe_glob (v := .int 26) (by rfl) mK ⟨_, rfl⟩) pa_nil)))) (pe_one (pe_cmpR op_ne (pv 0) pe_int (nomark _))))), ?_⟩
    refine ⟨_, rfl, _, rfl, x, _, _, t, rfl, ht, .inr ⟨_, rfl⟩, .inr ⟨_, rfl⟩, _, rfl, ?_⟩
    refine ite2 (fun hi => ?_) (fun hn => ?_)
    · obtain ⟨i, rfl⟩ : ∃ i, x = .int i := by cases ht <;> first | exact ⟨_, rfl⟩ | exact absurd hi Bool.false_ne_true
      refine ⟨_, rfl, rfl, ?_⟩
      have e : letterB (.int i) = !decide (V.int i = V.int 0) := by
        have h2 : (decide (-26 ≤ i) && decide (i ≤ 26)) = true := hi
        show ((decide (-26 ≤ i) && decide (i ≤ 26)) && !decide (i = 0)) = _
        rw [h2, Bool.true_and]
        congr 1
        by_cases h0 : i = 0
        · subst h0; rfl
        · rw [decide_eq_false h0, decide_eq_false (fun q => h0 (by injection q))]
      rw [e] at k
      exact k
    · have e : letterB x = false := by
        cases ht with
        | int i =>
          have h2 : (decide (-26 ≤ i) && decide (i ≤ 26)) = false := Bool.eq_false_iff.mpr hn
          show ((decide (-26 ≤ i) && decide (i ≤ 26)) && !decide (i = 0)) = false
          rw [h2]
          rfl
        | _ => rfl
      rw [e] at k
      exact k
theorem scListed : FnScope ["value"] ["value"] (defScope sListed) := ⟨rfl, rfl, rfl, by decide +kernel, rfl, by decide +kernel, by decide +kernel⟩
theorem ok_listed {f : Addr} {fd : FuncData} (F : Fun K "is_listed" "is_listed" sListed f fd) (T : TxI mg) : FnOk P w K mg base CX0 1 f fd ["value"] spListed := by
  refine F.ok scListed (fun vs H Q E h => ?_) (fun cdv A outer s H vs Q E hr h => ?_)
  · obtain ⟨x, t, rfl, _⟩ := h
    rfl
  · obtain ⟨x, t, rfl, ht, k⟩ := h
    refine ⟨_, pss_one (ps_ret (pe_callB call_isiT (by rfl) T.isin (by decide +kernel) (pa_cons (pv 0) (pa_cons (pe_tup (pa_cons (pe_bltn (v := .ty "list") (by rfl) T.list (by decide +kernel) rfl) (pa_cons (pe_bltn (v := .ty "tuple") (by rfl) T.tuple (by decide +kernel) rfl) pa_nil))) pa_nil)))), ?_⟩
    refine ⟨_, rfl, (by show 2 ≤ sizeLine; decide), fun p hp => ?_⟩
    have sm : Same H (upd H p (.tup [.ty "list", .ty "tuple"])) := fun b o e => by rw [upd_ne (ne_of_none e hp)]; exact e
    exact ⟨x, p, _, _, _, _, rfl, upd_same, .cons (.ty _) (.cons (.ty _) .nil), (ht.same sm).ty, (ht.same sm).kSeq, k _ sm⟩
end
end W06
set_option Elab.async false
set_option linter.all false
set_option maxRecDepth 100000
set_option maxHeartbeats 2000000
namespace W06
open PySem L2 PySem.Spec PyProof.Rows WR
abbrev sInit : Stmt := inClass (top 32) 0
theorem SqL.tyx {K : PySem.W.Frag} {H : Hp} {a : Addr} {xs : List V} (h : SqL K H a xs) : TyX K H (.ref a) (.type "list") := by
  rcases h with h | ⟨o, its, n, e, c, _⟩
  · rcases h with h | ⟨o, h⟩
    · exact .base (.lst h)
    · exact .base (.frz h)
  · exact .kList e c
theorem SqT.tyx {K : PySem.W.Frag} {H : Hp} {a : Addr} {xs : List V} (h : SqT K H a xs) : TyX K H (.ref a) (.type "tuple") := by
  rcases h with h | ⟨o, its, n, e, c, _⟩
  · rcases h with h | ⟨o, h⟩
    · exact .base (.tup h)
    · exact .fTuple h
  · exact .kTuple e c
def spListE (K : PySem.W.Frag) : Sp := fun vs H Q _ => ∃ (a : Addr) (xs : List V), vs = [.ref a] ∧ SqE K H a xs ∧ ∀ H', Same H H' → Q (.bl true) H'
def spFew : Sp := fun vs H Q _ => ∃ n : Int, vs = [.int n] ∧ n ≤ 500 ∧ Q .non H
structure TxW (K : PySem.W.Frag) (mg : Str → Option Value) (C : Addr) : Prop where
  cl : Cls K C
  nL : NoAttr K C "letters"
  nN : NoAttr K C "length"
  nK : NoAttr K C "kinds"
  nS : NoAttr K C "is_short"
  nR : NoAttr K C "is_short_round"
  ca : PySem.W.findIn K (.ref C) "__class__" = some (some (.builtin "object.__class__"))
  cn : PySem.W.specialIn K (.builtin "object.__class__") "__get__" = some (some (.builtin "getset_descriptor.__get__"))
  ct : PySem.W.takesIn K (.builtin "object.__class__") = some true
  cm : PySem.W.mroIn K C (.type "object") = some true
  mgW : mg "Word" = some (.ref C)
  most : ∃ t, mg "MOST_LETTERS" = some (.int 500 t)
  isin : mg "isinstance" = none
  all : mg "all" = none
/-! ### a word -/
def wf (tl : Addr) (n : Nat) (tk : Addr) (b1 b2 : Bool) : List (Str × V) := [("letters", .ref tl), ("length", .int (n : Int)), ("kinds", .ref tk), ("is_short", .bl b1), ("is_short_round", .bl b2)]
theorem ne1 : ¬ (("letters" : Str) = "length") := by decide +kernel
theorem ne2 : ¬ (("letters" : Str) = "kinds") := by decide +kernel
theorem ne3 : ¬ (("letters" : Str) = "is_short") := by decide +kernel
theorem ne4 : ¬ (("letters" : Str) = "is_short_round") := by decide +kernel
theorem ne5 : ¬ (("length" : Str) = "kinds") := by decide +kernel
theorem ne6 : ¬ (("length" : Str) = "is_short") := by decide +kernel
theorem ne7 : ¬ (("length" : Str) = "is_short_round") := by decide +kernel
theorem ne8 : ¬ (("kinds" : Str) = "is_short") := by decide +kernel
theorem ne9 : ¬ (("kinds" : Str) = "is_short_round") := by decide +kernel
theorem ne10 : ¬ (("is_short" : Str) = "is_short_round") := by decide +kernel
theorem lk_eq {k : Str} {v : V} {t : List (Str × V)} : List.lookup k ((k, v) :: t) = some v := by
  rw [List.lookup_cons, beq_self_eq_true k]
theorem lk_ne {k g : Str} {v : V} {t : List (Str × V)} (h : ¬ k = g) : List.lookup k ((g, v) :: t) = List.lookup k t := by
  rw [List.lookup_cons, show (k == g) = false from beq_eq_false_iff_ne.mpr h]
theorem pf_ne {k g : Str} {v x : V} {t : List (Str × V)} (h : ¬ g = k) : putF k v ((g, x) :: t) = (g, x) :: putF k v t := by
  show (if g = k then _ else _) = _
  rw [if_neg h]
theorem wf_letters {tl tk n b1 b2} : (wf tl n tk b1 b2).lookup ("letters" : Str) = some (.ref tl) := lk_eq
theorem wf_length {tl tk n b1 b2} : (wf tl n tk b1 b2).lookup ("length" : Str) = some (.int (n : Int)) := by
  unfold wf
  rw [lk_ne fun e => ne1 e.symm, lk_eq]
theorem wf_kinds {tl tk n b1 b2} : (wf tl n tk b1 b2).lookup ("kinds" : Str) = some (.ref tk) := by
  unfold wf
  rw [lk_ne fun e => ne2 e.symm, lk_ne fun e => ne5 e.symm, lk_eq]
theorem wf_short {tl tk n b1 b2} : (wf tl n tk b1 b2).lookup ("is_short" : Str) = some (.bl b1) := by
  unfold wf
  rw [lk_ne fun e => ne3 e.symm, lk_ne fun e => ne6 e.symm, lk_ne fun e => ne8 e.symm, lk_eq]
theorem wf_round {tl tk n b1 b2} : (wf tl n tk b1 b2).lookup ("is_short_round" : Str) = some (.bl b2) := by
  unfold wf
  rw [lk_ne fun e => ne4 e.symm, lk_ne fun e => ne7 e.symm, lk_ne fun e => ne9 e.symm, lk_ne fun e => ne10 e.symm, lk_eq]
theorem wf_no {tl tk n b1 b2} {m : Str} (h1 : ¬ m = "letters") (h2 : ¬ m = "length") (h3 : ¬ m = "kinds") (h4 : ¬ m = "is_short") (h5 : ¬ m = "is_short_round") : (wf tl n tk b1 b2).lookup m = none := by
  unfold wf
  rw [lk_ne h1, lk_ne h2, lk_ne h3, lk_ne h4, lk_ne h5]
  rfl
def WordAt (K : PySem.W.Frag) (C : Addr) (H : Hp) (p : Addr) (ns : List Int) : Prop :=
  ∃ (dx tl tk : Addr) (ks : List Int), H p = some (.ins C dx (wf tl ns.length tk (decide (Fr.shr ns = ns)) (decide (Fr.rnd ns = ns)))) ∧ SqT K H tl (iv ns) ∧ SqT K H tk (iv ks) ∧ kindsOk ns ks
theorem WordAt.same {K : PySem.W.Frag} {C : Addr} {H H' : Hp} {p : Addr} {ns : List Int} (h : WordAt K C H p ns) (s : Same H H') : WordAt K C H' p ns := by
  obtain ⟨dx, tl, tk, ks, h1, h2, h3, h4⟩ := h
  exact ⟨dx, tl, tk, ks, s _ _ h1, WR.Same.seqT s h2, WR.Same.seqT s h3, h4⟩
theorem Lts.nz {ns : List Int} (h : Lts ns) : Fr.NZ ns := fun a ha => by
  have := h a ha
  omega
def spInit (K : PySem.W.Frag) (C : Addr) : Sp := fun vs H Q _ => ∃ (H0 : Hp) (p dx a : Addr) (ns : List Int), vs = [.ref p, .ref a] ∧ Same H0 H ∧ H0 p = none ∧ H p = some (.ins C dx []) ∧ SqE K H0 a (iv ns) ∧ ns.length ≤ 500 ∧ Lts ns ∧
  ∀ H', Same H0 H' → WordAt K C H' p ns → Q .non H'
/-! ### tuples of ints held against one another -/
theorem dp_iv {K : PySem.W.Frag} {H : Hp} : ∀ ns : List Int, DpAll K H (iv ns) (ns.map PyData.int)
  | [] => .nil
  | n :: r => .cons (.int n) (dp_iv r)
theorem eqvAll_ints : ∀ ns ms : List Int, PyData.eqvAll (ns.map PyData.int) (ms.map PyData.int) = decide (ns = ms)
  | [], [] => rfl
  | [], b :: r => rfl
  | a :: r, [] => rfl
  | a :: r, b :: q => by
    have ih := eqvAll_ints r q
    show (PyData.eqv (.int a) (.int b) && PyData.eqvAll (r.map PyData.int) (q.map PyData.int)) = _
    rw [ih]
    have : PyData.eqv (.int a) (.int b) = decide (a = b) := by
      simp only [PyData.eqv]
      exact Bool.eq_iff_iff.mpr (by simp)
    rw [this]
    by_cases e1 : a = b <;> by_cases e2 : r = q <;> simp [e1, e2]
theorem eqv_ints (ns ms : List Int) : PyData.eqv (.tuple (ns.map .int)) (.tuple (ms.map .int)) = decide (ns = ms) := by
  show PyData.eqvAll _ _ = _
  exact eqvAll_ints ns ms
theorem lay_ints : ∀ ns : List Int, PyData.canLayAll0 (ns.map PyData.int) = true ∧ PyData.depthAll (ns.map PyData.int) = 0
  | [] => ⟨rfl, rfl⟩
  | n :: r => by
    obtain ⟨h1, h2⟩ := lay_ints r
    exact ⟨by simp [PyData.canLayAll0, PyData.canLay0, h1], by simp [PyData.depthAll, PyData.depth, h2]⟩
theorem shaped_ints (ns : List Int) : SeqAt.shaped (.tuple (ns.map .int)) = true := by
  obtain ⟨h1, h2⟩ := lay_ints ns
  simp [SeqAt.shaped, PyData.canLay0, PyData.depth, h1, h2]
section
variable {P : Program} {w : World} {K : PySem.W.Frag} {mg : Str → Option Value} {base : Heap}
theorem ok_listE {f : Addr} {fd : FuncData} (F : Fun K "is_listed" "is_listed" sListed f fd) (T : TxI mg) : FnOk P w K mg base CX0 1 f fd ["value"] (spListE K) := by
  refine F.ok scListed (fun vs H Q E h => ?_) (fun cdv A outer s H vs Q E hr h => ?_)
  · obtain ⟨a, xs, rfl, _⟩ := h
    rfl
  · obtain ⟨a, xs, rfl, hS, k⟩ := h
    refine ⟨_, pss_one (ps_ret (pe_callB call_isiT (by rfl) T.isin (by decide +kernel) (pa_cons (pv 0) (pa_cons (pe_tup (pa_cons (pe_bltn (v := .ty "list") (by rfl) T.list (by decide +kernel) rfl) (pa_cons (pe_bltn (v := .ty "tuple") (by rfl) T.tuple (by decide +kernel) rfl) pa_nil))) pa_nil)))), ?_⟩
    refine ⟨_, rfl, (by show 2 ≤ sizeLine; decide), fun p hp => ?_⟩
    have sm : Same H (upd H p (.tup [.ty "list", .ty "tuple"])) := same_upd hp
    rcases hS.same sm with hS | hS
    · exact ⟨_, p, _, _, _, _, rfl, upd_same, .cons (.ty _) (.cons (.ty _) .nil), SqL.tyx hS, (by rfl), k _ sm⟩
    · exact ⟨_, p, _, _, _, _, rfl, upd_same, .cons (.ty _) (.cons (.ty _) .nil), SqT.tyx hS, (Typ.tup (H := fun _ => some (.tup [])) (p := a) (xs := []) rfl).kSeq, k _ sm⟩
theorem scFew : FnScope ["many"] ["many"] (defScope sFew) := ⟨rfl, rfl, rfl, by decide +kernel, rfl, by decide +kernel, by decide +kernel⟩
theorem ok_few {C : Addr} {f : Addr} {fd : FuncData} (F : Fun K "need_few_letters" "need_few_letters" sFew f fd) (T : TxW K mg C) : FnOk P w K mg base CX0 1 f fd ["many"] spFew := by
  refine F.ok scFew (fun vs H Q E h => ?_) (fun cdv A outer s H vs Q E hr h => ?_)
  · obtain ⟨n, rfl, _⟩ := h
    rfl
  · obtain ⟨n, rfl, hn, k⟩ := h
    obtain ⟨tk, mM⟩ := T.most
    refine ⟨_, pss_one (ps_if (pt_cmpR op_gt (pv 0) (pe_glob (v := .int 500) (by rfl) mM ⟨_, rfl⟩) (nomark _)) (pss_one ps_never) pss_nil), ?_⟩
    refine ⟨_, rfl, _, _, rfl, rfl, _, rfl, ?_⟩
    exact iteF' (decide_eq_false (by omega)) k
end
end W06
set_option Elab.async false
set_option linter.all false
set_option maxRecDepth 100000
set_option maxHeartbeats 2000000
namespace W06
open PySem L2 PySem.Spec PyProof.Rows WR
theorem SqT.put {K : PySem.W.Frag} {H : Hp} {a p C dx : Addr} {fs : List (Str × V)} {o : HO} {xs : List V} (h : SqT K H a xs) (hp : H p = some (.ins C dx fs)) : SqT K (L2.upd H p o) a xs := by
  rcases h with h | h
  · left
    have ne : ∀ u, H a = some u → (∀ C dx fs, u ≠ .ins C dx fs) → a ≠ p := fun u e q z => by
      rw [z, hp] at e
      exact q _ _ _ (Option.some.inj e).symm
    rcases h with h | ⟨o', h⟩
    · exact .inl (by rw [upd_ne (ne _ h fun _ _ _ => by intro z; cases z)]; exact h)
    · exact .inr ⟨o', by rw [upd_ne (ne _ h fun _ _ _ => by intro z; cases z)]; exact h⟩
  · exact .inr h
theorem same_put {H0 H : Hp} {p : Addr} {o : HO} (s : Same H0 H) (hp : H0 p = none) : Same H0 (L2.upd H p o) := fun b u e => by
  have : b ≠ p := fun z => by rw [z, hp] at e; cases e
  rw [upd_ne this]
  exact s _ _ e
theorem letter_ok {i : Int} (h : 1 ≤ i.natAbs ∧ i.natAbs ≤ 26) : letterB (.int i) = true := by
  show ((decide (-26 ≤ i) && decide (i ≤ 26)) && !decide (i = 0)) = true
  rw [decide_eq_true (by omega), decide_eq_true (by omega), decide_eq_false (by omega)]
  rfl
theorem all_ok {ns : List Int} (h : Lts ns) : ((ns.map fun i => letterB (.int i)).all id) = true := by
  rw [List.all_eq_true]
  intro b hb
  obtain ⟨i, hi, rfl⟩ := List.mem_map.mp hb
  exact letter_ok (h i hi)
theorem bl_of {b c : Bool} (h : b = c) : V.bl b = V.bl c := by rw [h]
theorem kindsOk_ex (ns : List Int) : True := trivial
theorem not_lc {r : List V → Hp → VK → Prop} {wi : TI} {g : TG} {tt : TT} {te : TE} {vs : List Nat} {σ : L2.St} {H : Hp} {Q : Bool → Hp → Prop}
    (h : wi σ H fun J H1 => tLc (fun _ H R => R J H) g tt te vs σ H1 fun x H2 => r [x] H2 fun v H3 => ∃ c, v = .bl c ∧ Q (!c) H3) :
    tNot (fun σ H Q => tCB r (tCons (tLc wi g tt te vs) tNil) σ H fun x H1 => ∃ c, x = .bl c ∧ Q c H1) σ H Q := h
abbrev nInit : List Str := ["self", "letters", "letter"]
section
variable {P : Program} {w : World} {K : PySem.W.Frag} {mg : Str → Option Value} {base : Heap}
theorem scInit : FnScope nInit ["self", "letters"] (defScope sInit) := ⟨rfl, rfl, rfl, by decide +kernel, rfl, by decide +kernel, by decide +kernel⟩
theorem ok_init {C f : Addr} {fd : FuncData} (F : Fun K "__init__" "Word.__init__" sInit f fd) (T : TxW K mg C) (TA : TxA mg) (GL : Cal P w K mg base "is_listed" 1 ["value"] (spListE K)) (GX : Cal P w K mg base "is_letter" 3 ["value"] spLetter)
    (GF : Cal P w K mg base "need_few_letters" 1 ["many"] spFew) (GK : Cal P w K mg base "kinds_of" 1 ["letters"] (spKinds K)) (GS : Cal P w K mg base "shortened_letters" 1 ["letters"] (spShr K)) (GR : Cal P w K mg base "rounded_letters" 2 ["letters"] (spRnd K)) :
    FnOk P w K mg base CX0 4 f fd ["self", "letters"] (spInit K C) := by
  refine F.ok scInit (fun vs H Q E h => ?_) (fun cdv A outer s H vs Q E hr h => ?_)
  · obtain ⟨H0, p, dx, a, ns, rfl, _⟩ := h
    rfl
  · obtain ⟨H0, p, dx, a, ns, rfl, s0, p0, hp, hS, hlen, hl, k⟩ := h
    rcases hS with hS | hS
    · refine ⟨_, pss_cons (ps_if (PW.pt (pw_or (pt_not (pt_val (pe_cal GL hr (by decide) (by rfl) (pa_cons (pv 1) pa_nil)))) (pw_or1 (pt_not (pt_val (pe_callB (cr_all rfl) (by rfl) T.all (by decide +kernel) (pa_cons (pe_lc (own := [("letter", 2)]) (g := gName 2) (tt := tYes) rfl scInit.nd (pi_list (pv 1))
          (blkOk_by (N := nInit) (sc := defScope sInit) (by decide +kernel)) (fun _ _ _ _ _ => pg_name (i := 2) scInit.nd rfl (Or.inl rfl)) (fun _ _ _ _ _ => pts_nil)
          (fun _ _ _ _ _ => pe_cal GX hr (by decide) (by rfl) (pa_cons (pv 2) pa_nil))) pa_nil))))))) (pss_one ps_never) pss_nil)
        (pss_cons (ps_expr (pe_cal GF hr (by decide) (by rfl) (pa_cons (pe_callB call_len_seq (by rfl) TA.len PySem.boot_len (pa_cons (pv 1) pa_nil)) pa_nil)))
        (pss_cons (ps_fld (pv 0) (pe_callTy call_tuple_of (by rfl) TA.tuple (by decide +kernel) (pa_cons (pv 1) pa_nil)) rfl)
        (pss_cons (ps_fld (pv 0) (pe_callB call_len_seq (by rfl) TA.len PySem.boot_len (pa_cons (pv 1) pa_nil)) rfl)
        (pss_cons (ps_fld (pv 0) (pe_cal GK hr (by decide) (by rfl) (pa_cons (pv 1) pa_nil)) rfl)
        (pss_cons (ps_fld (pv 0) (pe_cmpR (op_eqD hr.units) (pe_cal GS hr (by decide) (by rfl) (pa_cons (pv 1) pa_nil)) (pe_fld (pv 0) rfl) (nomark _)) rfl)
        (pss_one (ps_fld (pv 0) (pe_cmpR (op_eqD hr.units) (pe_cal GR hr (by decide) (by rfl) (pa_cons (pv 1) pa_nil)) (pe_fld (pv 0) rfl) (nomark _)) rfl))))))), ?_⟩
      have E0 : SqE K H0 a (iv ns) := .inl hS
      refine ⟨_, rfl, a, _, rfl, E0.same s0, fun H1 s1 => ⟨_, rfl, ?_⟩⟩
      have s01 := s0.trans s1
      refine iteF ?_
      refine not_lc ?_
      refine ⟨_, rfl, a, rfl, ⟨_, (s01.seq hS)⟩, ?_⟩
      refine lcp (walk_list (xs := iv ns)) (fun _ => true) (fun x => .bl (letterB x)) (by simp; omega) (fun H2 s2 => (s01.trans s2).seq hS) ?_ ?_
      · intro x hx H2 s2 Qy Qn ky kn
        obtain ⟨i, hi, rfl⟩ := List.mem_map.mp hx
        exact ⟨rfl, yes_te ⟨_, rfl, .int i, _, rfl, .int i, ky rfl H2 (fun _ _ e => e)⟩⟩
      intro D H2 hD s2 h2
      have s02 := s01.trans s2
      refine ⟨D, ns.map fun i => letterB (.int i), rfl, SqL.of (by
        rw [h2, List.filter_eq_self.mpr (fun _ _ => rfl), List.map_map, List.map_map]
        rfl), ?_⟩
      rw [all_ok hl]
      refine ⟨_, rfl, iteF ?_⟩
      -- not too many
      refine ⟨_, rfl, a, _, rfl, E0.same s02, ((iv ns).length : Int), rfl, by rw [List.length_map]; omega, ?_⟩
      have hp2 : H2 p = some (.ins C dx []) := s2 _ _ (s1 _ _ hp)
      -- its letters
      refine ⟨_, rfl, a, _, rfl, .inl ⟨s02.seq hS, fun tl htl => ?_⟩⟩
      have s3 := s02.trans (same_upd (o := .tup (iv ns)) htl)
      have hp3 : L2.upd H2 tl (.tup (iv ns)) p = some (.ins C dx []) := by rw [upd_ne (ne_of_none hp2 htl)]; exact hp2
      have t3 : SqT K (L2.upd H2 tl (.tup (iv ns))) tl (iv ns) := SqT.of upd_same
      refine gen_heap fun H3 e3 => ?_
      rw [← e3] at s3 hp3 t3
      refine ⟨_, rfl, p, C, dx, _, rfl, hp3, T.cl, T.nL, (by show 0 < 1000; decide), ?_⟩
      have hp4 : L2.upd H3 p (.ins C dx (putF "letters" (.ref tl) [])) p = some (.ins C dx [("letters", .ref tl)]) := by rw [upd_same]; rfl
      have s4 := same_put (o := .ins C dx (putF "letters" (.ref tl) [])) s3 p0
      have t4 := SqT.put (o := .ins C dx (putF "letters" (.ref tl) [])) t3 hp3
      refine gen_heap fun H4 e4 => ?_
      rw [← e4] at hp4 s4 t4
      -- how many
      refine ⟨_, rfl, a, _, rfl, E0.same s4, _, rfl, p, C, dx, _, rfl, hp4, T.cl, T.nN, (by show 1 < 1000; decide), ?_⟩
      have hp5 : L2.upd H4 p (.ins C dx (putF "length" (.int ((iv ns).length : Nat)) [("letters", .ref tl)])) p = some (.ins C dx [("letters", .ref tl), ("length", .int (ns.length : Nat))]) := by
        rw [upd_same, pf_ne ne1, List.length_map]
        rfl
      have s5 := same_put (o := .ins C dx (putF "length" (.int ((iv ns).length : Nat)) [("letters", .ref tl)])) s4 p0
      have t5 := SqT.put (o := .ins C dx (putF "length" (.int ((iv ns).length : Nat)) [("letters", .ref tl)])) t4 hp4
      refine gen_heap fun H5 e5 => ?_
      rw [← e5] at hp5 s5 t5
      -- its kinds
      refine ⟨_, rfl, a, ns, rfl, E0.same s5, by omega, hl, fun ks hk tk H6 s6 tk6 => ?_⟩
      have hp6 := s6 _ _ hp5
      have s06 := s5.trans s6
      have t6 := WR.Same.seqT s6 t5
      refine ⟨_, rfl, p, C, dx, _, rfl, hp6, T.cl, T.nK, (by show 2 < 1000; decide), ?_⟩
      have hp7 : L2.upd H6 p (.ins C dx (putF "kinds" (.ref tk) [("letters", .ref tl), ("length", .int (ns.length : Nat))])) p = some (.ins C dx [("letters", .ref tl), ("length", .int (ns.length : Nat)), ("kinds", .ref tk)]) := by
        rw [upd_same, pf_ne ne2, pf_ne ne5]
        rfl
      have s7 := same_put (o := .ins C dx (putF "kinds" (.ref tk) [("letters", .ref tl), ("length", .int (ns.length : Nat))])) s06 p0
      have t7 := SqT.put (o := .ins C dx (putF "kinds" (.ref tk) [("letters", .ref tl), ("length", .int (ns.length : Nat))])) t6 hp6
      have k7 := SqT.put (o := .ins C dx (putF "kinds" (.ref tk) [("letters", .ref tl), ("length", .int (ns.length : Nat))])) tk6 hp6
      refine gen_heap fun H7 e7 => ?_
      rw [← e7] at hp7 s7 t7 k7
      -- short
      refine ⟨_, rfl, a, ns, rfl, E0.same s7, by omega, fun q H8 s8 q8 => ?_⟩
      have hp8 := s8 _ _ hp7
      have s08 := s7.trans s8
      have t8 := WR.Same.seqT s8 t7
      have k8 := WR.Same.seqT s8 k7
      refine ⟨_, rfl, p, C, dx, _, _, rfl, hp8, T.cl, T.nL, lk_eq, ?_⟩
      refine ⟨_, _, .tup q8 (dp_iv _), .tup t8 (dp_iv _), shaped_ints _, shaped_ints _, ?_⟩
      rw [eqv_ints]
      refine ⟨_, rfl, p, C, dx, _, rfl, hp8, T.cl, T.nS, (by show 3 < 1000; decide), ?_⟩
      have hp9 : L2.upd H8 p (.ins C dx (putF "is_short" (.bl (decide (Fr.shr ns = ns))) [("letters", .ref tl), ("length", .int (ns.length : Nat)), ("kinds", .ref tk)])) p = some (.ins C dx [("letters", .ref tl), ("length", .int (ns.length : Nat)), ("kinds", .ref tk), ("is_short", .bl (decide (Fr.shr ns = ns)))]) := by
        rw [upd_same, pf_ne ne3, pf_ne ne6, pf_ne ne8]
        rfl
      have s9 := same_put (o := .ins C dx (putF "is_short" (.bl (decide (Fr.shr ns = ns))) [("letters", .ref tl), ("length", .int (ns.length : Nat)), ("kinds", .ref tk)])) s08 p0
      have t9 := SqT.put (o := .ins C dx (putF "is_short" (.bl (decide (Fr.shr ns = ns))) [("letters", .ref tl), ("length", .int (ns.length : Nat)), ("kinds", .ref tk)])) t8 hp8
      have k9 := SqT.put (o := .ins C dx (putF "is_short" (.bl (decide (Fr.shr ns = ns))) [("letters", .ref tl), ("length", .int (ns.length : Nat)), ("kinds", .ref tk)])) k8 hp8
      refine gen_heap fun H9 e9 => ?_
      rw [← e9] at hp9 s9 t9 k9
      -- short round
      refine ⟨_, rfl, a, ns, rfl, E0.same s9, by omega, hl.nz, fun q2 Ha sa qa => ?_⟩
      have hpa := sa _ _ hp9
      have s0a := s9.trans sa
      have ta := WR.Same.seqT sa t9
      have ka := WR.Same.seqT sa k9
      refine ⟨_, rfl, p, C, dx, _, _, rfl, hpa, T.cl, T.nL, lk_eq, ?_⟩
      refine ⟨_, _, .tup qa (dp_iv _), .tup ta (dp_iv _), shaped_ints _, shaped_ints _, ?_⟩
      rw [eqv_ints]
      refine ⟨_, rfl, p, C, dx, _, rfl, hpa, T.cl, T.nR, (by show 4 < 1000; decide), ?_⟩
      refine k _ (same_put s0a p0) ⟨dx, tl, tk, ks, ?_, SqT.put ta hpa, SqT.put ka hpa, hk⟩
      rw [upd_same, pf_ne ne4, pf_ne ne7, pf_ne ne9, pf_ne ne10]
      rfl
    · refine ⟨_, pss_cons (ps_if (PW.pt (pw_or (pt_not (pt_val (pe_cal GL hr (by decide) (by rfl) (pa_cons (pv 1) pa_nil)))) (pw_or1 (pt_not (pt_val (pe_callB (cr_all rfl) (by rfl) T.all (by decide +kernel) (pa_cons (pe_lc (own := [("letter", 2)]) (g := gName 2) (tt := tYes) rfl scInit.nd (pi_tup (pv 1))
          (blkOk_by (N := nInit) (sc := defScope sInit) (by decide +kernel)) (fun _ _ _ _ _ => pg_name (i := 2) scInit.nd rfl (Or.inl rfl)) (fun _ _ _ _ _ => pts_nil)
          (fun _ _ _ _ _ => pe_cal GX hr (by decide) (by rfl) (pa_cons (pv 2) pa_nil))) pa_nil))))))) (pss_one ps_never) pss_nil)
        (pss_cons (ps_expr (pe_cal GF hr (by decide) (by rfl) (pa_cons (pe_callB call_len_seq (by rfl) TA.len PySem.boot_len (pa_cons (pv 1) pa_nil)) pa_nil)))
        (pss_cons (ps_fld (pv 0) (pe_callTy call_tuple_of (by rfl) TA.tuple (by decide +kernel) (pa_cons (pv 1) pa_nil)) rfl)
        (pss_cons (ps_fld (pv 0) (pe_callB call_len_seq (by rfl) TA.len PySem.boot_len (pa_cons (pv 1) pa_nil)) rfl)
        (pss_cons (ps_fld (pv 0) (pe_cal GK hr (by decide) (by rfl) (pa_cons (pv 1) pa_nil)) rfl)
        (pss_cons (ps_fld (pv 0) (pe_cmpR (op_eqD hr.units) (pe_cal GS hr (by decide) (by rfl) (pa_cons (pv 1) pa_nil)) (pe_fld (pv 0) rfl) (nomark _)) rfl)
        (pss_one (ps_fld (pv 0) (pe_cmpR (op_eqD hr.units) (pe_cal GR hr (by decide) (by rfl) (pa_cons (pv 1) pa_nil)) (pe_fld (pv 0) rfl) (nomark _)) rfl))))))), ?_⟩
      have E0 : SqE K H0 a (iv ns) := .inr hS
      refine ⟨_, rfl, a, _, rfl, E0.same s0, fun H1 s1 => ⟨_, rfl, ?_⟩⟩
      have s01 := s0.trans s1
      refine iteF ?_
      refine not_lc ?_
      refine ⟨_, rfl, a, rfl, ⟨_, (WR.Same.seqT s01 hS)⟩, ?_⟩
      refine lcp (walk_tup (xs := iv ns)) (fun _ => true) (fun x => .bl (letterB x)) (by simp; omega) (fun H2 s2 => WR.Same.seqT (s01.trans s2) hS) ?_ ?_
      · intro x hx H2 s2 Qy Qn ky kn
        obtain ⟨i, hi, rfl⟩ := List.mem_map.mp hx
        exact ⟨rfl, yes_te ⟨_, rfl, .int i, _, rfl, .int i, ky rfl H2 (fun _ _ e => e)⟩⟩
      intro D H2 hD s2 h2
      have s02 := s01.trans s2
      refine ⟨D, ns.map fun i => letterB (.int i), rfl, SqL.of (by
        rw [h2, List.filter_eq_self.mpr (fun _ _ => rfl), List.map_map, List.map_map]
        rfl), ?_⟩
      rw [all_ok hl]
      refine ⟨_, rfl, iteF ?_⟩
      -- not too many
      refine ⟨_, rfl, a, _, rfl, E0.same s02, ((iv ns).length : Int), rfl, by rw [List.length_map]; omega, ?_⟩
      have hp2 : H2 p = some (.ins C dx []) := s2 _ _ (s1 _ _ hp)
      -- its letters
      refine ⟨_, rfl, a, _, rfl, .inr ⟨WR.Same.seqT s02 hS, ?_⟩⟩
      have s3 := s02
      have hp3 := hp2
      have t3 : SqT K H2 a (iv ns) := WR.Same.seqT s02 hS
      refine gen_heap fun H3 e3 => ?_
      rw [← e3] at s3 hp3 t3
      refine ⟨_, rfl, p, C, dx, _, rfl, hp3, T.cl, T.nL, (by show 0 < 1000; decide), ?_⟩
      have hp4 : L2.upd H3 p (.ins C dx (putF "letters" (.ref a) [])) p = some (.ins C dx [("letters", .ref a)]) := by rw [upd_same]; rfl
      have s4 := same_put (o := .ins C dx (putF "letters" (.ref a) [])) s3 p0
      have t4 := SqT.put (o := .ins C dx (putF "letters" (.ref a) [])) t3 hp3
      refine gen_heap fun H4 e4 => ?_
      rw [← e4] at hp4 s4 t4
      -- how many
      refine ⟨_, rfl, a, _, rfl, E0.same s4, _, rfl, p, C, dx, _, rfl, hp4, T.cl, T.nN, (by show 1 < 1000; decide), ?_⟩
      have hp5 : L2.upd H4 p (.ins C dx (putF "length" (.int ((iv ns).length : Nat)) [("letters", .ref a)])) p = some (.ins C dx [("letters", .ref a), ("length", .int (ns.length : Nat))]) := by
        rw [upd_same, pf_ne ne1, List.length_map]
        rfl
      have s5 := same_put (o := .ins C dx (putF "length" (.int ((iv ns).length : Nat)) [("letters", .ref a)])) s4 p0
      have t5 := SqT.put (o := .ins C dx (putF "length" (.int ((iv ns).length : Nat)) [("letters", .ref a)])) t4 hp4
      refine gen_heap fun H5 e5 => ?_
      rw [← e5] at hp5 s5 t5
      -- its kinds
      refine ⟨_, rfl, a, ns, rfl, E0.same s5, by omega, hl, fun ks hk tk H6 s6 tk6 => ?_⟩
      have hp6 := s6 _ _ hp5
      have s06 := s5.trans s6
      have t6 := WR.Same.seqT s6 t5
      refine ⟨_, rfl, p, C, dx, _, rfl, hp6, T.cl, T.nK, (by show 2 < 1000; decide), ?_⟩
      have hp7 : L2.upd H6 p (.ins C dx (putF "kinds" (.ref tk) [("letters", .ref a), ("length", .int (ns.length : Nat))])) p = some (.ins C dx [("letters", .ref a), ("length", .int (ns.length : Nat)), ("kinds", .ref tk)]) := by
        rw [upd_same, pf_ne ne2, pf_ne ne5]
        rfl
      have s7 := same_put (o := .ins C dx (putF "kinds" (.ref tk) [("letters", .ref a), ("length", .int (ns.length : Nat))])) s06 p0
      have t7 := SqT.put (o := .ins C dx (putF "kinds" (.ref tk) [("letters", .ref a), ("length", .int (ns.length : Nat))])) t6 hp6
      have k7 := SqT.put (o := .ins C dx (putF "kinds" (.ref tk) [("letters", .ref a), ("length", .int (ns.length : Nat))])) tk6 hp6
      refine gen_heap fun H7 e7 => ?_
      rw [← e7] at hp7 s7 t7 k7
      -- short
      refine ⟨_, rfl, a, ns, rfl, E0.same s7, by omega, fun q H8 s8 q8 => ?_⟩
      have hp8 := s8 _ _ hp7
      have s08 := s7.trans s8
      have t8 := WR.Same.seqT s8 t7
      have k8 := WR.Same.seqT s8 k7
      refine ⟨_, rfl, p, C, dx, _, _, rfl, hp8, T.cl, T.nL, lk_eq, ?_⟩
      refine ⟨_, _, .tup q8 (dp_iv _), .tup t8 (dp_iv _), shaped_ints _, shaped_ints _, ?_⟩
      rw [eqv_ints]
      refine ⟨_, rfl, p, C, dx, _, rfl, hp8, T.cl, T.nS, (by show 3 < 1000; decide), ?_⟩
      have hp9 : L2.upd H8 p (.ins C dx (putF "is_short" (.bl (decide (Fr.shr ns = ns))) [("letters", .ref a), ("length", .int (ns.length : Nat)), ("kinds", .ref tk)])) p = some (.ins C dx [("letters", .ref a), ("length", .int (ns.length : Nat)), ("kinds", .ref tk), ("is_short", .bl (decide (Fr.shr ns = ns)))]) := by
        rw [upd_same, pf_ne ne3, pf_ne ne6, pf_ne ne8]
        rfl
      have s9 := same_put (o := .ins C dx (putF "is_short" (.bl (decide (Fr.shr ns = ns))) [("letters", .ref a), ("length", .int (ns.length : Nat)), ("kinds", .ref tk)])) s08 p0
      have t9 := SqT.put (o := .ins C dx (putF "is_short" (.bl (decide (Fr.shr ns = ns))) [("letters", .ref a), ("length", .int (ns.length : Nat)), ("kinds", .ref tk)])) t8 hp8
      have k9 := SqT.put (o := .ins C dx (putF "is_short" (.bl (decide (Fr.shr ns = ns))) [("letters", .ref a), ("length", .int (ns.length : Nat)), ("kinds", .ref tk)])) k8 hp8
      refine gen_heap fun H9 e9 => ?_
      rw [← e9] at hp9 s9 t9 k9
      -- short round
      refine ⟨_, rfl, a, ns, rfl, E0.same s9, by omega, hl.nz, fun q2 Ha sa qa => ?_⟩
      have hpa := sa _ _ hp9
      have s0a := s9.trans sa
      have ta := WR.Same.seqT sa t9
      have ka := WR.Same.seqT sa k9
      refine ⟨_, rfl, p, C, dx, _, _, rfl, hpa, T.cl, T.nL, lk_eq, ?_⟩
      refine ⟨_, _, .tup qa (dp_iv _), .tup ta (dp_iv _), shaped_ints _, shaped_ints _, ?_⟩
      rw [eqv_ints]
      refine ⟨_, rfl, p, C, dx, _, rfl, hpa, T.cl, T.nR, (by show 4 < 1000; decide), ?_⟩
      refine k _ (same_put s0a p0) ⟨dx, a, tk, ks, ?_, SqT.put ta hpa, SqT.put ka hpa, hk⟩
      rw [upd_same, pf_ne ne4, pf_ne ne7, pf_ne ne9, pf_ne ne10]
      rfl
end
end W06
set_option Elab.async false
set_option linter.all false
set_option maxRecDepth 100000
set_option maxHeartbeats 2000000
namespace W06
open PySem L2 PySem.Spec PyProof.Rows WR
abbrev sEq : Stmt := inClass (top 32) 1
abbrev sContrary : Stmt := inClass (top 32) 4
abbrev sShort : Stmt := inClass (top 32) 5
abbrev sRound : Stmt := inClass (top 32) 6
abbrev sThen : Stmt := inClass (top 32) 8
abbrev sTimes : Stmt := inClass (top 32) 9
abbrev sNeedI : Stmt := top 22
/-- some word of these letters, all else as it stood -/
def NewW (K : PySem.W.Frag) (C : Addr) (H : Hp) (Q : VK) (ns : List Int) : Prop := ∀ p H', Same H H' → WordAt K C H' p ns → Q (.ref p) H'
theorem make_word {K : PySem.W.Frag} {C : Addr} {H1 : Hp} {q : Addr} {ms : List Int} {Q : VK} {E : XK} (hq : SqE K H1 q (iv ms)) (hlen : ms.length ≤ 500) (hl : Lts ms) (k : NewW K C H1 Q ms) :
    ∀ x dx, H1 x = none → H1 dx = none → dx ≠ x → spInit K C [.ref x, .ref q] (L2.upd (L2.upd H1 dx (.own x)) x (.ins C dx [])) (fun v H2 => v = .non ∧ Q (.ref x) H2) E := by
  intro x dx nx ndx nex
  have s0 : Same H1 (L2.upd (L2.upd H1 dx (.own x)) x (.ins C dx [])) := fun b o e => by
    rw [upd_ne (ne_of_none e nx), upd_ne (ne_of_none e ndx)]
    exact e
  exact ⟨H1, x, dx, q, ms, rfl, s0, nx, upd_same, hq, hlen, hl, fun H' s' W' => ⟨rfl, k x H' s' W'⟩⟩
def spOne (K : PySem.W.Frag) (C : Addr) (fn : List Int → List Int) : Sp := fun vs H Q _ => ∃ (p : Addr) (ns : List Int), vs = [.ref p] ∧ WordAt K C H p ns ∧ ns.length ≤ 500 ∧ Lts ns ∧ NewW K C H Q (fn ns)
def spEq (K : PySem.W.Frag) (C : Addr) : Sp := fun vs H Q _ => ∃ (p q : Addr) (ns ms : List Int), vs = [.ref p, .ref q] ∧ WordAt K C H p ns ∧ WordAt K C H q ms ∧ Q (.bl (decide (ns = ms))) H
def spThen (K : PySem.W.Frag) (C : Addr) : Sp := fun vs H Q _ => ∃ (p q : Addr) (ns ms : List Int), vs = [.ref p, .ref q] ∧ WordAt K C H p ns ∧ WordAt K C H q ms ∧ ns.length + ms.length ≤ 500 ∧ Lts ns ∧ Lts ms ∧ NewW K C H Q (ns ++ ms)
/-- so many times, for a number below 0 the contrary so many times -/
def tms (n : Int) (ns : List Int) : List Int := if 0 < n then Fr.rep n.natAbs ns else Fr.rep n.natAbs (Fr.con ns)
def spTimes (K : PySem.W.Frag) (C : Addr) : Sp := fun vs H Q _ => ∃ (p : Addr) (n : Int) (ns : List Int), vs = [.ref p, .int n] ∧ WordAt K C H p ns ∧ ns.length ≤ 500 ∧ ns.length * n.natAbs ≤ 500 ∧ Lts ns ∧ NewW K C H Q (tms n ns)
def spNeedW (K : PySem.W.Frag) (C : Addr) : Sp := fun vs H Q _ => ∃ (q : Addr) (z : V) (ms : List Int), vs = [.ref q, z] ∧ WordAt K C H q ms ∧ Q .non H
def spNeedI : Sp := fun vs H Q _ => ∃ (n : Int) (z : V), vs = [.int n, z] ∧ Q .non H
theorem Lts.con {ns : List Int} (h : Lts ns) : Lts (Fr.con ns) := fun x hx => by
  unfold Fr.con at hx
  obtain ⟨y, hy, rfl⟩ := List.mem_map.mp hx
  have := h y (List.mem_reverse.mp hy)
  rw [Int.natAbs_neg]
  exact this
theorem Lts.app {ns ms : List Int} (h : Lts ns) (k : Lts ms) : Lts (ns ++ ms) := fun x hx => by
  rcases List.mem_append.mp hx with e | e
  · exact h x e
  · exact k x e
theorem Lts.shr {ns : List Int} (h : Lts ns) : Lts (Fr.shr ns) := fun x hx => h x (Fr.shr_mem hx)
theorem Lts.rep {ns : List Int} (h : Lts ns) : ∀ n, Lts (Fr.rep n ns)
  | 0 => fun x hx => nomatch hx
  | n + 1 => h.app (Lts.rep h n)
theorem rnd_sub {ns : List Int} (nz : Fr.NZ ns) : ∃ u, Fr.shr ns = u ++ Fr.rnd ns ++ Fr.con u := by
  obtain ⟨u, m, e, c, z⟩ := Fr.parted (Fr.shr ns) nz.shr (Fr.rd_shr ns)
  refine ⟨u, ?_⟩
  have er : Fr.rnd ns = m := by
    unfold Fr.rnd
    rw [e, Fr.ends_eq c z]
  rw [er]
  exact e
theorem Lts.rnd {ns : List Int} (h : Lts ns) : Lts (Fr.rnd ns) := fun x hx => by
  obtain ⟨u, e⟩ := rnd_sub h.nz
  refine h.shr x ?_
  rw [e]
  simp [hx]
theorem rnd_len {ns : List Int} (h : Lts ns) : (Fr.rnd ns).length ≤ ns.length := by
  obtain ⟨u, e⟩ := rnd_sub h.nz
  have h1 := shr_len ns
  rw [e] at h1
  rw [whole_len] at h1
  omega
theorem rep_flat (n : Nat) (ns : List Int) : (List.replicate n (iv ns)).flatten = iv (Fr.rep n ns) := by
  induction n with
  | zero => rfl
  | succ n ih => 
    rw [List.replicate_succ, List.flatten_cons, ih, Fr.rep_succ]
    exact List.map_append.symm
theorem WordAt.tyx {K : PySem.W.Frag} {mg : Str → Option Value} {C : Addr} {H : Hp} {p : Addr} {ns : List Int} (h : WordAt K C H p ns) (T : TxW K mg C) : TyX K H (.ref p) (.ref C) := by
  obtain ⟨dx, tl, tk, ks, h1, _⟩ := h
  exact .base (.ins h1 T.cl T.ca T.cn T.ct T.cm)
theorem kit_self {K : PySem.W.Frag} (C : Addr) : PySem.W.kitOne K (.ref C) (.ref C) = some true := by
  unfold PySem.W.kitOne
  rw [if_pos (by simp)]
structure MkW (P : Program) (w : World) (K : PySem.W.Frag) (mg : Str → Option Value) (base : Heap) (C : Addr) : Prop where
  ex : ∃ (f : Addr) (fd : FuncData), Mk K C f ∧ FnOk P w K mg base CX0 4 f fd ["self", "letters"] (spInit K C) ∧ Binds K fd ["self", "letters"] []
section
variable {X : Cx} {C : Addr} {p pos : Pos} {e : Expr} {es : List Expr} {t : TA} {j : Nat}
theorem pe_word (M : MkW X.prog X.w X.K X.mg X.base C) (T : TxW X.K X.mg C) (hr : Room j X.A) (hkj : 5 ≤ j) (hg : Gl X "Word") (ha : PA X (e :: es) t)
    (he : starEach (e :: es) X.env = (false, eval e X.env) :: starEach es X.env := by rfl) (hpl : (backTo pos (starEach es X.env)).any (·.1) = false := by rfl) :
    PE X (.Call (.Name "Word" p) (e :: es) [] pos) (tMake C (spInit X.K C) [] E0 t) := by
  obtain ⟨f, fd, M, F, hb⟩ := M.ex
  exact pe_make M F (hr.mono hkj) hg T.mgW hb .nil pass0 ha (by decide) he hpl
end
section
variable {P : Program} {w : World} {K : PySem.W.Frag} {mg : Str → Option Value} {base : Heap}
theorem scEq : FnScope ["self", "other"] ["self", "other"] (defScope sEq) := ⟨rfl, rfl, rfl, by decide +kernel, rfl, by decide +kernel, by decide +kernel⟩
theorem ok_eq {C f : Addr} {fd : FuncData} (F : Fun K "__eq__" "Word.__eq__" sEq f fd) (T : TxW K mg C) : FnOk P w K mg base CX0 1 f fd ["self", "other"] (spEq K C) := by
  refine F.ok scEq (fun vs H Q E h => ?_) (fun cdv A outer s H vs Q E hr h => ?_)
  · obtain ⟨p, q, ns, ms, rfl, _⟩ := h
    rfl
  · obtain ⟨p, q, ns, ms, rfl, W1, W2, k⟩ := h
    refine ⟨_, pss_one (ps_ret (pe_and (pe_callB call_isi (by rfl) T.isin (by decide +kernel) (pa_cons (pv 1) (pa_cons (pe_glob (v := .ref C) (by rfl) T.mgW rfl) pa_nil)))
      (pe_one (pe_cmpR (op_eqD hr.units) (pe_fld (pv 0) rfl) (pe_fld (pv 1) rfl) (nomark _))))), ?_⟩
    refine ⟨_, rfl, _, _, _, _, _, rfl, .own C, W2.tyx T, kit_self C, _, rfl, ?_⟩
    refine iteT ?_
    obtain ⟨dx, tl, tk, ks, h1, h2, h3, h4⟩ := W1
    obtain ⟨dx', tl', tk', ks', h1', h2', h3', h4'⟩ := W2
    refine ⟨_, rfl, p, C, dx, _, _, rfl, h1, T.cl, T.nL, wf_letters, _, rfl, q, C, dx', _, _, rfl, h1', T.cl, T.nL, wf_letters, ?_⟩
    refine ⟨_, _, .tup h2 (dp_iv _), .tup h2' (dp_iv _), shaped_ints _, shaped_ints _, ?_⟩
    rw [eqv_ints]
    exact k
theorem scNeedW : FnScope ["value", "part"] ["value", "part"] (defScope sNeedW) := ⟨rfl, rfl, rfl, by decide +kernel, rfl, by decide +kernel, by decide +kernel⟩
theorem ok_needW {C f : Addr} {fd : FuncData} (F : Fun K "need_word" "need_word" sNeedW f fd) (T : TxW K mg C) : FnOk P w K mg base CX0 1 f fd ["value", "part"] (spNeedW K C) := by
  refine F.ok scNeedW (fun vs H Q E h => ?_) (fun cdv A outer s H vs Q E hr h => ?_)
  · obtain ⟨q, z, ms, rfl, _⟩ := h
    rfl
  · obtain ⟨q, z, ms, rfl, W2, k⟩ := h
    refine ⟨_, pss_one (ps_if (pt_not (pt_val (pe_callB call_isi (by rfl) T.isin (by decide +kernel) (pa_cons (pv 0) (pa_cons (pe_glob (v := .ref C) (by rfl) T.mgW rfl) pa_nil))))) (pss_one ps_never) pss_nil), ?_⟩
    exact ⟨_, rfl, _, _, _, _, _, rfl, .own C, W2.tyx T, kit_self C, _, rfl, iteF k⟩
theorem scNeedI : FnScope ["value", "part"] ["value", "part"] (defScope sNeedI) := ⟨rfl, rfl, rfl, by decide +kernel, rfl, by decide +kernel, by decide +kernel⟩
theorem ok_needI {f : Addr} {fd : FuncData} (F : Fun K "need_integer" "need_integer" sNeedI f fd) (GI : Cal P w K mg base "is_integer" 1 ["value"] spIsInt) : FnOk P w K mg base CX0 2 f fd ["value", "part"] spNeedI := by
  refine F.ok scNeedI (fun vs H Q E h => ?_) (fun cdv A outer s H vs Q E hr h => ?_)
  · obtain ⟨n, z, rfl, _⟩ := h
    rfl
  · obtain ⟨n, z, rfl, k⟩ := h
    refine ⟨_, pss_one (ps_if (pt_not (pt_val (pe_cal GI hr (by decide) (by rfl) (pa_cons (pv 0) pa_nil)))) (pss_one ps_never) pss_nil), ?_⟩
    exact ⟨_, rfl, .int n, _, rfl, .int n, _, rfl, iteF k⟩
theorem scContrary : FnScope ["self"] ["self"] (defScope sContrary) := ⟨rfl, rfl, rfl, by decide +kernel, rfl, by decide +kernel, by decide +kernel⟩
theorem ok_contrary {C f : Addr} {fd : FuncData} (F : Fun K "contrary" "Word.contrary" sContrary f fd) (T : TxW K mg C) (M : MkW P w K mg base C) (GC : Cal P w K mg base "contrary_letters" 1 ["letters"] (spCon K)) :
    FnOk P w K mg base CX0 6 f fd ["self"] (spOne K C Fr.con) := by
  refine F.ok scContrary (fun vs H Q E h => ?_) (fun cdv A outer s H vs Q E hr h => ?_)
  · obtain ⟨p, ns, rfl, _⟩ := h
    rfl
  · obtain ⟨p, ns, rfl, ⟨dx, tl, tk, ks, h1, h2, h3, h4⟩, hlen, hl, k⟩ := h
    refine ⟨_, pss_one (ps_ret (pe_word M T hr (by decide) (by rfl) (pa_cons (pe_cal GC hr (by decide) (by rfl) (pa_cons (pe_fld (pv 0) rfl) pa_nil)) pa_nil))), ?_⟩
    refine ⟨_, rfl, p, C, dx, _, _, rfl, h1, T.cl, T.nL, wf_letters, tl, ns, rfl, h2, by omega, fun q H1 s1 hq => ?_⟩
    exact make_word (.inr hq) (by rw [Fr.con_length]; exact hlen) hl.con fun x H' s' W => k x H' (s1.trans s') W
theorem scShort : FnScope ["self"] ["self"] (defScope sShort) := ⟨rfl, rfl, rfl, by decide +kernel, rfl, by decide +kernel, by decide +kernel⟩
theorem ok_shortened {C f : Addr} {fd : FuncData} (F : Fun K "shortened" "Word.shortened" sShort f fd) (T : TxW K mg C) (M : MkW P w K mg base C) (GS : Cal P w K mg base "shortened_letters" 1 ["letters"] (spShr K)) :
    FnOk P w K mg base CX0 6 f fd ["self"] (spOne K C Fr.shr) := by
  refine F.ok scShort (fun vs H Q E h => ?_) (fun cdv A outer s H vs Q E hr h => ?_)
  · obtain ⟨p, ns, rfl, _⟩ := h
    rfl
  · obtain ⟨p, ns, rfl, ⟨dx, tl, tk, ks, h1, h2, h3, h4⟩, hlen, hl, k⟩ := h
    refine ⟨_, pss_one (ps_ret (pe_word M T hr (by decide) (by rfl) (pa_cons (pe_cal GS hr (by decide) (by rfl) (pa_cons (pe_fld (pv 0) rfl) pa_nil)) pa_nil))), ?_⟩
    refine ⟨_, rfl, p, C, dx, _, _, rfl, h1, T.cl, T.nL, wf_letters, tl, ns, rfl, .inr h2, by omega, fun q H1 s1 hq => ?_⟩
    exact make_word (.inr hq) (Nat.le_trans (shr_len ns) hlen) hl.shr fun x H' s' W => k x H' (s1.trans s') W
theorem scRound : FnScope ["self"] ["self"] (defScope sRound) := ⟨rfl, rfl, rfl, by decide +kernel, rfl, by decide +kernel, by decide +kernel⟩
theorem ok_round {C f : Addr} {fd : FuncData} (F : Fun K "shortened_round" "Word.shortened_round" sRound f fd) (T : TxW K mg C) (M : MkW P w K mg base C) (GR : Cal P w K mg base "rounded_letters" 2 ["letters"] (spRnd K)) :
    FnOk P w K mg base CX0 6 f fd ["self"] (spOne K C Fr.rnd) := by
  refine F.ok scRound (fun vs H Q E h => ?_) (fun cdv A outer s H vs Q E hr h => ?_)
  · obtain ⟨p, ns, rfl, _⟩ := h
    rfl
  · obtain ⟨p, ns, rfl, ⟨dx, tl, tk, ks, h1, h2, h3, h4⟩, hlen, hl, k⟩ := h
    refine ⟨_, pss_one (ps_ret (pe_word M T hr (by decide) (by rfl) (pa_cons (pe_cal GR hr (by decide) (by rfl) (pa_cons (pe_fld (pv 0) rfl) pa_nil)) pa_nil))), ?_⟩
    refine ⟨_, rfl, p, C, dx, _, _, rfl, h1, T.cl, T.nL, wf_letters, tl, ns, rfl, .inr h2, by omega, hl.nz, fun q H1 s1 hq => ?_⟩
    exact make_word (.inr hq) (Nat.le_trans (rnd_len hl) hlen) hl.rnd fun x H' s' W => k x H' (s1.trans s') W
theorem scThen : FnScope ["self", "other"] ["self", "other"] (defScope sThen) := ⟨rfl, rfl, rfl, by decide +kernel, rfl, by decide +kernel, by decide +kernel⟩
theorem ok_then {C f : Addr} {fd : FuncData} (F : Fun K "then" "Word.then" sThen f fd) (T : TxW K mg C) (M : MkW P w K mg base C) (GN : Cal P w K mg base "need_word" 1 ["value", "part"] (spNeedW K C)) :
    FnOk P w K mg base CX0 6 f fd ["self", "other"] (spThen K C) := by
  refine F.ok scThen (fun vs H Q E h => ?_) (fun cdv A outer s H vs Q E hr h => ?_)
  · obtain ⟨p, q, ns, ms, rfl, _⟩ := h
    rfl
  · obtain ⟨p, q, ns, ms, rfl, W1, W2, hlen, hl, hl2, k⟩ := h
    refine ⟨_, pss_cons (ps_expr (pe_cal GN hr (by decide) (by rfl) (pa_cons (pv 1) (pa_cons pe_str pa_nil))))
      (pss_one (ps_ret (pe_word M T hr (by decide) (by rfl) (pa_cons (pe_op op_catU (pe_fld (pv 0) rfl) (pe_fld (pv 1) rfl)) pa_nil)))), ?_⟩
    refine ⟨_, rfl, q, _, ms, rfl, W2, ?_⟩
    obtain ⟨dx, tl, tk, ks, h1, h2, h3, h4⟩ := W1
    obtain ⟨dx', tl', tk', ks', h1', h2', h3', h4'⟩ := W2
    refine ⟨_, rfl, p, C, dx, _, _, rfl, h1, T.cl, T.nL, wf_letters, _, rfl, q, C, dx', _, _, rfl, h1', T.cl, T.nL, wf_letters, ?_⟩
    refine ⟨tl, tl', _, _, rfl, rfl, h2, h2', Evl.sz_of (by simp; omega), fun r H1 s1 hr1 => ?_⟩
    rw [← List.map_append] at hr1
    exact make_word (.inr hr1) (by rw [List.length_append]; exact hlen) (hl.app hl2) fun x H' s' W => k x H' (s1.trans s') W
theorem scTimes : FnScope ["self", "number", "once"] ["self", "number"] (defScope sTimes) := ⟨rfl, rfl, rfl, by decide +kernel, rfl, by decide +kernel, by decide +kernel⟩
theorem abs_eq (n : Int) : (if n < 0 then -n else n) = (n.natAbs : Int) := by split <;> omega
theorem ok_times {C f : Addr} {fd : FuncData} (F : Fun K "times" "Word.times" sTimes f fd) (T : TxW K mg C) (T2 : TxB mg) (M : MkW P w K mg base C) (GN : Cal P w K mg base "need_integer" 2 ["value", "part"] spNeedI)
    (GF : Cal P w K mg base "need_few_letters" 1 ["many"] spFew) (GC : Cal P w K mg base "contrary_letters" 1 ["letters"] (spCon K)) :
    FnOk P w K mg base CX0 6 f fd ["self", "number"] (spTimes K C) := by
  refine F.ok scTimes (fun vs H Q E h => ?_) (fun cdv A outer s H vs Q E hr h => ?_)
  · obtain ⟨p, n, ns, rfl, _⟩ := h
    rfl
  · obtain ⟨p, n, ns, rfl, ⟨dx, tl, tk, ks, h1, h2, h3, h4⟩, hns, hlen, hl, k⟩ := h
    refine ⟨_, pss_cons (ps_expr (pe_cal GN hr (by decide) (by rfl) (pa_cons (pv 1) (pa_cons pe_str pa_nil))))
      (pss_cons (ps_if (pt_cmpR op_eq (pe_fld (pv 0) rfl) pe_int (nomark _)) (pss_one (ps_ret (pe_word M T hr (by decide) (by rfl) (pa_cons (pe_lst pa_nil) pa_nil)))) pss_nil)
      (pss_cons (ps_expr (pe_cal GF hr (by decide) (by rfl) (pa_cons (pe_op op_mul (pe_fld (pv 0) rfl) (pe_callB call_abs (by rfl) T2.abs (by decide +kernel) (pa_cons (pv 1) pa_nil))) pa_nil)))
      (pss_cons (ps_set (i := 2) scTimes.nd rfl (Or.inl rfl) (pe_ifExp (pt_cmpR op_gt (pv 1) pe_int (nomark _)) (pe_fld (pv 0) rfl) (pe_cal GC hr (by decide) (by rfl) (pa_cons (pe_fld (pv 0) rfl) pa_nil))))
      (pss_one (ps_ret (pe_word M T hr (by decide) (by rfl) (pa_cons (pe_op op_repU (pv 2) (pe_callB call_abs (by rfl) T2.abs (by decide +kernel) (pa_cons (pv 1) pa_nil))) pa_nil))))))), ?_⟩
    refine ⟨_, rfl, n, _, rfl, ?_⟩
    refine ⟨_, rfl, p, C, dx, _, _, rfl, h1, T.cl, T.nN, wf_length, rfl, _, rfl, ?_⟩
    by_cases hz : ns = []
    · subst hz
      have e : tms n [] = [] := by
        unfold tms
        split
        · exact Fr.rep_nil _
        · exact Fr.rep_nil _
      rw [e] at k
      refine iteT' (decide_eq_true rfl) ?_
      refine ⟨Nat.zero_le _, fun q hq => ?_⟩
      exact make_word (q := q) (ms := []) (.inl (SqL.of upd_same)) (by simp) (fun x hx => nomatch hx) fun x H' s' W => k x H' ((same_upd hq).trans s') W
    · have hpos : 0 < ns.length := List.length_pos_iff.mpr hz
      have hn : n.natAbs ≤ 500 := Nat.le_trans (Nat.le_mul_of_pos_left _ hpos) hlen
      refine iteF' (decide_eq_false fun e => ?_) ?_
      · have e2 : V.int (ns.length : Int) = V.int 0 := e
        injection e2 with e3
        omega
      refine ⟨_, rfl, p, C, dx, _, _, rfl, h1, T.cl, T.nN, wf_length, _, rfl, n, rfl, _, _, rfl, rfl, .inl ⟨by omega, by omega⟩, _, rfl, ?_, ?_⟩
      · rw [abs_eq, ← Int.natCast_mul]
        omega
      have fin : ∀ (q : Addr) (ms : List Int) (H1 : Hp), Same H H1 → SqT K H1 q (iv ms) → ms.length = ns.length → Lts ms → Fr.rep n.natAbs ms = tms n ns →
          rRepU K (.ref q) (.int (if n < 0 then -n else n)) H1 fun v H2 => ∀ x dx, H2 x = none → H2 dx = none → dx ≠ x → spInit K C [.ref x, v] (L2.upd (L2.upd H2 dx (.own x)) x (.ins C dx [])) (fun v H3 => v = .non ∧ Q (.ref x) H3) L2.E0 := by
        intro q ms H1 s1 hq hm hlm e
        refine ⟨q, _, iv ms, rfl, rfl, hq, by rw [abs_eq]; omega, by rw [abs_eq]; omega, by rw [List.length_map]; omega, fun r H2 s2 hr2 => ?_⟩
        rw [abs_eq, Int.toNat_natCast, rep_flat, e] at hr2
        have el : (tms n ns).length ≤ 500 := by
          rw [← e, Fr.rep_length, hm, Nat.mul_comm]
          exact hlen
        exact make_word (.inr hr2) el (by rw [← e]; exact hlm.rep _) fun x H' s' W => k x H' ((s1.trans s2).trans s') W
      refine ⟨_, rfl, _, _, rfl, rfl, _, rfl, ?_⟩
      refine ite2 (fun hpn => ?_) (fun hpn => ?_)
      · have hpn' : 0 < n := of_decide_eq_true hpn
        refine ⟨_, rfl, p, C, dx, _, _, rfl, h1, T.cl, T.nL, wf_letters, ?_⟩
        exact ⟨_, rfl, _, rfl, n, rfl, fin tl ns H (Same.refl H) h2 rfl hl (by unfold tms; rw [if_pos hpn'])⟩
      · have hpn' : ¬ 0 < n := fun z => hpn (decide_eq_true z)
        refine ⟨_, rfl, p, C, dx, _, _, rfl, h1, T.cl, T.nL, wf_letters, tl, ns, rfl, h2, by omega, fun q H1 s1 hq => ?_⟩
        exact ⟨_, rfl, _, rfl, n, rfl, fin q (Fr.con ns) H1 s1 hq (Fr.con_length ns) hl.con (by unfold tms; rw [if_neg hpn'])⟩
end
end W06
set_option Elab.async false
set_option linter.all false
set_option maxRecDepth 100000
set_option maxHeartbeats 2000000
namespace W06
open PySem L2
abbrev sJar : Stmt := top 38
abbrev sDraw : Stmt := top 39
/-! ### the hand that draws -/
/-- at a: a hand, of which at most n cells were begun -/
def HandAt (H : Hp) (a c : Addr) (n : Nat) : Prop := ∃ (ns : List Int) (i r : Int), H a = some (.lst [.ref c, .int i, .int r]) ∧ H c = some (.lst (ns.map V.int)) ∧ c ≠ a ∧ ns.length ≤ 1000 ∧ 0 ≤ i ∧ i ≤ (n : Int) ∧ 0 ≤ r
/-- all but what is at a stands as it did -/
def Kept (a : Addr) (H H' : Hp) : Prop := ∀ b o, b ≠ a → H b = some o → H' b = some o
theorem Kept.refl {a : Addr} {H : Hp} : Kept a H H := fun _ _ _ e => e
theorem Kept.trans {a : Addr} {H H1 H2 : Hp} (h1 : Kept a H H1) (h2 : Kept a H1 H2) : Kept a H H2 := fun b o n e => h2 b o n (h1 b o n e)
theorem Kept.upd {a : Addr} {H : Hp} {o : HO} : Kept a H (upd H a o) := fun b u n e => by rw [upd_ne n]; exact e
theorem Kept.new {a p : Addr} {H H' : Hp} {o : HO} (k : Kept a H H') (hp : H' p = none) : Kept a H (L2.upd H' p o) := fun b u n e => by
  rw [upd_ne (ne_of_none (k b u n e) hp)]
  exact k b u n e

theorem HandAt.put {H : Hp} {a c : Addr} {ns : List Int} {i r : Int} {n : Nat} (hC : H c = some (.lst (ns.map V.int))) (hca : c ≠ a) (hl : ns.length ≤ 1000) (i0 : 0 ≤ i) (hi : i ≤ (n : Int)) (r0 : 0 ≤ r) :
    HandAt (L2.upd H a (.lst [.ref c, .int i, .int r])) a c n := ⟨ns, i, r, upd_same, by rw [upd_ne hca]; exact hC, hca, hl, i0, hi, r0⟩
def spHand (K : PySem.W.Frag) : Sp := fun vs H Q _ => ∃ (a : Addr) (ns : List Int), vs = [.ref a] ∧ SqL K H a (ns.map V.int) ∧ ns.length ≤ 1000 ∧
  ∀ (H' : Hp) (p c : Addr), Same H H' → H p = none → H c = none → HandAt H' p c 0 → Q (.ref p) H'
def spTake : Sp := fun vs H Q _ => ∃ (a c : Addr) (m : Int) (n : Nat), vs = [.ref a, .int m] ∧ HandAt H a c n ∧ n ≤ 10000 ∧ 0 < m ∧ m.natAbs < 2 ^ 200 ∧
  ∀ (H' : Hp) (q : Int), 0 ≤ q → q < m → HandAt H' a c (n + 1) → Kept a H H' → Q (.int q) H'

theorem dpInts {K : PySem.W.Frag} {H : Hp} : ∀ ns : List Int, DpAll K H (ns.map V.int) (ns.map PyData.int)
  | [] => .nil
  | n :: r => .cons (.int n) (dpInts r)
structure TxL (mg : Str → Option Value) : Prop where
  int : mg "int" = none
  len : mg "len" = none
  abs : mg "abs" = none
section
variable {P : Program} {w : World} {K : PySem.W.Frag} {mg : Str → Option Value} {base : Heap}
theorem scHand : FnScope ["_law_script", "_law_cell"] ["_law_script"] (defScope sJar) := ⟨rfl, rfl, rfl, by decide +kernel, rfl, by decide +kernel, by decide +kernel⟩
theorem ok_hand {f : Addr} {fd : FuncData} (F : Fun K "_law_jar" "_law_jar" sJar f fd) (T : TxL mg) : FnOk P w K mg base CX0 1 f fd ["_law_script"] (spHand K) := by
  refine F.ok scHand (fun vs H Q E h => ?_) (fun cdv A outer s H vs Q E hr h => ?_)
  · obtain ⟨a, ns, rfl, _⟩ := h
    rfl
  · obtain ⟨a, ns, rfl, hS, hlen, k⟩ := h
    refine ⟨_, pss_one (ps_ret (pe_lst (pa_cons (pe_lc (own := [("_law_cell", 1)]) (g := gName 1) (tt := tYes) rfl scHand.nd (pi_list (pe_slice sl_list (pv 0) po_none (po_some pe_int)))
      (blkOk_by (N := ["_law_script", "_law_cell"]) (sc := defScope sJar) (by decide +kernel)) (fun _ _ _ _ _ => pg_name (i := 1) scHand.nd rfl (Or.inl rfl)) (fun _ _ _ _ _ => pts_nil)
      (fun _ _ _ _ _ => pe_callTy call_int1 (by rfl) T.int (by decide +kernel) (pa_cons (pv 1) pa_nil))) (pa_cons pe_int (pa_cons pe_int pa_nil))))), ?_⟩
    refine ⟨_, rfl, 59, rfl, a, ns.map V.int, rfl, hS, fun p hp => ?_⟩
    refine ⟨p, rfl, ⟨_, SqL.of upd_same⟩, fun D hD => ?_⟩
    have hDp : D ≠ p := fun e => by
      rw [e, upd_same] at hD
      cases hD
    have hD0 : H D = none := by
      rw [upd_ne hDp] at hD
      exact hD
    have hc : cutV (ns.map V.int) none (some 59) = (ns.take 59).map V.int := by
      unfold cutV
      rw [List.map_take, List.length_map]
      have e0 : HT.sIx ns.length 0 none = 0 := rfl
      rw [e0, List.drop_zero]
      have e1 : HT.sIx ns.length ns.length (some 59) = min 59 ns.length := by
        unfold HT.sIx
        simp
        try omega
      rw [e1, Nat.sub_zero]
      by_cases h : 59 ≤ ns.length
      · rw [Nat.min_eq_left h]
      · rw [Nat.min_eq_right (by omega), List.take_of_length_le (by simp), List.take_of_length_le (by simp; omega)]
    refine lc_list (K := K) (a := p) (xs := (ns.take 59).map V.int) (fun i H' => H' D = some (.lst (((ns.take 59).take i).map V.int)) ∧ H' p = some (.lst ((ns.take 59).map V.int)) ∧ Same H H') ⟨upd_same, ?_, ?_⟩ (fun i H' _ q => SqL.of q.2.1) ?_ ?_
    · rw [upd_ne hDp.symm, upd_same, hc]
    · intro b o e
      rw [upd_ne (ne_of_none e hD0), upd_ne (ne_of_none e hp)]
      exact e
    · intro i x H' hi q
      obtain ⟨z, hz, rfl⟩ : ∃ z, (ns.take 59)[i]? = some z ∧ x = V.int z := by
        rw [List.getElem?_map] at hi
        cases e : (ns.take 59)[i]? with
        | none =>
          rw [e] at hi
          cases hi
        | some z =>
          rw [e] at hi
          exact ⟨z, rfl, (Option.some.inj hi).symm⟩
      have hli : i < (ns.take 59).length := (List.getElem?_eq_some_iff.mp hz).1
      have hl60 : (ns.take 59).length ≤ 59 := by rw [List.length_take]; omega
      refine ⟨rfl, ?_⟩
      refine yes_te ?_
      refine ⟨_, rfl, .inl ⟨z, rfl, _, q.1, Evl.sz_lt (by rw [List.length_map, List.length_take]; omega), ?_⟩⟩
      refine ⟨?_, ?_, ?_⟩
      · rw [upd_same]
        congr 2
        have ez : (ns.take 59)[i] = z := (List.getElem?_eq_some_iff.mp hz).2
        rw [List.take_succ_eq_append_getElem hli, ez, List.map_append]
        rfl
      · rw [upd_ne hDp.symm]
        exact q.2.1
      · intro b o e
        rw [upd_ne (ne_of_none e hD0)]
        exact q.2.2 b o e
    · intro H' q
      refine ⟨by show 3 ≤ sizeLine; decide, fun l hl => ?_⟩
      have hlD : D ≠ l := ne_of_none q.1 hl
      have hl0 : H l = none := by
        cases e : H l with
        | none => rfl
        | some o => rw [q.2.2 l o e] at hl; cases hl
      refine k _ l D (fun b o e => by rw [upd_ne (ne_of_none e hl0)]; exact q.2.2 b o e) hl0 hD0 ?_
      have q1 := q.1
      rw [List.length_map, List.take_length] at q1
      exact ⟨ns.take 59, 0, 0, upd_same, by rw [upd_ne hlD]; exact q1, hlD, by rw [List.length_take]; omega, Int.le_refl _, Int.le_refl _, Int.le_refl _⟩

theorem scTake : FnScope ["_law_jar_here", "_law_many", "_law_rest", "_law_at", "_law_cell", "_law_mixed_here"] ["_law_jar_here", "_law_many"] (defScope sDraw) := ⟨rfl, rfl, rfl, by decide +kernel, rfl, by decide +kernel, by decide +kernel⟩
theorem ok_take {f : Addr} {fd : FuncData} (F : Fun K "_law_draw" "_law_draw" sDraw f fd) (T : TxL mg) : FnOk P w K mg base CX0 1 f fd ["_law_jar_here", "_law_many"] spTake := by
  refine F.ok scTake (fun vs H Q E h => ?_) (fun cdv A outer s H vs Q E hr h => ?_)
  · obtain ⟨a, c, m, n, rfl, _⟩ := h
    rfl
  · obtain ⟨a, c, m, n, rfl, ⟨ns, i, r, hA, hC, hca, hlen, i0, hi, r0⟩, hn, m0, hm, k⟩ := h
    refine ⟨_, pss_cons (ps_if (pt_cmpR op_gt (pe_ix ix_list (pv 0) pe_int (fun _ _ => rfl)) pe_int (nomark _))
        (pss_cons (ps_set (i := 2) scTake.nd rfl (Or.inl rfl) (pe_callTy call_int1 (by rfl) T.int (by decide +kernel) (pa_cons (pe_ix ix_list (pv 0) pe_int (fun _ _ => rfl)) pa_nil)))
        (pss_cons (ps_asg (pe_op op_fdivW (pv 2) (pv 1)) (pg_sub (pv 0) pe_int set_list))
        (pss_one (ps_ret (pe_op op_mod (pe_callTy call_int1 (by rfl) T.int (by decide +kernel) (pa_cons (pv 2) pa_nil)) (pv 1)))))) pss_nil)
      (pss_cons (ps_set (i := 3) scTake.nd rfl (Or.inl rfl) (pe_ix ix_list (pv 0) pe_int (fun _ _ => rfl)))
      (pss_cons (ps_asg (pe_op op_add (pv 3) pe_int) (pg_sub (pv 0) pe_int set_list))
      (pss_cons (ps_set (i := 4) scTake.nd rfl (Or.inl rfl) (pe_op op_add (pe_op op_mul pe_int (pv 3)) pe_int))
      (Evl.pss_cut (ps_if (pt_cmpR (op_neD hr.units) (pe_ix ix_list (pv 0) pe_int (fun _ _ => rfl)) (pe_lst pa_nil) (nomark _))
        (pss_one (ps_set (i := 4) scTake.nd rfl (Or.inl rfl) (pe_ix ix_list (pe_ix ix_list (pv 0) pe_int (fun _ _ => rfl)) (pe_op op_mod (pe_callTy call_int1 (by rfl) T.int (by decide +kernel) (pa_cons (pv 3) pa_nil)) (pe_callB call_len_seq (by rfl) T.len PySem.boot_len (pa_cons (pe_ix ix_list (pv 0) pe_int (fun _ _ => rfl)) pa_nil))) (fun _ _ => rfl)))) pss_nil)
      (Evl.pss_cut (ps_if (PW.pt (pw_and (pt_cmpR op_lt (pv 3) (pe_callB call_len_seq (by rfl) T.len PySem.boot_len (pa_cons (pe_ix ix_list (pv 0) pe_int (fun _ _ => rfl)) pa_nil)) (nomark _)) (pw_and1 (pt_cmpR op_ge (pe_callB call_abs (by rfl) T.abs (by decide +kernel) (pa_cons (pv 4) pa_nil)) (pe_op op_pow pe_int pe_int) (nomark _)))))
        (pss_cons (ps_set (i := 2) scTake.nd rfl (Or.inl rfl) (pe_op op_add (pe_op op_mul pe_int (pe_op op_sub (pe_callB call_abs (by rfl) T.abs (by decide +kernel) (pa_cons (pv 4) pa_nil)) (pe_op op_pow pe_int pe_int))) (pe_callTy call_int1 (by rfl) T.int (by decide +kernel) (pa_cons (pe_cmpR op_lt (pv 4) pe_int (nomark _)) pa_nil))))
        (pss_cons (ps_asg (pe_op op_fdivW (pe_callTy call_int1 (by rfl) T.int (by decide +kernel) (pa_cons (pv 2) pa_nil)) (pv 1)) (pg_sub (pv 0) pe_int set_list))
        (pss_one (ps_ret (pe_op op_mod (pe_callTy call_int1 (by rfl) T.int (by decide +kernel) (pa_cons (pv 2) pa_nil)) (pv 1)))))) pss_nil)
      (pss_cons (ps_set (i := 5) scTake.nd rfl (Or.inl rfl) (pe_op op_mod (pe_callTy call_int1 (by rfl) T.int (by decide +kernel) (pa_cons (pe_op op_pow (pe_op op_add (pe_op op_add (pe_op op_mod (pe_callTy call_int1 (by rfl) T.int (by decide +kernel) (pa_cons (pv 4) pa_nil)) pe_int) (pe_op op_mul pe_int (pv 3))) pe_int) pe_int) pa_nil)) pe_int))
      (pss_cons (ps_set (i := 5) scTake.nd rfl (Or.inl rfl) (pe_op op_mod (pe_callTy call_int1 (by rfl) T.int (by decide +kernel) (pa_cons (pe_op op_pow (pe_op op_add (pe_op op_add (pe_op op_mul (pv 5) (pe_op op_add (pe_op op_mul pe_int (pv 3)) pe_int)) (pe_op op_mul (pe_op op_mul pe_int (pv 3)) (pv 3))) pe_int) pe_int) pa_nil)) pe_int))
      (pss_one (ps_ret (pe_op op_mod (pe_callTy call_int1 (by rfl) T.int (by decide +kernel) (pa_cons (pe_op op_fdiv (pv 5) pe_int) pa_nil)) (pv 1)))))))))))
      , ?_⟩
    have hdv : ∀ x : Int, CDivW x m := fun x => wide_div m0 hm (by decide) (by decide)
    -- if hand[2] > 0
    refine ⟨_, rfl, a, _, 2, _, rfl, rfl, SqL.of hA, rfl, _, _, rfl, rfl, _, rfl, ?_⟩
    refine ite2 (fun hp => ?_) (fun _ => ?_)
    · refine ⟨_, rfl, a, _, 2, _, rfl, rfl, SqL.of hA, rfl, .inl ⟨_, rfl, ?_⟩⟩
      refine ⟨_, rfl, _, rfl, _, _, rfl, rfl, hdv _, _, rfl, a, _, 2, 2, rfl, rfl, hA, rfl, ?_⟩
      refine ⟨_, rfl, .inl ⟨_, rfl, _, rfl, _, _, rfl, rfl, m0, ?_⟩⟩
      exact k _ (r % m) (Int.emod_nonneg _ (by omega)) (Int.emod_lt_of_pos _ m0) (HandAt.put hC hca hlen i0 (by omega) (Int.ediv_nonneg r0 (by omega))) Kept.upd
    -- at = hand[1]; hand[1] = at + 1; cell = ..
    refine ⟨_, rfl, a, _, 1, _, rfl, rfl, SqL.of hA, rfl, ?_⟩
    refine ⟨_, rfl, _, _, rfl, rfl, _, rfl, a, _, 1, 1, rfl, rfl, hA, rfl, ?_⟩
    refine ⟨_, rfl, _, _, rfl, rfl, .inl ⟨by decide, by decide⟩, _, _, rfl, rfl, ?_⟩
    -- H1: the heap behind this
    obtain ⟨H1, eH1⟩ : ∃ H1, H1 = upd H a (.lst [.ref c, .int (i + 1), .int r]) := ⟨_, rfl⟩
    have kH : Kept a H H1 := by rw [eH1]; exact Kept.upd
    have hA1 : H1 a = some (.lst [.ref c, .int (i + 1), .int r]) := by rw [eH1]; exact upd_same
    have hC1 : H1 c = some (.lst (ns.map V.int)) := by rw [eH1, upd_ne hca]; exact hC
    show Evl.tCut _ _ _ _ (upd H a (.lst [.ref c, .int (i + 1), .int r]))
    rw [← eH1]
    refine ⟨fun σ' H' => Same H1 H' ∧ ∃ cell : Int, σ' = [some (.ref a), some (.int m), none, some (.int i), some (.int cell), none], ?_, ?_⟩
    · refine ⟨_, rfl, a, _, 0, _, rfl, rfl, SqL.of hA1, rfl, Nat.zero_le _, fun p hp => ?_⟩
      have hcp : c ≠ p := ne_of_none hC1 hp
      have hap : a ≠ p := ne_of_none hA1 hp
      have sm : Same H1 (upd H1 p (.lst [])) := fun b o e => by rw [upd_ne (ne_of_none e hp)]; exact e
      refine ⟨.list (ns.map PyData.int), .list [], .lst (SqL.of (sm _ _ hC1)) (dpInts ns), .lst (SqL.of upd_same) .nil, PySem.W.ke_shaped_ints ns, rfl, _, rfl, ?_⟩
      refine ite2 (fun hne => ?_) (fun _ => ?_)
      · have hn0 : 0 < ns.length := by
          cases ns with
          | nil => exact absurd hne (by decide)
          | cons x xs => exact Nat.succ_pos _
        have hl0 : (0 : Int) < (((ns.map V.int).length : Nat) : Int) := by rw [List.length_map]; omega
        have hj0 : 0 ≤ i % (((ns.map V.int).length : Nat) : Int) := Int.emod_nonneg _ (by omega)
        have hj1 : i % (((ns.map V.int).length : Nat) : Int) < (((ns.map V.int).length : Nat) : Int) := Int.emod_lt_of_pos _ hl0
        obtain ⟨j, hj⟩ : ∃ j : Nat, i % (((ns.map V.int).length : Nat) : Int) = (j : Int) := ⟨(i % (((ns.map V.int).length : Nat) : Int)).toNat, by omega⟩
        have hjl : j < ns.length := by rw [List.length_map] at hj1 hj; omega
        refine ⟨_, rfl, a, _, 0, _, rfl, rfl, SqL.of (sm _ _ hA1), rfl, _, rfl, .inl ⟨_, rfl, ?_⟩⟩
        refine ⟨_, rfl, a, _, 0, _, rfl, rfl, SqL.of (sm _ _ hA1), rfl, c, _, rfl, .inl (SqL.of (sm _ _ hC1)), _, _, rfl, rfl, hl0, c, _, _, .int ns[j], rfl, rfl, SqL.of (sm _ _ hC1), ?_, ?_⟩
        · rw [hj]
          exact atI_nat (by rw [List.getElem?_map, List.getElem?_eq_getElem hjl]; rfl)
        · exact ⟨sm, ns[j], rfl⟩
      · exact ⟨sm, _, rfl⟩
    · rintro σ' H2 ⟨sm, cell, rfl⟩
      have hA2 := sm _ _ hA1
      have hC2 := sm _ _ hC1
      have kH2 : Kept a H H2 := fun b o e q => sm b o (kH b o e q)
      -- a great cell: what is left of it
      refine ⟨fun σ' H' => σ' = [some (.ref a), some (.int m), none, some (.int i), some (.int cell), none] ∧ H' = H2, ?_, ?_⟩
      · refine ⟨_, rfl, _, rfl, a, _, 0, _, rfl, rfl, SqL.of hA2, rfl, c, _, rfl, .inl (SqL.of hC2), _, _, rfl, rfl, _, rfl, ?_⟩
        refine ite2 (fun _ => ?_) (fun _ => ?_)
        · refine ⟨_, rfl, cell, rfl, _, _, rfl, rfl, ⟨by decide, by decide, by decide⟩, _, _, rfl, rfl, _, rfl, ?_⟩
          refine ite2 (fun hge => ?_) (fun _ => ⟨rfl, rfl⟩)
          have hge' := of_decide_eq_true hge
          refine ⟨_, rfl, cell, rfl, _, _, rfl, rfl, ⟨by decide, by decide, by decide⟩, _, _, rfl, rfl, _, _, rfl, rfl, .inl ⟨by decide, by decide⟩, _, rfl, _, _, rfl, rfl, .inr ⟨_, rfl, _, _, rfl, rfl, ?_⟩⟩
          have hr2 : ∀ b : Bool, 0 ≤ 2 * ((if cell < 0 then -cell else cell) - (10 : Int) ^ Int.toNat 18) + (if b = true then 1 else 0) := by
            intro b
            have e1 : (if b = true then (1 : Int) else 0) ≥ 0 := by cases b <;> decide
            have e2 : (10 : Int) ^ Int.toNat 18 ≤ (if cell < 0 then -cell else cell) := hge'
            omega
          refine ⟨_, rfl, .inl ⟨_, rfl, _, rfl, _, _, rfl, rfl, hdv _, _, rfl, a, _, 2, 2, rfl, rfl, hA2, rfl, ?_⟩⟩
          refine ⟨_, rfl, .inl ⟨_, rfl, _, rfl, _, _, rfl, rfl, m0, ?_⟩⟩
          exact k _ _ (Int.emod_nonneg _ (by omega)) (Int.emod_lt_of_pos _ m0) (HandAt.put hC2 hca hlen (by omega) (by omega) (Int.ediv_nonneg (hr2 _) (by omega))) (kH2.trans Kept.upd)
        · exact ⟨rfl, rfl⟩
      · rintro σ' H3 ⟨rfl, rfl⟩
        have hin : i ≤ 10000 := by omega
        have b1 : 0 ≤ cell % 2147483549 := Int.emod_nonneg _ (by decide)
        have b2 : cell % 2147483549 < 2147483549 := Int.emod_lt_of_pos _ (by decide)
        refine ⟨_, rfl, .inl ⟨_, rfl, _, _, rfl, rfl, (by decide : (0 : Int) < 2147483549), _, rfl, _, _, rfl, rfl, .inl ⟨by decide, by decide⟩, _, _, rfl, rfl, _, _, rfl, rfl, _, _, rfl, rfl, ⟨by decide, by decide, ?_⟩, ?_⟩⟩
        · show (cell % 2147483549 + 33317 * i + 6037).natAbs < 2 ^ 64
          have e : (2 : Nat) ^ 64 = 18446744073709551616 := by decide
          rw [e]
          omega
        have hb : ∀ x : Int, ((x % 2147483587) * (2 * i + 1831) + 51133 * i * i + 44123).natAbs < 2 ^ 64 := by
          intro x
          have b3 : 0 ≤ x % 2147483587 := Int.emod_nonneg _ (by decide)
          have b4 : x % 2147483587 < 2147483587 := Int.emod_lt_of_pos _ (by decide)
          have e : (2 : Nat) ^ 64 = 18446744073709551616 := by decide
          have c1 : 0 ≤ (x % 2147483587) * (2 * i + 1831) := Int.mul_nonneg b3 (by omega)
          have c2 : (x % 2147483587) * (2 * i + 1831) ≤ 2147483587 * 21831 := Int.mul_le_mul (by omega) (by omega) (by omega) (by omega)
          have c3 : 0 ≤ 51133 * i * i := Int.mul_nonneg (by omega) i0
          have c4 : 51133 * i * i ≤ 511330000 * 10000 := Int.mul_le_mul (by omega) hin i0 (by omega)
          rw [e]
          omega
        have hc : ∀ x : Int, CMul (x % 2147483587) (2 * i + 1831) := by
          intro x
          have b3 : 0 ≤ x % 2147483587 := Int.emod_nonneg _ (by decide)
          have b4 : x % 2147483587 < 2147483587 := Int.emod_lt_of_pos _ (by decide)
          exact .inl ⟨by omega, by omega⟩
        refine .inl ⟨_, rfl, _, _, rfl, rfl, (by decide : (0 : Int) < 2147483587), ?_⟩
        refine ⟨_, rfl, _, rfl, _, _, rfl, rfl, .inl ⟨by decide, by decide⟩, _, _, rfl, rfl, _, _, rfl, rfl, hc _, _, rfl, _, _, rfl, rfl, .inl ⟨by decide, by decide⟩, _, rfl, _, _, rfl, rfl, .inl ⟨by omega, by omega⟩, _, _, rfl, rfl, _, _, rfl, rfl, _, _, rfl, rfl, ⟨by decide, by decide, hb _⟩, ?_⟩
        refine .inl ⟨_, rfl, _, _, rfl, rfl, (by decide : (0 : Int) < 2147483629), ?_⟩
        refine ⟨_, rfl, _, _, rfl, rfl, ⟨by decide, by decide⟩, .inl ⟨_, rfl, _, rfl, _, _, rfl, rfl, m0, ?_⟩⟩
        exact k _ _ (Int.emod_nonneg _ (by omega)) (Int.emod_lt_of_pos _ m0) ⟨ns, i + 1, r, hA2, hC2, hca, hlen, by omega, by omega, r0⟩ kH2
end
end W06
set_option Elab.async false
set_option linter.all false
set_option maxRecDepth 100000
set_option maxHeartbeats 2000000
namespace W06
open PySem L2 PySem.Spec PyProof.Rows WR
structure EqW (P : Program) (w : World) (K : PySem.W.Frag) (mg : Str → Option Value) (base : Heap) (C : Addr) : Prop where
  ex : ∃ (f : Addr) (fd : FuncData), FnOk P w K mg base CX0 1 f fd ["self", "other"] (spEq K C) ∧ PySem.W.findIn K (.ref C) "__eq__" = some (some (.ref f)) ∧ PySem.W.isFn K (.ref f) = true ∧ Binds K fd ["self", "other"] []
/-- two words, held against one another -/
def rEqW (K : PySem.W.Frag) (C : Addr) : R2 := fun x y H Q => ∃ (p q : Addr) (ns ms : List Int), x = .ref p ∧ y = .ref q ∧ WordAt K C H p ns ∧ WordAt K C H q ms ∧ Q (.bl (decide (ns = ms))) H
section
variable {X : Cx} {C : Addr}
theorem op_eqW (M : EqW X.prog X.w X.K X.mg X.base C) {j : Nat} (hr : Room j X.A) (hj : 1 ≤ j) : OpR X (compareOp .Eq) (rEqW X.K C) := by
  intro pins s σ H x y u v Q I rx ry d
  obtain ⟨f, fd, F, hs, hf, hb⟩ := M.ex
  obtain ⟨a, b, ns, ms, rfl, rfl, W1, W2, hq⟩ := d
  cases rx
  cases ry
  obtain ⟨dx, tl, tk, ks, ha, _⟩ := id W1
  obtain ⟨dx', tl', tk', ks', hb', _⟩ := id W2
  obtain ⟨mA, J, _⟩ := ins_get I.hok ha
  obtain ⟨mB, J', _⟩ := ins_get I.hok hb'
  obtain ⟨od, J, _⟩ := J.look
  obtain ⟨od', J', _⟩ := J'.look
  obtain ⟨m, hF⟩ := I.fr
  have rm : Room 1 X.A := hr.mono hj
  show wpAny (model X.prog X.w) X.A (richCompare .Eq (.ref a) (.ref b)) (EP X pins σ Q) X.xe s
  refine PySem.W.cmp_K (op := .Eq) (tb := .ref C) rm.units0 hF I.ok.mod.kin J J'.type (by simp [PySem.W.notFirst]) hs hf ?_
  have hsp : spEq X.K C [.ref a, .ref b] H (fun v H' => ∃ c, v = .bl c ∧ Q (.bl c) H') E0 := ⟨a, b, ns, ms, rfl, W1, W2, _, rfl, hq⟩
  have e0 : Env0 X.prog X.w X.K X.mg X.base X.A X.stack s H := I.env0
  have hl := F.len _ _ _ _ hsp
  have r2 : Vals [V.ref a, V.ref b] [Value.ref a, Value.ref b] := .cons rfl (.cons rfl .nil)
  refine wpAny_call (codeAny_mono (F.run X.A X.stack s H ⟨[.ref a, .ref b], []⟩ [.ref a, .ref b] [.ref a, .ref b] _ E0 rm e0 (by
    have := hb s [.ref a, .ref b] I.kIn (by simpa using hl)
    simpa using this) r2 hsp) fun r s' hq => ?_)
  cases r with
  | error e => exact pass0 pins σ H s e s' I hq
  | ok fl =>
    cases fl with
    | ret w =>
      obtain ⟨z, H', I', rz, c, ez, q⟩ := I.after hq
      subst ez
      cases rz
      exact ⟨.bl c, H', I', rfl, q⟩
    | next => exact False.elim hq
    | brk => exact False.elim hq
    | cont => exact False.elim hq
end
end W06
set_option Elab.async false
set_option linter.all false
set_option maxRecDepth 100000
set_option maxHeartbeats 2000000
/-! x != y, of two instances whose class has an own == and no own !=. -/
namespace NeK
open PySem PySem.Spec PyProof.Rows PySem.SeqAt
section
variable {M : Model} {prog : Program} {w : World} {A : Around} {E : Value → Shared → Prop} {s : Shared} {K : PySem.W.Frag} {x y f C : Addr} {ox oy : Obj} {od od' : Option Obj}
theorem ne_entry (hu : A.units < cLine) (X : K.In s.heap) (I : PySem.W.InstAt s.heap x ox C od) (hs : PySem.W.findIn K (.ref C) "__eq__" = some (some (.ref f))) (hf : PySem.W.isFn K (.ref f) = true) {Q : Fin → Shared → Prop}
    (hcall : wpAny (model prog w) A (call (.ref f) [.ref x, .ref y]) (fun v s' => ∃ b, v = .bool b ∧ Q (.done (.ret (.bool (!b)))) s') E s) :
    wpAny (model prog w) A (Builtin.«object.__ne__» ⟨[.ref x, .ref y], []⟩) Q E s := by
  unfold Builtin.«object.__ne__»
  repeat (first
    | with_reducible refine wpAny_cRoomFor hu ?_
    | (refine wpAny_bind (m := callSpecialIfBound? (.ref x) (Str.ofString "__eq__") [.ref y])
        (PySem.W.ifBound_K X I hs hf (wpAny_mono hcall (fun r s' hr => by
          obtain ⟨b, rfl, hq⟩ := hr
          repeat (first | exact hq | exact wpAny_pure hq | exact wpAny_truthy_bool hq | (refine wpAny_bind (m := truthy (.bool _)) (wpAny_truthy_bool ?_)) | wp_step)) fun _ _ e => e)))
    | wp_step)
theorem ifBound_ne {args : List Value} {Q : Option Value → Shared → Prop} (X : K.In s.heap) (I : PySem.W.InstAt s.heap x ox C od) (hs : PySem.W.findIn K (.ref C) "__ne__" = some (some (.builtin "object.__ne__")))
    (h : wpAny M A (call (.builtin "object.__ne__") (.ref x :: args)) (fun v => Q (some v)) E s) : wpAny M A (callSpecialIfBound? (.ref x) "__ne__" args) Q E s := by
  simp only [callSpecialIfBound?, bindSpecialIfBound?]
  refine wpAny_holding (wpAny_bind (wpAny_bind (wpAny_bind (I.type.here ((PySem.W.looks_findIn X hs).here ?_)))))
  refine wpAny_bind (wpAny_askSetting (wpAny_ite ?_))
  have fin : wpAny M A (call (.builtin "object.__ne__") ([.ref x] ++ args) >>= fun v => pure (some v)) Q E s := wpAny_bind (wpAny_mono h (fun v s' h' => wpAny_pure h') fun _ _ h' => h')
  split
  · exact wpAny_bind (wpAny_of_eq (F.cmp_object.ne.bind _) (wpAny_pure (by exact fin)))
  · exact wpAny_tryCatch (wpAny_bind (wpAny_of_eq (F.cmp_object.ne.bind _) (wpAny_pure (by exact fin))))
theorem rc_ne (hu : A.units + 1 < cLine) (X : K.In s.heap) (I : PySem.W.InstAt s.heap x ox C od) (I' : PySem.W.InstAt s.heap y oy C od') (hm : PySem.W.mroIn K C (.type "object") = some true) (hs : PySem.W.findIn K (.ref C) "__eq__" = some (some (.ref f))) (hf : PySem.W.isFn K (.ref f) = true)
    (hn : PySem.W.findIn K (.ref C) "__ne__" = some (some (.builtin "object.__ne__"))) {Q : Value → Shared → Prop}
    (hcall : wpAny (model prog w) A.in1 (call (.ref f) [.ref x, .ref y]) (fun v s' => ∃ b, v = .bool b ∧ Q (.bool (!b)) s') E s) :
    wpAny (model prog w) A (richCompare .NotEq (.ref x) (.ref y)) Q E s := by
  have one : wpAny (model prog w) A (tryCompare (.ref x) "__ne__" (.ref y)) (fun r s' => ∃ b, r = some (.bool b) ∧ Q (.bool b) s') E s := by
    unfold tryCompare
    refine wpAny_bind (ifBound_ne X I hn (wpAny_call (codeAny_call_builtin F.cmp_object.ne.plain F.cmpEntry_ne (PySem.W.check_slot F.cmpKind_ne F.cmpSplit_ne (I.type.andThen (PySem.W.looks_mroIn X hm)) (F.cmpArgs_ne _ _)
      (ne_entry (A := A.in1) hu X I hs hf (wpAny_mono hcall (fun v s' hv => ?_) fun _ _ e => e))))))
    obtain ⟨b, rfl, hq⟩ := hv
    first | exact ⟨b, rfl, wpAny_pure ⟨_, rfl, hq⟩⟩ | exact ⟨b, rfl, wpAny_pure (wpAny_pure ⟨_, rfl, hq⟩)⟩ | exact ⟨b, rfl, _, rfl, hq⟩
  unfold richCompare
  simp only [oneThing_ref]
  refine wpAny_holding (wpAny_bind (wpAny_cRoomFor (Nat.lt_of_succ_lt hu) ?_))
  rw [cmpInfo_NotEq]
  dsimp only
  refine wpAny_bind (I.type.here (wpAny_bind (I'.type.here ?_)))
  rw [show (Value.ref C != Value.ref C) = false from by simp]
  simp only [Bool.false_eq_true, if_false]
  refine wpAny_bind (wpAny_pure ?_)
  simp only [Bool.false_eq_true, if_false]
  refine wpAny_bind (wpAny_mono one (fun v s' hv => ?_) fun _ _ e => e)
  obtain ⟨b, rfl, hq⟩ := hv
  first | exact wpAny_pure hq | exact wpAny_pure (wpAny_pure hq) | exact hq
end
end NeK
namespace W06
open PySem L2 PySem.Spec PyProof.Rows WR
def rNeW (K : PySem.W.Frag) (C : Addr) : R2 := fun x y H Q => ∃ (p q : Addr) (ns ms : List Int), x = .ref p ∧ y = .ref q ∧ WordAt K C H p ns ∧ WordAt K C H q ms ∧ Q (.bl (!decide (ns = ms))) H
section
variable {X : Cx} {C : Addr}
theorem op_neW (M : EqW X.prog X.w X.K X.mg X.base C) (hne : PySem.W.findIn X.K (.ref C) "__ne__" = some (some (.builtin "object.__ne__"))) (hmr : PySem.W.mroIn X.K C (.type "object") = some true) {j : Nat} (hr : Room j X.A) (hj : 2 ≤ j) : OpR X (compareOp .NotEq) (rNeW X.K C) := by
  intro pins s σ H x y u v Q I rx ry d
  obtain ⟨f, fd, F, hs, hf, hb⟩ := M.ex
  obtain ⟨a, b, ns, ms, rfl, rfl, W1, W2, hq⟩ := d
  cases rx
  cases ry
  obtain ⟨dx, tl, tk, ks, ha, _⟩ := id W1
  obtain ⟨dx', tl', tk', ks', hb', _⟩ := id W2
  obtain ⟨mA, J, _⟩ := ins_get I.hok ha
  obtain ⟨mB, J', _⟩ := ins_get I.hok hb'
  obtain ⟨od, J, _⟩ := J.look
  obtain ⟨od', J', _⟩ := J'.look
  have rm2 : Room 2 X.A := hr.mono hj
  have rm : Room 1 X.A.in1 := rm2.in1
  show wpAny (model X.prog X.w) X.A (richCompare .NotEq (.ref a) (.ref b)) (EP X pins σ Q) X.xe s
  refine NeK.rc_ne (by have := rm.units0; exact this) I.kIn J J' hmr hs hf hne ?_
  have hsp : spEq X.K C [.ref a, .ref b] H (fun v H' => ∃ c, v = .bl c ∧ Q (.bl (!c)) H') E0 := ⟨a, b, ns, ms, rfl, W1, W2, _, rfl, hq⟩
  have e0 : Env0 X.prog X.w X.K X.mg X.base X.A.in1 X.stack s H := by
    have e := I.env0
    exact ⟨e.frames, e.mod, e.bs, e.bsz, e.funs, e.frf, e.hok, e.bare⟩
  have hl := F.len _ _ _ _ hsp
  have r2 : Vals [V.ref a, V.ref b] [Value.ref a, Value.ref b] := .cons rfl (.cons rfl .nil)
  refine wpAny_call (codeAny_mono (F.run X.A.in1 X.stack s H ⟨[.ref a, .ref b], []⟩ [.ref a, .ref b] [.ref a, .ref b] _ E0 rm e0 (by
    have := hb s [.ref a, .ref b] I.kIn (by simpa using hl)
    simpa using this) r2 hsp) fun r s' hq => ?_)
  cases r with
  | error e => exact pass0 pins σ H s e s' I hq
  | ok fl =>
    cases fl with
    | ret w =>
      obtain ⟨z, H', I', rz, c, ez, q⟩ := I.after hq
      subst ez
      cases rz
      exact ⟨c, rfl, .bl (!c), H', I', rfl, q⟩
    | next => exact False.elim hq
    | brk => exact False.elim hq
    | cont => exact False.elim hq
end
end W06
set_option Elab.async false
set_option linter.all false
set_option maxRecDepth 100000
set_option maxHeartbeats 4000000
namespace W06
open PySem L2 PySem.Spec PyProof.Rows WR
abbrev sTurnedL : Stmt := top 11
abbrev sLeastS : Stmt := top 12
abbrev sTurnedM : Stmt := inClass (top 32) 7
abbrev sNeed2 : Stmt := top 34
abbrev sTurnTo : Stmt := top 35
abbrev sLeastT : Stmt := top 36
theorem cut_to {ns : List Int} {j : Nat} (h : j ≤ ns.length) : cutV (iv ns) none (some ((j : Nat) : Int)) = iv (ns.take j) := by
  unfold cutV
  rw [HT.sIx_none, HT.sIx_nat, List.drop_zero, Nat.sub_zero, List.length_map, Nat.min_eq_left h, ← List.map_take]
theorem cut_from {ns : List Int} {j : Nat} (h : j ≤ ns.length) : cutV (iv ns) (some ((j : Nat) : Int)) none = iv (ns.drop j) := by
  unfold cutV
  rw [HT.sIx_none, HT.sIx_nat, List.length_map, Nat.min_eq_left h, ← List.map_drop, List.take_of_length_le (by simp)]
/-- turned, as the document says: the empty row stays -/
def trn (ns : List Int) (by_ : Int) : List Int := if ns = [] then [] else Lt.rot ns (by_ % (ns.length : Int)).toNat
theorem trn_length (ns : List Int) (b : Int) : (trn ns b).length = ns.length := by
  unfold trn
  split
  · rename_i h; rw [h]
  · exact Lt.rot_length _ _
theorem trn_nat {ns : List Int} {j : Nat} (h : j < max 1 ns.length) : trn ns (j : Int) = Lt.rot ns j := by
  unfold trn
  split
  · rename_i h0
    subst h0
    unfold Lt.rot
    simp
  · rename_i h0
    have : 0 < ns.length := List.length_pos_iff.mpr h0
    have e : ((j : Int) % (ns.length : Int)) = ((j : Nat) : Int) := by
      have h3 : j < ns.length := by omega
      exact Int.emod_eq_of_lt (by omega) (by omega)
    rw [e, Int.toNat_natCast]
theorem Lts.trn {ns : List Int} (h : Lts ns) (b : Int) : Lts (W06.trn ns b) := by
  unfold W06.trn
  split
  · exact fun _ h => nomatch h
  · exact fun x hx => h x (Lt.rot_mem hx)
theorem at_rd {ns : List Int} (h0 : 0 < ns.length) {n : Nat} (hn : ns.length = n) (p q : Nat) : atI (iv ns) (((p : Int) + (q : Int)) % (n : Int)) = some (V.int (Lt.rd ns (p + q))) := by
  subst hn
  have e : ((p : Int) + (q : Int)) % (ns.length : Int) = (((p + q) % ns.length : Nat) : Int) := by
    rw [Int.natCast_emod]
    rfl
  have hl : (p + q) % ns.length < ns.length := Nat.mod_lt _ h0
  rw [e]
  refine atI_nat (iv_get ?_)
  unfold Lt.rd
  rw [List.getD_eq_getElem?_getD, List.getElem?_eq_getElem hl]
  rfl
def spTurnedL (K : PySem.W.Frag) : Sp := fun vs H Q _ => ∃ (a : Addr) (b : Int) (ns : List Int), vs = [.ref a, .int b] ∧ SqT K H a (iv ns) ∧ ns.length ≤ 1000 ∧ NewT K H Q (iv (trn ns b))
def spLeastS (K : PySem.W.Frag) : Sp := fun vs H Q _ => ∃ (a : Addr) (ns : List Int), vs = [.ref a] ∧ SqT K H a (iv ns) ∧ ns.length ≤ 1000 ∧ ∀ j : Nat, j < max 1 ns.length → Lt.Least ns (Lt.rot ns j) → ∀ H', Same H H' → Q (.int (j : Int)) H'
section
variable {P : Program} {w : World} {K : PySem.W.Frag} {mg : Str → Option Value} {base : Heap}
theorem scTurnedL : FnScope ["letters", "by", "start"] ["letters", "by"] (defScope sTurnedL) := ⟨rfl, rfl, rfl, by decide +kernel, rfl, by decide +kernel, by decide +kernel⟩
theorem ok_turnedL {f : Addr} {fd : FuncData} (F : Fun K "turned_letters" "turned_letters" sTurnedL f fd) (T : TxA mg) : FnOk P w K mg base CX0 1 f fd ["letters", "by"] (spTurnedL K) := by
  refine F.ok scTurnedL (fun vs H Q E h => ?_) (fun cdv A outer s H vs Q E hr h => ?_)
  · obtain ⟨a, b, ns, rfl, _⟩ := h
    rfl
  · obtain ⟨a, b, ns, rfl, hS, hlen, k⟩ := h
    refine ⟨_, pss_cons (ps_if (pt_not (pt_truth (pv 0) (by intro _; rfl))) (pss_one (ps_ret (pe_tup pa_nil))) pss_nil)
      (pss_cons (ps_set (i := 2) scTurnedL.nd rfl (Or.inl rfl) (pe_op op_mod (pv 1) (pe_callB call_len_seq (by rfl) T.len PySem.boot_len (pa_cons (pv 0) pa_nil))))
      (pss_one (ps_ret (pe_op op_catU (pe_slice sl_tupU (pv 0) (po_some (pv 2)) po_none) (pe_slice sl_tupU (pv 0) po_none (po_some (pv 2))))))), ?_⟩
    refine ⟨_, rfl, _, .inr (.inl ⟨_, hS, rfl⟩), ?_⟩
    by_cases h0 : ns = []
    · subst h0
      refine iteT' (by rfl) ?_
      refine ⟨Nat.zero_le _, fun t ht => k t _ (same_upd ht) (SqT.of upd_same)⟩
    · refine iteF' (by
        cases ns with
        | nil => exact absurd rfl h0
        | cons x t => rfl) ?_
      have hp : 0 < ns.length := List.length_pos_iff.mpr h0
      refine ⟨_, rfl, _, rfl, a, _, rfl, .inr hS, _, _, rfl, rfl, by rw [List.length_map]; omega, ?_⟩
      have e0 : 0 ≤ b % (ns.length : Int) := Int.emod_nonneg _ (by omega)
      have e1 : b % (ns.length : Int) < (ns.length : Int) := Int.emod_lt_of_pos _ (by omega)
      obtain ⟨j, hj⟩ : ∃ j : Nat, b % (ns.length : Int) = (j : Int) := ⟨(b % (ns.length : Int)).toNat, by omega⟩
      have eL : b % (((iv ns).length : Nat) : Int) = (j : Int) := by rw [List.length_map]; exact hj
      dsimp only
      rw [eL]
      have et : trn ns b = ns.drop j ++ ns.take j := by
        unfold trn Lt.rot
        rw [if_neg h0, hj, Int.toNat_natCast]
      refine ⟨_, rfl, _, rfl, _, rfl, a, _, rfl, hS, fun p1 H1 s1 h1 => ?_⟩
      rw [cut_from (by omega)] at h1
      refine ⟨_, rfl, _, rfl, _, rfl, a, _, rfl, WR.Same.seqT s1 hS, fun p2 H2 s2 h2 => ?_⟩
      rw [cut_to (by omega)] at h2
      refine ⟨p1, p2, _, _, rfl, rfl, WR.Same.seqT s2 h1, h2, Evl.sz_of (by simp only [List.length_map, List.length_drop, List.length_take]; omega), fun p3 H3 s3 h3 => ?_⟩
      refine k p3 H3 ((s1.trans s2).trans s3) ?_
      rw [et]
      have h3' : SqT K H3 p3 (iv (ns.drop j) ++ iv (ns.take j)) := h3
      simpa [iv] using h3'
theorem scLeastS : FnScope ["values", "many", "one", "other", "alike", "here", "there"] ["values"] (defScope sLeastS) := ⟨rfl, rfl, rfl, by decide +kernel, rfl, by decide +kernel, by decide +kernel⟩
theorem ok_leastS {f : Addr} {fd : FuncData} (F : Fun K "least_start" "least_start" sLeastS f fd) (T : TxA mg) (hmin : mg "min" = none) : FnOk P w K mg base CX0 1 f fd ["values"] (spLeastS K) := by
  refine F.ok scLeastS (fun vs H Q E h => ?_) (fun cdv A outer s H vs Q E hr h => ?_)
  · obtain ⟨a, ns, rfl, _⟩ := h
    rfl
  · obtain ⟨a, ns, rfl, hS, hlen, k⟩ := h
    refine ⟨_, pss_cons (ps_set (i := 1) scLeastS.nd rfl (Or.inl rfl) (pe_callB call_len_seq (by rfl) T.len PySem.boot_len (pa_cons (pv 0) pa_nil)))
      (pss_cons (ps_asg (pe_tup (pa_cons pe_int (pa_cons pe_int (pa_cons pe_int pa_nil)))) (pg_tup (n := 3) rfl (pgs_cons (pg_name (i := 2) scLeastS.nd rfl (Or.inl rfl)) (pgs_cons (pg_name (i := 3) scLeastS.nd rfl (Or.inl rfl)) (pgs_cons (pg_name (i := 4) scLeastS.nd rfl (Or.inl rfl)) pgs_nil)))))
      (pss_cons (ps_while PassesOwn.never (PW.pt (pw_and (pt_cmpR op_lt (pv 2) (pv 1) (nomark _)) (pw_and (pt_cmpR op_lt (pv 3) (pv 1) (nomark _)) (pw_and1 (pt_cmpR op_lt (pv 4) (pv 1) (nomark _))))))
        (pss_cons (ps_par (i := 5) (j := 6) (by rfl) scLeastS.nd rfl rfl (by decide) rfl rfl (pa_cons (pe_ix ix_tup (pv 0) (pe_op op_mod (pe_op op_add (pv 2) (pv 4)) (pv 1)) (fun _ _ => rfl)) (pa_cons (pe_ix ix_tup (pv 0) (pe_op op_mod (pe_op op_add (pv 3) (pv 4)) (pv 1)) (fun _ _ => rfl)) pa_nil)) (by rfl))
        (pss_cons (ps_if (pt_cmpR op_eq (pv 5) (pv 6) (nomark _)) (pss_cons (ps_aug (i := 4) scLeastS.nd rfl (Or.inl rfl) pe_int ip_add) (pss_one ps_continue)) pss_nil)
        (Evl.pss_cut (ps_if (pt_cmpR op_gt (pv 5) (pv 6) (nomark _)) (pss_one (ps_aug (i := 2) scLeastS.nd rfl (Or.inl rfl) (pe_op op_add (pv 4) pe_int) ip_add)) (pss_one (ps_aug (i := 3) scLeastS.nd rfl (Or.inl rfl) (pe_op op_add (pv 4) pe_int) ip_add)))
        (Evl.pss_cut (ps_if (pt_cmpR op_eq (pv 2) (pv 3) (nomark _)) (pss_one (ps_aug (i := 3) scLeastS.nd rfl (Or.inl rfl) pe_int ip_add)) pss_nil)
        (pss_one (ps_set (i := 4) scLeastS.nd rfl (Or.inl rfl) pe_int)))))))
      (pss_one (ps_ret (pe_callB (call_min2 rfl) (by rfl) hmin (by decide +kernel) (pa_cons (pv 2) (pa_cons (pv 3) pa_nil))))))), ?_⟩
    refine ⟨_, rfl, a, _, rfl, .inr hS, ?_⟩
    obtain ⟨n, hn⟩ : ∃ n : Nat, ns.length = n := ⟨_, rfl⟩
    have hL : (iv ns).length = n := by rw [List.length_map]; exact hn
    dsimp only
    rw [hL]
    refine ⟨(by show 3 ≤ sizeLine; decide), fun t0 ht0 => ?_⟩
    have st0 := same_upd (o := .tup [.int 0, .int 1, .int 0]) ht0
    have hT0 : SqT K (L2.upd H t0 (.tup [.int 0, .int 1, .int 0])) t0 [.int 0, .int 1, .int 0] := SqT.of upd_same
    obtain ⟨H0, e0⟩ : ∃ H0, H0 = L2.upd H t0 (.tup [.int 0, .int 1, .int 0]) := ⟨_, rfl⟩
    rw [← e0] at st0 hT0 ⊢
    have hS := WR.Same.seqT st0 hS
    refine ⟨t0, _, rfl, hT0, rfl, _, _, rfl, _, _, rfl, _, _, rfl, rfl, ?_⟩
    refine ⟨fun m σ H' => ∃ (one other alike : Nat) (v5 v6 : Option V), m = 3 * n + 5 - (one + other + alike) ∧ one + other + alike ≤ 3 * n + 4 ∧ Lt.Race (Lt.rd ns) n one other alike ∧ (n = 0 → one = 0) ∧ σ = [some (.ref a), some (.int (n : Int)), some (.int (one : Int)), some (.int (other : Int)), some (.int (alike : Int)), v5, v6] ∧ H' = H0,
      ⟨_, 0, 1, 0, none, none, rfl, by omega, Lt.Race.start _ _, fun _ => rfl, rfl, rfl⟩, ?_⟩
    rintro m σ H' ⟨one, other, alike, v5, v6, rfl, hs, R, hz, rfl, rfl⟩
    have fin : ¬ (one < n ∧ other < n ∧ alike < n) → Q (.int (if (other : Int) < (one : Int) then (other : Int) else (one : Int))) H' := by
      intro hend
      have em : (if (other : Int) < (one : Int) then (other : Int) else (one : Int)) = ((min one other : Nat) : Int) := by
        split <;> omega
      rw [em]
      by_cases h0 : 0 < n
      · have per : ∀ s, Lt.rd ns (s + n) = Lt.rd ns s := by rw [← hn]; exact Lt.rd_per ns
        obtain ⟨f1, f2⟩ := R.fin per h0 hend
        refine k _ (by omega) ⟨_, by omega, rfl, ?_⟩ _ st0
        rw [hn]
        exact f2
      · have e1 := hz (by omega)
        have e2 : min one other = 0 := by omega
        rw [e2]
        exact k 0 (by omega) ⟨0, by omega, rfl, fun q hq => by omega⟩ _ st0
    have out : ¬ (one < n ∧ other < n ∧ alike < n) → ∃ i j, ([V.int (one : Int), V.int (other : Int)] : List V) = [.int i, .int j] ∧ Q (.int (if j < i then j else i)) H' := fun h => ⟨_, _, rfl, fin h⟩
    refine ⟨_, rfl, _, rfl, _, _, rfl, rfl, _, rfl, ?_⟩
    refine ite2 (fun h1 => ?_) (fun h1 => ?_)
    · have l1 : one < n := by have := of_decide_eq_true h1; omega
      refine ⟨_, rfl, _, rfl, _, _, rfl, rfl, _, rfl, ?_⟩
      refine ite2 (fun h2 => ?_) (fun h2 => ?_)
      · have l2 : other < n := by have := of_decide_eq_true h2; omega
        refine ⟨_, rfl, _, rfl, _, _, rfl, rfl, _, rfl, ?_⟩
        refine ite2 (fun h3 => ?_) (fun h3 => ?_)
        · have l3 : alike < n := by have := of_decide_eq_true h3; omega
          have h0 : 0 < ns.length := by omega
          refine ⟨fun σ' H'' => ∃ (one' other' alike' : Nat) (v5 v6 : Option V), one + other + alike < one' + other' + alike' ∧ one' + other' + alike' ≤ 3 * n + 4 ∧ Lt.Race (Lt.rd ns) n one' other' alike' ∧ σ' = [some (.ref a), some (.int (n : Int)), some (.int (one' : Int)), some (.int (other' : Int)), some (.int (alike' : Int)), v5, v6] ∧ H'' = H',
            fun σ' H'' ⟨o1, o2, o3, v5, v6, q1, q2, q3, q4, q5⟩ => ⟨_, by omega, o1, o2, o3, v5, v6, rfl, q2, q3, fun h => by omega, q4, q5⟩, ?_⟩
          refine ⟨_, rfl, _, rfl, _, rfl, _, _, rfl, rfl, _, rfl, _, _, rfl, rfl, by omega, a, _, _, _, rfl, rfl, hS, at_rd h0 hn one alike, ?_⟩
          refine ⟨_, rfl, _, rfl, _, rfl, _, _, rfl, rfl, _, rfl, _, _, rfl, rfl, by omega, a, _, _, _, rfl, rfl, hS, at_rd h0 hn other alike, _, _, rfl, ?_⟩
          refine ⟨_, rfl, _, rfl, rfl, _, rfl, ?_⟩
          refine ite2 (fun he => ?_) (fun he => ?_)
          · have e : Lt.rd ns (one + alike) = Lt.rd ns (other + alike) := by
              have := of_decide_eq_true he
              injection this
            refine ⟨_, rfl, _, _, rfl, rfl, ?_⟩
            exact ⟨one, other, alike + 1, _, _, by omega, by omega, R.more l3 e, rfl, rfl⟩
          · have ne : Lt.rd ns (one + alike) ≠ Lt.rd ns (other + alike) := fun e => he (decide_eq_true (by rw [e]))
            refine ⟨fun σ' H'' => ∃ (one' other' : Nat), (one + other + alike < one' + other' ∧ one' + other' ≤ one + other + alike + 1) ∧ Lt.Race (Lt.rd ns) n one' (if one' = other' then other' + 1 else other') 0 ∧ σ' = [some (.ref a), some (.int (n : Int)), some (.int (one' : Int)), some (.int (other' : Int)), some (.int (alike : Int)), some (.int (Lt.rd ns (one + alike))), some (.int (Lt.rd ns (other + alike)))] ∧ H'' = H', ?_, ?_⟩
            · refine ⟨_, rfl, _, rfl, _, _, rfl, rfl, _, rfl, ?_⟩
              refine ite2 (fun hg => ?_) (fun hg => ?_)
              · have l : Lt.rd ns (other + alike) < Lt.rd ns (one + alike) := by have := of_decide_eq_true hg; omega
                refine ⟨_, rfl, _, rfl, _, _, rfl, rfl, _, _, rfl, rfl, ?_⟩
                exact ⟨one + (alike + 1), other, by omega, R.one l3 l, rfl, rfl⟩
              · have l : Lt.rd ns (one + alike) < Lt.rd ns (other + alike) := by
                  have : ¬ (Lt.rd ns (other + alike) < Lt.rd ns (one + alike)) := fun q => hg (decide_eq_true (by omega))
                  omega
                refine ⟨_, rfl, _, rfl, _, _, rfl, rfl, _, _, rfl, rfl, ?_⟩
                exact ⟨one, other + (alike + 1), by omega, R.other l3 l, rfl, rfl⟩
            · rintro σ' H'' ⟨one', other', hb, R', rfl, rfl⟩
              refine ⟨fun σ' H3 => ∃ (other2 : Nat), (other' ≤ other2 ∧ other2 ≤ other' + 1) ∧ Lt.Race (Lt.rd ns) n one' other2 0 ∧ σ' = [some (.ref a), some (.int (n : Int)), some (.int (one' : Int)), some (.int (other2 : Int)), some (.int (alike : Int)), some (.int (Lt.rd ns (one + alike))), some (.int (Lt.rd ns (other + alike)))] ∧ H3 = H'', ?_, ?_⟩
              · refine ⟨_, rfl, _, rfl, rfl, _, rfl, ?_⟩
                refine ite2 (fun he => ?_) (fun he => ?_)
                · have e : one' = other' := by
                    have := of_decide_eq_true he
                    injection this with this
                    omega
                  rw [if_pos e] at R'
                  refine ⟨_, rfl, _, _, rfl, rfl, ?_⟩
                  exact ⟨other' + 1, by omega, R', rfl, rfl⟩
                · have e : ¬ one' = other' := fun e => he (decide_eq_true (by rw [e]))
                  rw [if_neg e] at R'
                  exact ⟨other', by omega, R', rfl, rfl⟩
              · rintro σ' H'' ⟨other2, hb2, R2, rfl, rfl⟩
                exact ⟨one', other2, 0, _, _, by omega, by omega, R2, rfl, rfl⟩
        · exact ⟨_, rfl, _, rfl, out fun h => h3 (decide_eq_true (by omega))⟩
      · exact ⟨_, rfl, _, rfl, out fun h => h2 (decide_eq_true (by omega))⟩
    · exact ⟨_, rfl, _, rfl, out fun h => h1 (decide_eq_true (by omega))⟩
end
end W06
set_option Elab.async false
set_option linter.all false
set_option maxRecDepth 100000
set_option maxHeartbeats 2000000
namespace W06
open PySem L2 PySem.Spec PyProof.Rows WR
abbrev sPick : Stmt := top 40
abbrev sLetters : Stmt := top 41
def Drew (a c : Addr) (n : Nat) (H H' : Hp) : Prop := HandAt H' a c n ∧ Kept a H H'
theorem HandAt.mono {H : Hp} {a c : Addr} {m n : Nat} (h : HandAt H a c m) (l : m ≤ n) : HandAt H a c n := by
  obtain ⟨ns, i, r, h1, h2, h3, h4, h5, h6, h7⟩ := h
  exact ⟨ns, i, r, h1, h2, h3, h4, h5, by omega, h7⟩
theorem HandAt.off {H : Hp} {a c p : Addr} {n : Nat} {o : HO} (h : HandAt H a c n) (h1 : p ≠ a) (h2 : p ≠ c) : HandAt (L2.upd H p o) a c n := by
  obtain ⟨ns, i, r, h3, h4, h5⟩ := h
  exact ⟨ns, i, r, by rw [upd_ne h1.symm]; exact h3, by rw [upd_ne h2.symm]; exact h4, h5⟩
theorem HandAt.ne {H : Hp} {a c p : Addr} {n : Nat} (h : HandAt H a c n) (hp : H p = none) : p ≠ a := by
  obtain ⟨ns, i, r, h1, _⟩ := h
  exact (ne_of_none h1 hp).symm
theorem HandAt.neC {H : Hp} {a c p : Addr} {n : Nat} (h : HandAt H a c n) (hp : H p = none) : p ≠ c := by
  obtain ⟨ns, i, r, h1, h2, _⟩ := h
  exact (ne_of_none h2 hp).symm
theorem HandAt.new {H : Hp} {a c p : Addr} {n : Nat} {o : HO} (h : HandAt H a c n) (hp : H p = none) : HandAt (L2.upd H p o) a c n := h.off (h.ne hp) (h.neC hp)
theorem Drew.refl {a c : Addr} {n : Nat} {H : Hp} (h : HandAt H a c n) : Drew a c n H H := ⟨h, Kept.refl⟩
theorem Drew.trans {a c : Addr} {m n : Nat} {H H1 H2 : Hp} (h1 : Drew a c m H H1) (h2 : Drew a c n H1 H2) : Drew a c n H H2 := ⟨h2.1, h1.2.trans h2.2⟩
theorem Drew.new {a c p : Addr} {n : Nat} {H H1 : Hp} {o : HO} (h : Drew a c n H H1) (hp : H1 p = none) : Drew a c n H (L2.upd H1 p o) := ⟨h.1.new hp, h.2.new hp⟩
theorem Drew.mono {a c : Addr} {m n : Nat} {H H1 : Hp} (h : Drew a c m H H1) (l : m ≤ n) : Drew a c n H H1 := ⟨h.1.mono l, h.2⟩
/-- an object that was not there at first may change -/
theorem Drew.put {a c p : Addr} {n : Nat} {H H1 : Hp} {o : HO} (h : Drew a c n H H1) (h0 : H p = none) (h1 : p ≠ a) (h2 : p ≠ c) : Drew a c n H (L2.upd H1 p o) :=
  ⟨h.1.off h1 h2, fun b u nb e => by rw [upd_ne (ne_of_none e h0)]; exact h.2 b u nb e⟩
theorem Drew.back {a c p : Addr} {n : Nat} {H H1 : Hp} (h : Drew a c n H H1) (hp : H1 p = none) : H p = none := by
  cases e : H p with
  | none => rfl
  | some o =>
    have q := h.2 p o (h.1.ne hp) e
    rw [hp] at q
    cases q
theorem HandAt.same {H H' : Hp} {a c : Addr} {n : Nat} (h : HandAt H a c n) (s : Same H H') : HandAt H' a c n := by
  obtain ⟨ns, i, r, h1, h2, h3⟩ := h
  exact ⟨ns, i, r, s _ _ h1, s _ _ h2, h3⟩
theorem Drew.same {a c : Addr} {n : Nat} {H H1 H2 : Hp} (h : Drew a c n H H1) (s : Same H1 H2) : Drew a c n H H2 := ⟨h.1.same s, fun b o nb e => s b o (h.2 b o nb e)⟩
/-- a new list of these ints -/
def NewL (H : Hp) (Q : VK) (ns : List Int) : Prop := ∀ p H', H p = none → Same H H' → H' p = some (.lst (iv ns)) → Q (.ref p) H'
def spPick : Sp := fun vs H Q _ => ∃ (a c p : Addr) (xs : List V) (n : Nat), vs = [.ref a, .ref p] ∧ HandAt H a c n ∧ n ≤ 10000 ∧ p ≠ a ∧ H p = some (.lst xs) ∧ 0 < xs.length ∧ xs.length ≤ 1000 ∧ ∀ v ∈ xs, ∀ H', Drew a c (n + 1) H H' → Q v H'
def spLetters : Sp := fun vs H Q _ => ∃ (a c : Addr) (m k n : Nat), vs = [.ref a, .int (m : Int), .int (k : Int)] ∧ HandAt H a c n ∧ m ≤ 600 ∧ n + 2 * m ≤ 9000 ∧ 1 ≤ k ∧ k ≤ 26 ∧
  ∀ p H' ls, H p = none → Drew a c (n + 2 * m) H H' → H' p = some (.lst (iv ls)) → ls.length = m → (∀ x ∈ ls, 1 ≤ x.natAbs ∧ x.natAbs ≤ k) → Q (.ref p) H'
structure TxN (mg : Str → Option Value) : Prop where
  range : mg "range" = none
  list : mg "list" = none
theorem Drew.ofNew {a c p : Addr} {n : Nat} {H H' : Hp} (d : Drew a c n H H') (h0 : HandAt H a c n) {o : HO} (hp : H p = some o) (hn : p ≠ a) : H' p = some o := d.2 _ _ hn hp
section
variable {P : Program} {w : World} {K : PySem.W.Frag} {mg : Str → Option Value} {base : Heap}
theorem scPick : FnScope ["_law_jar_here", "_law_some"] ["_law_jar_here", "_law_some"] (defScope sPick) := ⟨rfl, rfl, rfl, by decide +kernel, rfl, by decide +kernel, by decide +kernel⟩
theorem ok_pick {f : Addr} {fd : FuncData} (F : Fun K "_law_pick" "_law_pick" sPick f fd) (GT : Cal P w K mg base "_law_draw" 1 ["_law_jar_here", "_law_many"] spTake) (T : TxL mg) : FnOk P w K mg base CX0 2 f fd ["_law_jar_here", "_law_some"] spPick := by
  refine F.ok scPick (fun vs H Q E h => ?_) (fun cdv A outer s H vs Q E hr h => ?_)
  · obtain ⟨a, c, p, xs, n, rfl, _⟩ := h
    rfl
  · obtain ⟨a, c, p, xs, n, rfl, hH, hn, hpa, hp, h0, h1, k⟩ := h
    refine ⟨_, pss_one (ps_ret (pe_ix ix_list (pv 1) (pe_cal GT hr (by decide) (by rfl) (pa_cons (pv 0) (pa_cons (pe_callB call_len_seq (by rfl) T.len PySem.boot_len (pa_cons (pv 1) pa_nil)) pa_nil))) (fun _ _ => rfl))), ?_⟩
    refine ⟨_, rfl, _, rfl, _, rfl, p, _, rfl, .inl (SqL.of hp), a, c, _, n, rfl, hH, hn, by omega, ?_, ?_⟩
    · have : (((xs.length : Nat) : Int)).natAbs ≤ 1000 := by omega
      exact Nat.lt_of_le_of_lt this (by decide)
    · intro H' q q0 q1 hH' hK
      obtain ⟨j, rfl⟩ : ∃ j : Nat, q = (j : Int) := ⟨q.toNat, by omega⟩
      have hj : j < xs.length := by omega
      refine ⟨p, xs, _, xs[j], rfl, rfl, SqL.of (hK _ _ hpa hp), atI_nat (List.getElem?_eq_getElem hj), ?_⟩
      exact k _ (List.getElem_mem hj) H' ⟨hH', hK⟩
theorem int_eq {x y : Int} : decide (V.int x = V.int y) = decide (x = y) := by
  rw [Bool.eq_iff_iff, decide_eq_true_iff, decide_eq_true_iff]
  exact ⟨fun e => by injection e, fun e => by rw [e]⟩
abbrev nLetters : List Str := ["_law_jar_here", "_law_many", "_law_kinds", "_law_found", "_law_turn", "_law_kind"]
theorem scLetters : FnScope nLetters ["_law_jar_here", "_law_many", "_law_kinds"] (defScope sLetters) := ⟨rfl, rfl, rfl, by decide +kernel, rfl, by decide +kernel, by decide +kernel⟩
theorem ok_letters {f : Addr} {fd : FuncData} (F : Fun K "_law_letters" "_law_letters" sLetters f fd) (GT : Cal P w K mg base "_law_draw" 1 ["_law_jar_here", "_law_many"] spTake) (T : TxN mg) : FnOk P w K mg base CX0 2 f fd ["_law_jar_here", "_law_many", "_law_kinds"] spLetters := by
  refine F.ok scLetters (fun vs H Q E h => ?_) (fun cdv A outer s H vs Q E hr h => ?_)
  · obtain ⟨a, c, m, k, n, rfl, _⟩ := h
    rfl
  · obtain ⟨a, c, m, k, n, rfl, hH, hm, hn, k1, k26, kq⟩ := h
    refine ⟨_, pss_cons (ps_set (i := 3) scLetters.nd rfl (Or.inl rfl) (pe_lst pa_nil))
      (pss_cons (ps_for PassesOwn.never rfl (pi_range1 (by rfl) T.range (pa_cons (pv 1) pa_nil)) (pg_name (i := 4) scLetters.nd rfl (Or.inl rfl))
        (pss_cons (ps_set (i := 5) scLetters.nd rfl (Or.inl rfl) (pe_op op_add pe_int (pe_cal GT hr (by decide) (by rfl) (pa_cons (pv 0) (pa_cons (pv 2) pa_nil)))))
        (pss_one (ps_expr (pe_bm PySem.F.plainAttrs_list PySem.F.slot_list_append PySem.F.type_list_append mt_append (pv 3) (pa_cons (pe_ifExp (pt_cmpR op_eq (pe_cal GT hr (by decide) (by rfl) (pa_cons (pv 0) (pa_cons pe_int pa_nil))) pe_int (nomark _)) (pv 5) (pe_un un_neg (pv 5))) pa_nil))))))
      (pss_one (ps_ret (pv 3)))), ?_⟩
    refine ⟨Nat.zero_le _, fun l hl => ?_⟩
    have hla := hH.ne hl
    have hlc := hH.neC hl
    refine ⟨_, rfl, m, rfl, by omega, by omega, ?_⟩
    have em : (((m : Nat) : Int)).toNat = m := Int.toNat_natCast m
    refine for_range (lo := 0) (n := (((m : Nat) : Int)).toNat) (fun i σ H' => ∃ v1 v2 ls, σ = [some (.ref a), some (.int (m : Int)), some (.int (k : Int)), some (.ref l), v1, v2] ∧ Drew a c (n + 2 * i) H H' ∧ H' l = some (.lst (iv ls)) ∧ ls.length = i ∧ ∀ x ∈ ls, 1 ≤ x.natAbs ∧ x.natAbs ≤ k)
      ⟨none, none, [], rfl, (Drew.refl hH).new hl, by rw [upd_same]; rfl, rfl, fun _ h => nomatch h⟩ ?_ ?_
    · rintro i σ H1 hi ⟨v1, v2, ls, rfl, d1, hL, hlen, hk⟩
      rw [em] at hi
      refine ⟨_, rfl, _, rfl, a, c, _, n + 2 * i, rfl, d1.1, by omega, by omega, by omega, fun H2 q q0 q1 hH2 hK2 => ?_⟩
      have d2 : Drew a c (n + 2 * i + 1) H H2 := ⟨hH2, d1.2.trans hK2⟩
      have hL2 := hK2 _ _ hla hL
      refine ⟨_, _, rfl, rfl, ?_⟩
      refine ⟨_, rfl, .inl ⟨rfl, _, SqL.of hL2⟩, _, rfl, a, c, 2, n + 2 * i + 1, rfl, hH2, by omega, by decide, by decide, fun H3 q' q0' q1' hH3 hK3 => ?_⟩
      have d3 : Drew a c (n + 2 * i + 1 + 1) H H3 := ⟨hH3, d2.2.trans hK3⟩
      have hL3 := hK3 _ _ hla hL2
      have fin : ∀ z : Int, z.natAbs = (1 + q).natAbs → ∃ v1 v2 ls', [some (V.ref a), some (.int (m : Int)), some (.int (k : Int)), some (.ref l), some (.int (0 + (i : Nat))), some (.int (1 + q))] = [some (.ref a), some (.int (m : Int)), some (.int (k : Int)), some (.ref l), v1, v2] ∧ Drew a c (n + 2 * (i + 1)) H (L2.upd H3 l (.lst (iv ls ++ [.int z]))) ∧ L2.upd H3 l (.lst (iv ls ++ [.int z])) l = some (.lst (iv ls')) ∧ ls'.length = i + 1 ∧ ∀ x ∈ ls', 1 ≤ x.natAbs ∧ x.natAbs ≤ k := by
        intro z hz
        refine ⟨_, _, ls ++ [z], rfl, d3.put hl hla hlc, by rw [upd_same]; simp [iv], by simp [hlen], fun x hx => ?_⟩
        rcases List.mem_append.mp hx with h | h
        · exact hk x h
        · rw [List.mem_singleton.mp h, hz]
          omega
      refine ⟨rfl, _, rfl, ?_⟩
      refine ite2 (fun _ => ?_) (fun _ => ?_)
      · exact ⟨_, rfl, l, _, _, rfl, rfl, hL3, Evl.sz_lt (by simp; omega), fin _ rfl⟩
      · exact ⟨_, rfl, _, rfl, l, _, _, rfl, rfl, hL3, Evl.sz_lt (by simp; omega), fin _ (Int.natAbs_neg _)⟩
    · rintro σ H1 ⟨v1, v2, ls, rfl, d1, hL, hlen, hk⟩
      rw [em] at d1 hlen
      exact ⟨_, rfl, kq l H1 ls hl d1 hL hlen hk⟩
end
end W06
set_option Elab.async false
set_option linter.all false
set_option maxRecDepth 100000
set_option maxHeartbeats 4000000
namespace W06
open PySem L2 PySem.Spec PyProof.Rows WR
def spTurned (K : PySem.W.Frag) (C : Addr) : Sp := fun vs H Q _ => ∃ (p : Addr) (b : Int) (ns : List Int), vs = [.ref p, .int b] ∧ WordAt K C H p ns ∧ ns.length ≤ 500 ∧ Lts ns ∧ NewW K C H Q (trn ns b)
def spNeed2 (K : PySem.W.Frag) (C : Addr) : Sp := fun vs H Q _ => ∃ (p q : Addr) (ns ms : List Int), vs = [.ref p, .ref q] ∧ WordAt K C H p ns ∧ WordAt K C H q ms ∧ Q .non H
/-- the least turn, None if there is none -/
def firstT (ns ms : List Int) : Option Nat := (List.range (max 1 ns.length)).find? fun j => decide (Lt.rot ns j = ms)
def asV : Option Nat → V
  | some j => .int (j : Int)
  | none => .non
def spTurnTo (K : PySem.W.Frag) (C : Addr) : Sp := fun vs H Q _ => ∃ (p q : Addr) (ns ms : List Int), vs = [.ref p, .ref q] ∧ WordAt K C H p ns ∧ WordAt K C H q ms ∧ ns.length ≤ 500 ∧ ∀ H', Same H H' → Q (asV (firstT ns ms)) H'
def spLeastT (K : PySem.W.Frag) (C : Addr) : Sp := fun vs H Q _ => ∃ (p : Addr) (ns : List Int), vs = [.ref p] ∧ WordAt K C H p ns ∧ ns.length ≤ 500 ∧ Lts ns ∧ ∀ ms, Lt.Least ns ms → NewW K C H Q ms
theorem first_some {ns ms : List Int} {j : Nat} (hj : j < max 1 ns.length) (e : Lt.rot ns j = ms) (h : ∀ i, i < j → Lt.rot ns i ≠ ms) : firstT ns ms = some j := by
  unfold firstT
  rw [List.find?_eq_some_iff_getElem]
  refine ⟨decide_eq_true e, j, by rw [List.length_range]; exact hj, by simp, fun i hi => ?_⟩
  rw [List.getElem_range]
  simpa using h i hi
theorem first_none {ns ms : List Int} (h : ∀ i, i < max 1 ns.length → Lt.rot ns i ≠ ms) : firstT ns ms = none := by
  unfold firstT
  rw [List.find?_eq_none]
  intro i hi
  simpa using h i (List.mem_range.mp hi)
section
variable {P : Program} {w : World} {K : PySem.W.Frag} {mg : Str → Option Value} {base : Heap}
theorem scTurnedM : FnScope ["self", "by"] ["self", "by"] (defScope sTurnedM) := ⟨rfl, rfl, rfl, by decide +kernel, rfl, by decide +kernel, by decide +kernel⟩
theorem ok_turned {C f : Addr} {fd : FuncData} (F : Fun K "turned" "Word.turned" sTurnedM f fd) (T : TxW K mg C) (M : MkW P w K mg base C) (GN : Cal P w K mg base "need_integer" 2 ["value", "part"] spNeedI)
    (GT : Cal P w K mg base "turned_letters" 1 ["letters", "by"] (spTurnedL K)) : FnOk P w K mg base CX0 6 f fd ["self", "by"] (spTurned K C) := by
  refine F.ok scTurnedM (fun vs H Q E h => ?_) (fun cdv A outer s H vs Q E hr h => ?_)
  · obtain ⟨p, b, ns, rfl, _⟩ := h
    rfl
  · obtain ⟨p, b, ns, rfl, ⟨dx, tl, tk, ks, h1, h2, h3, h4⟩, hlen, hl, k⟩ := h
    refine ⟨_, pss_cons (ps_expr (pe_cal GN hr (by decide) (by rfl) (pa_cons (pv 1) (pa_cons pe_str pa_nil))))
      (pss_one (ps_ret (pe_word M T hr (by decide) (by rfl) (pa_cons (pe_cal GT hr (by decide) (by rfl) (pa_cons (pe_fld (pv 0) rfl) (pa_cons (pv 1) pa_nil))) pa_nil)))), ?_⟩
    refine ⟨_, rfl, b, _, rfl, ?_⟩
    refine ⟨_, rfl, p, C, dx, _, _, rfl, h1, T.cl, T.nL, wf_letters, _, rfl, tl, b, ns, rfl, h2, by omega, fun q H1 s1 hq => ?_⟩
    exact make_word (.inr hq) (by rw [trn_length]; exact hlen) (hl.trn b) fun x H' s' W => k x H' (s1.trans s') W
theorem scNeed2 : FnScope ["one", "other"] ["one", "other"] (defScope sNeed2) := ⟨rfl, rfl, rfl, by decide +kernel, rfl, by decide +kernel, by decide +kernel⟩
theorem ok_need2 {C f : Addr} {fd : FuncData} (F : Fun K "need_two_words" "need_two_words" sNeed2 f fd) (GN : Cal P w K mg base "need_word" 1 ["value", "part"] (spNeedW K C)) :
    FnOk P w K mg base CX0 2 f fd ["one", "other"] (spNeed2 K C) := by
  refine F.ok scNeed2 (fun vs H Q E h => ?_) (fun cdv A outer s H vs Q E hr h => ?_)
  · obtain ⟨p, q, ns, ms, rfl, _⟩ := h
    rfl
  · obtain ⟨p, q, ns, ms, rfl, W1, W2, k⟩ := h
    refine ⟨_, pss_cons (ps_expr (pe_cal GN hr (by decide) (by rfl) (pa_cons (pv 0) (pa_cons pe_str pa_nil)))) (pss_one (ps_expr (pe_cal GN hr (by decide) (by rfl) (pa_cons (pv 1) (pa_cons pe_str pa_nil))))), ?_⟩
    exact ⟨_, rfl, p, _, ns, rfl, W1, _, rfl, q, _, ms, rfl, W2, k⟩
theorem scTurnTo : FnScope ["one", "other", "turn"] ["one", "other"] (defScope sTurnTo) := ⟨rfl, rfl, rfl, by decide +kernel, rfl, by decide +kernel, by decide +kernel⟩
theorem ok_turnTo {C f : Addr} {fd : FuncData} (F : Fun K "turn_to" "turn_to" sTurnTo f fd) (T : TxW K mg C) (hrange : mg "range" = none) (hmax : mg "max" = none) (GN : Cal P w K mg base "need_two_words" 2 ["one", "other"] (spNeed2 K C))
    (GT : Cal P w K mg base "turned_letters" 1 ["letters", "by"] (spTurnedL K)) : FnOk P w K mg base CX0 3 f fd ["one", "other"] (spTurnTo K C) := by
  refine F.ok scTurnTo (fun vs H Q E h => ?_) (fun cdv A outer s H vs Q E hr h => ?_)
  · obtain ⟨p, q, ns, ms, rfl, _⟩ := h
    rfl
  · obtain ⟨p, q, ns, ms, rfl, W1, W2, hlen, k⟩ := h
    refine ⟨_, pss_cons (ps_expr (pe_cal GN hr (by decide) (by rfl) (pa_cons (pv 0) (pa_cons (pv 1) pa_nil))))
      (pss_cons (ps_for PassesOwn.never rfl (pi_range1 (by rfl) hrange (pa_cons (pe_callB (call_max2 rfl) (by rfl) hmax (by decide +kernel) (pa_cons pe_int (pa_cons (pe_fld (pv 0) rfl) pa_nil))) pa_nil)) (pg_name (i := 2) scTurnTo.nd rfl (Or.inl rfl))
        (pss_one (ps_if (pt_cmpR (op_eqD hr.units) (pe_cal GT hr (by decide) (by rfl) (pa_cons (pe_fld (pv 0) rfl) (pa_cons (pv 2) pa_nil))) (pe_fld (pv 1) rfl) (nomark _)) (pss_one (ps_ret (pv 2))) pss_nil)))
      (pss_one (ps_ret pe_non))), ?_⟩
    refine ⟨_, rfl, _, rfl, p, q, ns, ms, rfl, W1, W2, ?_⟩
    obtain ⟨dx, tl, tk, ks, h1, h2, h3, h4⟩ := W1
    obtain ⟨dx', tl', tk', ks', h1', h2', h3', h4'⟩ := W2
    refine ⟨_, rfl, p, C, dx, _, _, rfl, h1, T.cl, T.nN, wf_length, _, _, rfl, ?_⟩
    have em : (if ((ns.length : Nat) : Int) > 1 then ((ns.length : Nat) : Int) else 1) = ((max 1 ns.length : Nat) : Int) := by split <;> omega
    rw [em]
    refine ⟨_, rfl, by omega, by omega, ?_⟩
    rw [Int.toNat_natCast]
    refine for_range (lo := 0) (n := max 1 ns.length) (fun i σ H' => ∃ v, σ = [some (.ref p), some (.ref q), v] ∧ Same H H' ∧ ∀ j, j < i → Lt.rot ns j ≠ ms) ⟨none, rfl, Same.refl H, fun j hj => by omega⟩ ?_ ?_
    · rintro i σ H1 hi ⟨v, rfl, sm, hno⟩
      refine ⟨_, rfl, p, C, dx, _, _, rfl, sm _ _ h1, T.cl, T.nL, wf_letters, _, rfl, tl, _, ns, rfl, WR.Same.seqT sm h2, by omega, fun r H2 s2 hr2 => ?_⟩
      have e0 : (0 : Int) + ((i : Nat) : Int) = ((i : Nat) : Int) := by omega
      rw [e0, trn_nat hi] at hr2
      have sm2 := sm.trans s2
      refine ⟨_, rfl, q, C, dx', _, _, rfl, sm2 _ _ h1', T.cl, T.nL, wf_letters, _, _, .tup hr2 (dp_iv _), .tup (WR.Same.seqT sm2 h2') (dp_iv _), shaped_ints _, shaped_ints _, _, rfl, ?_⟩
      rw [eqv_ints]
      refine ite2 (fun he => ?_) (fun he => ?_)
      · have e := of_decide_eq_true he
        refine ⟨_, rfl, ?_⟩
        rw [e0]
        have := first_some hi e hno
        have k' := k H2 sm2
        rw [this] at k'
        exact k'
      · have e : Lt.rot ns i ≠ ms := fun z => he (decide_eq_true z)
        refine ⟨_, rfl, sm2, fun j hj => ?_⟩
        by_cases hji : j = i
        · subst hji; exact e
        · exact hno j (by omega)
    · rintro σ H1 ⟨v, rfl, sm, hno⟩
      have k' := k H1 sm
      rw [first_none hno] at k'
      exact k'
end
section
variable {P : Program} {w : World} {K : PySem.W.Frag} {mg : Str → Option Value} {base : Heap}
structure MethW (P : Program) (w : World) (K : PySem.W.Frag) (mg : Str → Option Value) (base : Heap) (C : Addr) (m : Str) (ps : List Str) (sp : Sp) : Prop where
  ex : ∃ (f : Addr) (fd : FuncData), Meth K C m f ∧ FnOk P w K mg base CX0 6 f fd ps sp ∧ Binds K fd ps []
structure AllW (P : Program) (w : World) (K : PySem.W.Frag) (mg : Str → Option Value) (base : Heap) (C : Addr) : Prop where
  con : MethW P w K mg base C "contrary" ["self"] (spOne K C Fr.con)
  sht : MethW P w K mg base C "shortened" ["self"] (spOne K C Fr.shr)
  rnd : MethW P w K mg base C "shortened_round" ["self"] (spOne K C Fr.rnd)
  thn : MethW P w K mg base C "then" ["self", "other"] (spThen K C)
  trd : MethW P w K mg base C "turned" ["self", "by"] (spTurned K C)
  mkw : MkW P w K mg base C
  eq : EqW P w K mg base C
  ne : PySem.W.findIn K (.ref C) "__ne__" = some (some (.builtin "object.__ne__"))
end
section
variable {X : Cx} {C : Addr} {o e : Expr} {es : List Expr} {ta : TE} {t : TA} {m : Str} {ps : List Str} {sp : Sp} {apos pos : Pos} {j : Nat}
theorem pe_w0 {pl : Sem Bool} (M : MethW X.prog X.w X.K X.mg X.base C m ps sp) (c : Cls X.K C) (hr : Room j X.A) (hj : 6 ≤ j) (he : PE X o ta)
    (ht : eval (.Call (.Attribute o m apos) [] [] pos) X.env = (do
      let ov ← eval o X.env
      standAt apos.atName
      let (f, first) ← holding [ov] (getMethod ov m pl)
      callWith pos f first (backTo pos (starEach [] X.env)) (backToKw pos (keywordEach [] X.env))) := by rfl) :
    PE X (.Call (.Attribute o m apos) [] [] pos) (tMeth C m sp [] E0 ta tNil) := by
  obtain ⟨f, fd, hm, F, hb⟩ := M.ex
  exact pe_meth0 he c hm F (hr.mono hj) hb .nil pass0 ht
theorem pe_w1 {pl : Sem Bool} (M : MethW X.prog X.w X.K X.mg X.base C m ps sp) (c : Cls X.K C) (hr : Room j X.A) (hj : 6 ≤ j) (he : PE X o ta) (ha : PA X (e :: es) t)
    (hst : starEach (e :: es) X.env = (false, eval e X.env) :: starEach es X.env := by rfl) (hpl : (backTo pos (starEach es X.env)).any (·.1) = false := by rfl)
    (ht : eval (.Call (.Attribute o m apos) (e :: es) [] pos) X.env = (do
      let ov ← eval o X.env
      standAt apos.atName
      let (f, first) ← holding [ov] (getMethod ov m pl)
      callWith pos f first (backTo pos (starEach (e :: es) X.env)) (backToKw pos (keywordEach [] X.env))) := by rfl) :
    PE X (.Call (.Attribute o m apos) (e :: es) [] pos) (tMeth C m sp [] E0 ta t) := by
  obtain ⟨f, fd, hm, F, hb⟩ := M.ex
  exact pe_meth he c hm F (hr.mono hj) hb .nil pass0 ha hst hpl ht
end
theorem WordAt.at {K : PySem.W.Frag} {C : Addr} {H : Hp} {p : Addr} {ns : List Int} (h : WordAt K C H p ns) {m : Str} (h1 : ¬ m = "letters") (h2 : ¬ m = "length") (h3 : ¬ m = "kinds") (h4 : ¬ m = "is_short") (h5 : ¬ m = "is_short_round") :
    ∃ dx fs, H p = some (.ins C dx fs) ∧ fs.lookup m = none := by
  obtain ⟨dx, tl, tk, ks, h, _⟩ := h
  exact ⟨dx, _, h, wf_no h1 h2 h3 h4 h5⟩
theorem nm1 : ¬ (("contrary" : Str) = "letters") ∧ ¬ (("contrary" : Str) = "length") ∧ ¬ (("contrary" : Str) = "kinds") ∧ ¬ (("contrary" : Str) = "is_short") ∧ ¬ (("contrary" : Str) = "is_short_round") := by decide +kernel
theorem nm2 : ¬ (("shortened" : Str) = "letters") ∧ ¬ (("shortened" : Str) = "length") ∧ ¬ (("shortened" : Str) = "kinds") ∧ ¬ (("shortened" : Str) = "is_short") ∧ ¬ (("shortened" : Str) = "is_short_round") := by decide +kernel
theorem nm3 : ¬ (("shortened_round" : Str) = "letters") ∧ ¬ (("shortened_round" : Str) = "length") ∧ ¬ (("shortened_round" : Str) = "kinds") ∧ ¬ (("shortened_round" : Str) = "is_short") ∧ ¬ (("shortened_round" : Str) = "is_short_round") := by decide +kernel
theorem nm4 : ¬ (("then" : Str) = "letters") ∧ ¬ (("then" : Str) = "length") ∧ ¬ (("then" : Str) = "kinds") ∧ ¬ (("then" : Str) = "is_short") ∧ ¬ (("then" : Str) = "is_short_round") := by decide +kernel
theorem WordAt.no {K : PySem.W.Frag} {C : Addr} {H : Hp} {p : Addr} {ns : List Int} (h : WordAt K C H p ns) {m : Str} (n : ¬ m = "letters" ∧ ¬ m = "length" ∧ ¬ m = "kinds" ∧ ¬ m = "is_short" ∧ ¬ m = "is_short_round") :
    ∃ dx fs, H p = some (.ins C dx fs) ∧ fs.lookup m = none := h.at n.1 n.2.1 n.2.2.1 n.2.2.2.1 n.2.2.2.2
theorem WordAt.drew {K : PySem.W.Frag} {C : Addr} {H H' : Hp} {p a c : Addr} {n : Nat} {ns : List Int} (h : WordAt K C H p ns) (hH : HandAt H a c n) {m : Nat} (d : Drew a c m H H') : WordAt K C H' p ns := by
  have keep : ∀ {q : Addr} {xs : List V}, SqT K H q xs → SqT K H' q xs := by
    intro q xs h
    obtain ⟨cs, i, r, hA, _⟩ := hH
    rcases h with h | h
    · left
      rcases h with h | ⟨o, h⟩
      · exact .inl (d.2 _ _ (fun z => by rw [z, hA] at h; cases h) h)
      · exact .inr ⟨o, d.2 _ _ (fun z => by rw [z, hA] at h; cases h) h⟩
    · exact .inr h
  obtain ⟨dx, tl, tk, ks, h1, h2, h3, h4⟩ := h
  refine ⟨dx, tl, tk, ks, d.2 _ _ (fun z => ?_) h1, keep h2, keep h3, h4⟩
  obtain ⟨cs, i, r, hA, _⟩ := hH
  rw [z, hA] at h1
  cases h1
theorem make_at {K : PySem.W.Frag} {C : Addr} {H1 : Hp} {q x dx : Addr} {ms : List Int} {G : Hp → Prop} {E : XK} (nx : H1 x = none) (ndx : H1 dx = none) (hq : SqE K H1 q (iv ms)) (hlen : ms.length ≤ 500) (hl : Lts ms) (k : ∀ H', Same H1 H' → WordAt K C H' x ms → G H') :
    spInit K C [.ref x, .ref q] (L2.upd (L2.upd H1 dx (.own x)) x (.ins C dx [])) (fun v H2 => v = .non ∧ G H2) E := by
  have s0 : Same H1 (L2.upd (L2.upd H1 dx (.own x)) x (.ins C dx [])) := fun b o e => by
    rw [upd_ne (ne_of_none e nx), upd_ne (ne_of_none e ndx)]
    exact e
  exact ⟨H1, x, dx, q, ms, rfl, s0, nx, upd_same, hq, hlen, hl, fun H' s' W' => ⟨rfl, k H' s' W'⟩⟩
theorem eqvL_ints (ns ms : List Int) : PyData.eqv (.list (ns.map .int)) (.list (ms.map .int)) = decide (ns = ms) := by
  show PyData.eqvAll _ _ = _
  exact eqvAll_ints ns ms
theorem no_ne {b : Bool} {A B : Prop} (h : b = true) (k : B) : if (!b) = true then A else B := by rw [h]; exact iteF k
theorem nm6 : ¬ (("turned" : Str) = "letters") ∧ ¬ (("turned" : Str) = "length") ∧ ¬ (("turned" : Str) = "kinds") ∧ ¬ (("turned" : Str) = "is_short") ∧ ¬ (("turned" : Str) = "is_short_round") := by decide +kernel
section
variable {P : Program} {w : World} {K : PySem.W.Frag} {mg : Str → Option Value} {base : Heap}
theorem scLeastT : FnScope ["word"] ["word"] (defScope sLeastT) := ⟨rfl, rfl, rfl, by decide +kernel, rfl, by decide +kernel, by decide +kernel⟩
theorem ok_leastT {C f : Addr} {fd : FuncData} (F : Fun K "least_turned" "least_turned" sLeastT f fd) (T : TxW K mg C) (W : AllW P w K mg base C) (GN : Cal P w K mg base "need_word" 1 ["value", "part"] (spNeedW K C))
    (GS : Cal P w K mg base "least_start" 1 ["values"] (spLeastS K)) : FnOk P w K mg base CX0 7 f fd ["word"] (spLeastT K C) := by
  refine F.ok scLeastT (fun vs H Q E h => ?_) (fun cdv A outer s H vs Q E hr h => ?_)
  · obtain ⟨p, ns, rfl, _⟩ := h
    rfl
  · obtain ⟨p, ns, rfl, W1, hlen, hl, k⟩ := h
    refine ⟨_, pss_cons (ps_expr (pe_cal GN hr (by decide) (by rfl) (pa_cons (pv 0) (pa_cons pe_str pa_nil))))
      (pss_one (ps_ret (pe_w1 W.trd T.cl hr (by decide) (pv 0) (pa_cons (pe_cal GS hr (by decide) (by rfl) (pa_cons (pe_fld (pv 0) rfl) pa_nil)) pa_nil)))), ?_⟩
    refine ⟨_, rfl, p, _, ns, rfl, W1, ?_⟩
    obtain ⟨dx1, fs, hp, hn⟩ := W1.no nm6
    obtain ⟨dx, tl, tk, ks, h1, h2, h3, h4⟩ := id W1
    refine ⟨_, rfl, p, dx1, fs, rfl, hp, hn, _, rfl, p, C, dx, _, _, rfl, h1, T.cl, T.nL, wf_letters, tl, ns, rfl, h2, by omega, fun j hj hL H1 s1 => ?_⟩
    refine ⟨p, (j : Int), ns, rfl, W1.same s1, hlen, hl, fun x H' s' W' => ?_⟩
    rw [trn_nat hj] at W'
    exact k _ hL x H' (s1.trans s') W'
end
end W06
set_option Elab.async false
set_option linter.all false
set_option maxRecDepth 100000
set_option maxHeartbeats 2000000
/-! min(xs) of a list of tuples of ints. -/
namespace MinRows
open PySem L2 PySem.Spec PyProof.Rows PySem.W PySem.SeqAt
abbrev row (t : List Int) : PyData := .tuple (t.map .int)
theorem alike_ints : ∀ u t : List Int, alikeAll (u.map PyData.int) (t.map PyData.int) = true
  | [], _ => by rw [List.map_nil, alikeAll]
  | _ :: _, [] => by rw [List.map_nil, List.map_cons, alikeAll]
  | x :: u, y :: t => by
    rw [List.map_cons, List.map_cons, alikeAll, alike_ints u t]
    simp [alike]
theorem alike_rows (u t : List Int) : alike (row u) (row t) = true := by
  unfold row
  rw [alike]
  exact alike_ints u t
theorem dl_trans {x y z : PyData} (h1 : dataLt x y = true) (h2 : dataLt y z = true) : dataLt x z = true := lex_trans _ _ _ h1 h2
theorem dl_neg {x y z : PyData} (h : dataLt x z = true) : dataLt x y = true ∨ dataLt y z = true := lex_negTrans _ _ _ h
theorem minD_least : ∀ (xs : List PyData) (x : PyData), minD x xs ∈ x :: xs ∧ ∀ y ∈ x :: xs, dataLt y (minD x xs) = false
  | [], x => by
    refine ⟨by unfold minD; simp, fun y hy => ?_⟩
    simp at hy
    subst hy
    exact dataLt_self _
  | z :: xs, x => by
    have e : minD x (z :: xs) = minD (if dataLt z x then z else x) xs := rfl
    obtain ⟨i1, i2⟩ := minD_least xs (if dataLt z x then z else x)
    rw [e]
    by_cases h : dataLt z x = true
    · rw [if_pos h] at i1 i2 ⊢
      refine ⟨List.mem_cons_of_mem _ i1, fun y hy => ?_⟩
      rcases List.mem_cons.mp hy with rfl | hy
      · have := i2 z List.mem_cons_self
        cases hq : dataLt y (minD z xs) with
        | false => rfl
        | true =>
          have := dl_trans h hq
          rw [i2 z List.mem_cons_self] at this
          exact absurd this Bool.false_ne_true
      · exact i2 y hy
    · rw [if_neg h] at i1 i2 ⊢
      refine ⟨?_, fun y hy => ?_⟩
      · rcases List.mem_cons.mp i1 with i1 | i1
        · rw [i1]; exact List.mem_cons_self
        · exact List.mem_cons_of_mem _ (List.mem_cons_of_mem _ i1)
      · rcases List.mem_cons.mp hy with rfl | hy
        · exact i2 y List.mem_cons_self
        · rcases List.mem_cons.mp hy with rfl | hy
          · cases hq : dataLt y (minD x xs) with
            | false => rfl
            | true =>
              rcases dl_neg (y := x) hq with q | q
              · exact absurd q h
              · rw [i2 x List.mem_cons_self] at q
                exact absurd q Bool.false_ne_true
          · exact i2 y (List.mem_cons_of_mem _ hy)
theorem depth_rows : ∀ ts : List (List Int), PyData.depthAll (ts.map row) ≤ 1
  | [] => by simp [PyData.depthAll]
  | t :: r => by
    have h1 := depth_rows r
    have h2 := (W06.lay_ints t).2
    simp only [List.map_cons, PyData.depthAll, row, PyData.depth, h2]
    omega
/-- what min asks of a list of tuples of ints -/
def rMinT (K : Frag) : List V → Hp → VK → Prop := fun vs H Q => ∃ (a : Addr) (rs : List Addr) (ts : List (List Int)), vs = [V.ref a] ∧ SqL K H a (rs.map V.ref) ∧ rs.length = ts.length ∧ 0 < ts.length ∧
  (∀ (j : Nat) (r : Addr) (t : List Int), rs[j]? = some r → ts[j]? = some t → SqT K H r (t.map V.int)) ∧ ∀ (j : Nat) (r : Addr) (t : List Int), rs[j]? = some r → ts[j]? = some t → (∀ u ∈ ts, dataLt (row u) (row t) = false) → Q (.ref r) H
theorem dp_rows {K : Frag} {H : Hp} : ∀ (rs : List Addr) (ts : List (List Int)), rs.length = ts.length → (∀ (j : Nat) (r : Addr) (t : List Int), rs[j]? = some r → ts[j]? = some t → SqT K H r (t.map V.int)) → DpAll K H (rs.map V.ref) (ts.map row)
  | [], [], _, _ => .nil
  | [], _ :: _, h, _ => by simp at h
  | _ :: _, [], h, _ => by simp at h
  | r :: rs, t :: ts, h, k => .cons (.tup (k 0 r t rfl rfl) (W06.dp_iv t)) (dp_rows rs ts (by simpa using h) fun j r t h1 h2 => k (j + 1) r t (by simpa using h1) (by simpa using h2))
theorem vals_at : ∀ {xs : List V} {us : List Value} {i : Nat} {u : Value}, Vals xs us → us[i]? = some u → ∃ x, xs[i]? = some x ∧ RelV x u
  | _, _, i, u, .nil, h => by simp at h
  | _, _, 0, u, .cons (a := v) r rs, h => by
    simp at h
    subst h
    exact ⟨v, rfl, r⟩
  | _, _, i + 1, u, .cons r rs, h => by
    obtain ⟨x, h1, h2⟩ := vals_at rs (by simpa using h)
    exact ⟨x, by simpa using h1, h2⟩
section
variable {X : Cx}
theorem call_minT (hc : X.calm = true) (hu : X.A.units + 65 < cLine) : CallR X (.builtin "min") (rMinT X.K) := by
  intro pins s σ H vs us Q I r h
  obtain ⟨a, rs, ts, rfl, hs, hlen, h0, hT, q⟩ := h
  obtain ⟨its, rv, hl, _⟩ := I.list hs
  rw [Vals.ref1 r]
  obtain ⟨as, hr⟩ := Dp.readsAll I _ _ _ (dp_rows rs ts hlen hT) rv
  cases ts with
  | nil => exact absurd h0 (by decide)
  | cons t0 ts =>
    have hr' : ReadsAll s.heap its.toArray.toList (row t0 :: ts.map row) as := by simpa using hr
    refine min_list_data (I.ok.hd hc) hl.isList hr' ⟨fun x hx y hy => ?_, fun x hx => ?_⟩ ?_ fun i v h' tk bs hv hrd hk => ?_
    · obtain ⟨u, _, rfl⟩ : ∃ u, u ∈ t0 :: ts ∧ row u = x := List.mem_map.mp (show x ∈ (t0 :: ts).map row from hx)
      obtain ⟨t, _, rfl⟩ : ∃ u, u ∈ t0 :: ts ∧ row u = y := List.mem_map.mp (show y ∈ (t0 :: ts).map row from hy)
      exact alike_rows u t
    · obtain ⟨u, _, rfl⟩ : ∃ u, u ∈ t0 :: ts ∧ row u = x := List.mem_map.mp (show x ∈ (t0 :: ts).map row from hx)
      intro z
      cases z
    · have := depth_rows (t0 :: ts)
      rw [List.map_cons] at this
      omega
    · have hv' : its[i]? = some v := by simpa using hv
      obtain ⟨x, hx, rx⟩ := vals_at rv hv'
      rw [List.getElem?_map] at hx
      cases e : rs[i]? with
      | none => rw [e] at hx; cases hx
      | some r0 =>
        rw [e] at hx
        cases hx
        have hi : i < (t0 :: ts).length := by rw [← hlen]; exact (List.getElem?_eq_some_iff.mp e).1
        have et : (t0 :: ts)[i]? = some (t0 :: ts)[i] := List.getElem?_eq_getElem hi
        have hSi := hT i r0 _ e et
        obtain ⟨bs', hb⟩ := Dp.reads I _ _ _ (.tup hSi (W06.dp_iv _)) rx
        have hb' := Reads.keeps hk hb
        have eq := Reads.unique _ _ _ _ _ (by
          have := (W06.lay_ints (t0 :: ts)[i]).1
          simp [PyData.canLay0, this]) hb' hrd
        obtain ⟨m1, m2⟩ := minD_least (ts.map row) (row t0)
        rw [← eq] at m2
        refine ⟨.ref r0, H, I.kept hk, rx, q i r0 _ e et fun u hu => m2 (row u) ?_⟩
        rw [← List.map_cons (f := row)]
        exact List.mem_map_of_mem hu
end
end MinRows
namespace W06
open PySem L2 PySem.Spec PyProof.Rows WR
/-- the order of rows of one length -/
theorem dl_rows : ∀ (a b : List Int), a.length = b.length → (PySem.W.dataLt (MinRows.row a) (MinRows.row b) = true ↔ ∃ k, k < a.length ∧ (∀ t, t < k → a.getD t 0 = b.getD t 0) ∧ a.getD k 0 < b.getD k 0) := by
  intro a b hl
  have e : PySem.W.dataLt (MinRows.row a) (MinRows.row b) = PySem.W.listLt a b := by
    unfold MinRows.row
    rw [PySem.W.dataLt_tuple]
    exact PySem.W.lexAll_map a b
  rw [e]
  clear e
  induction a generalizing b with
  | nil =>
    cases b with
    | nil => exact ⟨fun h => absurd h (by decide), fun ⟨k, hk, _⟩ => absurd hk (by simp)⟩
    | cons y b => simp at hl
  | cons x a ih =>
    cases b with
    | nil => simp at hl
    | cons y b =>
      have ih := ih b (by simpa using hl)
      rw [PySem.W.listLt]
      by_cases h : x = y
      · subst h
        rw [if_pos rfl]
        refine Iff.trans ih ?_
        constructor
        · rintro ⟨k, hk, h1, h2⟩
          refine ⟨k + 1, by simpa using hk, fun t ht => ?_, by simpa using h2⟩
          cases t with
          | zero => rfl
          | succ t => simpa using h1 t (by omega)
        · rintro ⟨k, hk, h1, h2⟩
          cases k with
          | zero => simp at h2
          | succ k => exact ⟨k, by simpa using hk, fun t ht => by simpa using h1 (t + 1) (by omega), by simpa using h2⟩
      · rw [if_neg h]
        constructor
        · intro hd
          have : x < y := of_decide_eq_true hd
          exact ⟨0, by simp, fun t ht => by omega, by simpa using this⟩
        · rintro ⟨k, hk, h1, h2⟩
          cases k with
          | zero => exact decide_eq_true (by simpa using h2)
          | succ k => exact absurd (by simpa using h1 0 (by omega)) h
/-- the list of the turned forms, in order -/
def forms (ns : List Int) : List (List Int) := (List.range (max 1 ns.length)).map fun j => Lt.rot ns j
theorem forms_at {ns : List Int} {j : Nat} (h : j < max 1 ns.length) : (forms ns)[j]? = some (Lt.rot ns j) := by
  unfold forms
  rw [List.getElem?_map, List.getElem?_range h]
  rfl
theorem forms_length (ns : List Int) : (forms ns).length = max 1 ns.length := by
  unfold forms
  rw [List.length_map, List.length_range]
theorem least_of_min {ns : List Int} {j : Nat} (hj : j < max 1 ns.length) (h : ∀ u ∈ forms ns, PySem.W.dataLt (MinRows.row u) (MinRows.row (Lt.rot ns j)) = false) : Lt.Least ns (Lt.rot ns j) := by
  refine ⟨j, hj, rfl, fun q hq hl => ?_⟩
  have hm : Lt.rot ns q ∈ forms ns := List.mem_map.mpr ⟨q, List.mem_range.mpr (by omega), rfl⟩
  have := h _ hm
  rw [Lt.ls_rows (by omega) (by omega)] at hl
  have h2 := (dl_rows (Lt.rot ns q) (Lt.rot ns j) (by rw [Lt.rot_length, Lt.rot_length])).mpr (by rw [Lt.rot_length]; exact hl)
  rw [this] at h2
  exact absurd h2 Bool.false_ne_true
end W06
set_option Elab.async false
set_option linter.all false
set_option maxRecDepth 100000
set_option maxHeartbeats 4000000
namespace W06
open PySem L2 PySem.Spec PyProof.Rows WR
abbrev sForms : Stmt := top 42
abbrev sMixed : Stmt := top 43
abbrev sDrawn : Stmt := top 44
theorem SqT.keptL {K : PySem.W.Frag} {H H' : Hp} {l q : Addr} {vs xs : List V} (hl : H l = some (.lst vs)) (d : Kept l H H') (h : SqT K H q xs) : SqT K H' q xs := by
  rcases h with h | h
  · left
    rcases h with h | ⟨o, h⟩
    · exact .inl (d _ _ (fun z => by rw [z, hl] at h; cases h) h)
    · exact .inr ⟨o, d _ _ (fun z => by rw [z, hl] at h; cases h) h⟩
  · exact .inr h
/-- at p stands the list of the turned forms of ns -/
def FormsAt (K : PySem.W.Frag) (H : Hp) (p : Addr) (ns : List Int) : Prop := ∃ rs : List Addr, H p = some (.lst (rs.map V.ref)) ∧ rs.length = max 1 ns.length ∧ ∀ j r, rs[j]? = some r → SqT K H r (iv (Lt.rot ns j))
theorem FormsAt.same {K : PySem.W.Frag} {H H' : Hp} {p : Addr} {ns : List Int} (h : FormsAt K H p ns) (s : Same H H') : FormsAt K H' p ns := by
  obtain ⟨rs, h1, h2, h3⟩ := h
  exact ⟨rs, s _ _ h1, h2, fun j r hj => WR.Same.seqT s (h3 j r hj)⟩
def spForms (K : PySem.W.Frag) : Sp := fun vs H Q _ => ∃ (p : Addr) (ns : List Int), vs = [.ref p] ∧ H p = some (.lst (iv ns)) ∧ ns.length ≤ 500 ∧ ∀ q H', H q = none → Same H H' → FormsAt K H' q ns → Q (.ref q) H'
def spMixed : Sp := fun vs H Q _ => ∃ (a c p : Addr) (ns : List Int) (n : Nat), vs = [.ref a, .ref p] ∧ HandAt H a c n ∧ p ≠ a ∧ H p = some (.lst (iv ns)) ∧ ns.length ≤ 600 ∧ n + ns.length ≤ 9000 ∧
  ∀ q H' ms, H q = none → Drew a c (n + ns.length) H H' → H' q = some (.lst (iv ms)) → ms.length = ns.length → (∀ x ∈ ms, x ∈ ns) → Q (.ref q) H'
theorem rot_step {ns : List Int} {i : Nat} (h : i + 1 < ns.length) : (Lt.rot ns i).drop 1 ++ (Lt.rot ns i).take 1 = Lt.rot ns (i + 1) := by
  show Lt.rot (Lt.rot ns i) 1 = _
  rw [Lt.rot_rot (by omega) (by omega) (by omega), Nat.mod_eq_of_lt h]
theorem iv_erase : ∀ (ns : List Int) (j : Nat), (iv ns).eraseIdx j = iv (ns.eraseIdx j)
  | [], j => by simp [iv]
  | x :: t, 0 => by simp [iv]
  | x :: t, j + 1 => by
    have := iv_erase t j
    simpa [iv] using this
theorem rot_zero (ns : List Int) : Lt.rot ns 0 = ns := by
  unfold Lt.rot
  simp
section
variable {P : Program} {w : World} {K : PySem.W.Frag} {mg : Str → Option Value} {base : Heap}
theorem scForms : FnScope ["_law_letters_here", "_law_found", "_law_turn"] ["_law_letters_here"] (defScope sForms) := ⟨rfl, rfl, rfl, by decide +kernel, rfl, by decide +kernel, by decide +kernel⟩
theorem ok_forms {f : Addr} {fd : FuncData} (F : Fun K "_law_forms" "_law_forms" sForms f fd) (TA : TxA mg) (TN : TxN mg) : FnOk P w K mg base CX0 1 f fd ["_law_letters_here"] (spForms K) := by
  refine F.ok scForms (fun vs H Q E h => ?_) (fun cdv A outer s H vs Q E hr h => ?_)
  · obtain ⟨p, ns, rfl, _⟩ := h
    rfl
  · obtain ⟨p, ns, rfl, hp, hlen, k⟩ := h
    refine ⟨_, pss_cons (ps_set (i := 1) scForms.nd rfl (Or.inl rfl) (pe_lst (pa_cons (pe_callTy call_tuple_of (by rfl) TA.tuple (by decide +kernel) (pa_cons (pv 0) pa_nil)) pa_nil)))
      (pss_cons (ps_for PassesOwn.never rfl (pi_range1 (by rfl) TN.range (pa_cons (pe_op op_sub (pe_callB call_len_seq (by rfl) TA.len PySem.boot_len (pa_cons (pv 0) pa_nil)) pe_int) pa_nil)) (pg_name (i := 2) scForms.nd rfl (Or.inl rfl))
        (pss_one (ps_expr (pe_bm PySem.F.plainAttrs_list PySem.F.slot_list_append PySem.F.type_list_append mt_append (pv 1) (pa_cons (pe_op op_catU (pe_slice sl_tupU (pe_ix ix_list (pv 1) (pe_un un_neg pe_int) (fun _ _ => rfl)) (po_some pe_int) po_none) (pe_slice sl_tupU (pe_ix ix_list (pv 1) (pe_un un_neg pe_int) (fun _ _ => rfl)) po_none (po_some pe_int))) pa_nil)))))
      (pss_one (ps_ret (pv 1)))), ?_⟩
    refine ⟨_, rfl, p, _, rfl, .inl ⟨SqL.of hp, fun t ht => ?_⟩⟩
    have s1 := same_upd (o := .tup (iv ns)) ht
    have h1 : SqT K (L2.upd H t (.tup (iv ns))) t (iv ns) := SqT.of upd_same
    refine gen_heap fun H1 e1 => ?_
    rw [← e1] at s1 h1
    refine ⟨(by show 1 ≤ sizeLine; decide), fun l hl => ?_⟩
    have hl0 : H l = none := s1.free hl
    have s2 := same_upd (o := .lst [.ref t]) hl
    refine ⟨_, rfl, p, _, rfl, .inl (SqL.of (s2 _ _ (s1 _ _ hp))), _, _, rfl, rfl, ?_⟩
    have eL : (((iv ns).length : Nat) : Int) - 1 = (ns.length : Int) - 1 := by rw [List.length_map]
    refine ⟨(ns.length : Int) - 1, congrArg (fun z => [V.int z]) eL, by omega, by omega, ?_⟩
    have eN : ((ns.length : Int) - 1).toNat = ns.length - 1 := by omega
    rw [eN]
    refine for_range (lo := 0) (n := ns.length - 1) (fun i σ H' => ∃ (v : Option V) (rs : List Addr), σ = [some (.ref p), some (.ref l), v] ∧ Same H H' ∧ H' l = some (.lst (rs.map V.ref)) ∧ rs.length = i + 1 ∧ ∀ j r, rs[j]? = some r → SqT K H' r (iv (Lt.rot ns j)))
      ⟨none, [t], rfl, s1.trans s2, upd_same, rfl, fun j r hj => ?_⟩ ?_ ?_
    · cases j with
      | zero =>
        have : t = r := by simpa using hj
        subst this
        rw [rot_zero]
        exact WR.Same.seqT s2 h1
      | succ j => simp at hj
    · rintro i σ H2 hi ⟨v, rs, rfl, sm, hL, hrl, hrs⟩
      obtain ⟨rs', r, rfl⟩ : ∃ rs' r, rs = rs' ++ [r] := ⟨rs.dropLast, rs.getLast (by intro z; rw [z] at hrl; simp at hrl), (List.dropLast_concat_getLast _).symm⟩
      have hrl' : rs'.length = i := by simpa using hrl
      have hr1 : SqT K H2 r (iv (Lt.rot ns i)) := hrs i r (by rw [List.getElem?_append_right (by omega), hrl']; simp)
      have eR : (rs' ++ [r]).map V.ref = rs'.map V.ref ++ [V.ref r] := by simp
      have rl : (Lt.rot ns i).length = ns.length := Lt.rot_length _ _
      refine ⟨_, rfl, .inl ⟨rfl, _, SqL.of hL⟩, ?_⟩
      refine ⟨_, rfl, _, rfl, l, _, _, _, rfl, rfl, SqL.of hL, (by rw [eR]; exact atI_last _ _), _, rfl, r, _, rfl, hr1, fun p1 H3 s3 h3 => ?_⟩
      have c1 : cutV (iv (Lt.rot ns i)) (some 1) none = iv ((Lt.rot ns i).drop 1) := cut_from (j := 1) (by omega)
      rw [c1] at h3
      refine ⟨_, rfl, _, rfl, l, _, _, _, rfl, rfl, SqL.of (s3 _ _ hL), (by rw [eR]; exact atI_last _ _), _, rfl, r, _, rfl, WR.Same.seqT s3 hr1, fun p2 H4 s4 h4 => ?_⟩
      have c2 : cutV (iv (Lt.rot ns i)) none (some 1) = iv ((Lt.rot ns i).take 1) := cut_to (j := 1) (by omega)
      rw [c2] at h4
      refine ⟨p1, p2, _, _, rfl, rfl, WR.Same.seqT s4 h3, h4, Evl.sz_of (by simp only [List.length_map, List.length_drop, List.length_take]; omega), fun p3 H5 s5 h5 => ?_⟩
      have h5' : SqT K H5 p3 (iv (Lt.rot ns (i + 1))) := by
        have h5' : SqT K H5 p3 (iv ((Lt.rot ns i).drop 1) ++ iv ((Lt.rot ns i).take 1)) := h5
        rw [← List.map_append, rot_step (by omega)] at h5'
        exact h5'
      have s25 := (s3.trans s4).trans s5
      have hL5 := s25 _ _ hL
      refine ⟨l, _, _, rfl, rfl, hL5, Evl.sz_lt (by rw [List.length_map, hrl]; omega), ?_⟩
      refine ⟨_, rs' ++ [r] ++ [p3], rfl, fun b o e => ?_, by rw [upd_same]; simp, by simp [hrl'], fun j q hj => ?_⟩
      · rw [upd_ne (ne_of_none e hl0)]
        exact s25 _ _ (sm _ _ e)
      · refine SqT.keptL hL5 Kept.upd ?_
        by_cases hj2 : j < (rs' ++ [r]).length
        · rw [List.getElem?_append_left hj2] at hj
          exact WR.Same.seqT s25 (hrs j q hj)
        · rw [List.getElem?_append_right (by omega)] at hj
          have e0 : j - (rs' ++ [r]).length = 0 := by
            by_cases h0 : j - (rs' ++ [r]).length = 0
            · exact h0
            · rw [List.getElem?_eq_none (by simp; omega)] at hj
              cases hj
          rw [e0] at hj
          have e3 : q = p3 := by simpa using hj.symm
          have e4 : j = i + 1 := by omega
          rw [e3, e4]
          exact h5'
    · rintro σ H2 ⟨v, rs, rfl, sm, hL, hrl, hrs⟩
      exact ⟨_, rfl, k l H2 hl0 sm ⟨rs, hL, by omega, hrs⟩⟩
abbrev nMixed : List Str := ["_law_jar_here", "_law_some", "_law_left", "_law_found", "_law_turn"]
theorem scMixed : FnScope nMixed ["_law_jar_here", "_law_some"] (defScope sMixed) := ⟨rfl, rfl, rfl, by decide +kernel, rfl, by decide +kernel, by decide +kernel⟩
theorem ok_mixed {f : Addr} {fd : FuncData} (F : Fun K "_law_mixed" "_law_mixed" sMixed f fd) (GD : Cal P w K mg base "_law_draw" 1 ["_law_jar_here", "_law_many"] spTake) (TA : TxA mg) (TN : TxN mg) : FnOk P w K mg base CX0 2 f fd ["_law_jar_here", "_law_some"] spMixed := by
  refine F.ok scMixed (fun vs H Q E h => ?_) (fun cdv A outer s H vs Q E hr h => ?_)
  · obtain ⟨a, c, p, ns, n, rfl, _⟩ := h
    rfl
  · obtain ⟨a, c, p, ns, n, rfl, hH, hpa, hp, hlen, hn, k⟩ := h
    refine ⟨_, pss_cons (ps_par (i := 2) (j := 3) (by rfl) scMixed.nd rfl rfl (by decide) rfl rfl (pa_cons (pe_callTy call_list_of (by rfl) TN.list (by decide +kernel) (pa_cons (pv 1) pa_nil)) (pa_cons (pe_lst pa_nil) pa_nil)) (by rfl))
      (pss_cons (ps_for PassesOwn.never rfl (pi_range1 (by rfl) TN.range (pa_cons (pe_callB call_len_seq (by rfl) TA.len PySem.boot_len (pa_cons (pv 2) pa_nil)) pa_nil)) (pg_name (i := 4) scMixed.nd rfl (Or.inl rfl))
        (pss_one (ps_expr (pe_bm PySem.F.plainAttrs_list PySem.F.slot_list_append PySem.F.type_list_append mt_append (pv 3) (pa_cons (pe_bm PySem.F.plainAttrs_list PySem.F.slot_list_pop PySem.F.type_list_pop mt_popAt (pv 2) (pa_cons (pe_cal GD hr (by decide) (by rfl) (pa_cons (pv 0) (pa_cons (pe_callB call_len_seq (by rfl) TA.len PySem.boot_len (pa_cons (pv 2) pa_nil)) pa_nil))) pa_nil)) pa_nil)))))
      (pss_one (ps_ret (pv 3)))), ?_⟩
    refine ⟨_, rfl, p, _, rfl, .inl (SqL.of hp), fun l hl => ?_⟩
    have s1 := same_upd (o := .lst (iv ns)) hl
    have h1 : L2.upd H l (.lst (iv ns)) l = some (.lst (iv ns)) := upd_same
    have D1 := (Drew.refl hH).new (o := .lst (iv ns)) hl
    have hla := hH.ne hl
    have hlc := hH.neC hl
    refine gen_heap fun H1 e1 => ?_
    rw [← e1] at s1 h1 D1
    refine ⟨Nat.zero_le _, fun g hg => ?_⟩
    have hg0 : H g = none := s1.free hg
    have hga := hH.ne hg0
    have hgc := hH.neC hg0
    have hlg : l ≠ g := fun z => by rw [z, hg] at h1; cases h1
    have s2 := same_upd (o := .lst []) hg
    have h2 := s2 _ _ h1
    have D2 := D1.new (o := .lst []) hg
    refine ⟨_, _, rfl, ?_⟩
    refine ⟨_, rfl, l, _, rfl, .inl (SqL.of h2), ?_⟩
    have eL : (((iv ns).length : Nat) : Int) = ((ns.length : Nat) : Int) := by rw [List.length_map]
    refine ⟨((ns.length : Nat) : Int), congrArg (fun z => [V.int z]) eL, by omega, by omega, ?_⟩
    rw [Int.toNat_natCast]
    refine for_range (lo := 0) (n := ns.length) (fun i σ H' => ∃ (v : Option V) (us ms : List Int), σ = [some (.ref a), some (.ref p), some (.ref l), some (.ref g), v] ∧ Drew a c (n + i) H H' ∧ H' l = some (.lst (iv us)) ∧ H' g = some (.lst (iv ms)) ∧ us.length + i = ns.length ∧ ms.length = i ∧ (∀ x ∈ us, x ∈ ns) ∧ ∀ x ∈ ms, x ∈ ns)
      ⟨none, ns, [], rfl, D2, h2, by rw [upd_same]; rfl, rfl, rfl, fun _ h => h, fun _ h => nomatch h⟩ ?_ ?_
    · rintro i σ H3 hi ⟨v, us, ms, rfl, D3, hu, hm, el, em, mu, mm⟩
      refine ⟨_, rfl, .inl ⟨rfl, _, SqL.of hm⟩, _, rfl, .inl ⟨rfl, _, SqL.of hu⟩, ?_⟩
      refine ⟨_, rfl, _, rfl, l, _, rfl, .inl (SqL.of hu), a, c, _, n + i, rfl, D3.1, by omega, by rw [List.length_map]; omega, ?_, fun H4 z z0 z1 hH4 hK4 => ?_⟩
      · have : ((((iv us).length : Nat) : Int)).natAbs ≤ 1000 := by rw [List.length_map]; omega
        exact Nat.lt_of_le_of_lt this (by decide)
      rw [List.length_map] at z1
      obtain ⟨j, rfl⟩ : ∃ j : Nat, z = (j : Int) := ⟨z.toNat, by omega⟩
      have hj : j < us.length := by omega
      have hu4 := hK4 _ _ hla hu
      have hm4 := hK4 _ _ hga hm
      have D4 : Drew a c (n + (i + 1)) H H4 := ⟨hH4, D3.2.trans hK4⟩
      have eJ : seqIndex? (j : Int) (iv us).length = some j := by
        have := PySem.seqIndex_of (k := (j : Int)) (n := (iv us).length) (by omega) (by rw [List.length_map]; omega)
        rw [Int.toNat_natCast] at this
        exact this
      have eY : (iv us)[j]? = some (V.int us[j]) := iv_get (List.getElem?_eq_getElem hj)
      have eE : (iv us).eraseIdx j = iv (us.eraseIdx j) := iv_erase us j
      refine ⟨l, _, _, j, _, rfl, rfl, hu4, by omega, by omega, eJ, eY, ?_⟩
      rw [eE]
      have hm5 : L2.upd H4 l (.lst (iv (us.eraseIdx j))) g = some (.lst (iv ms)) := by rw [upd_ne hlg.symm]; exact hm4
      refine ⟨g, _, _, rfl, rfl, hm5, Evl.sz_lt (by rw [List.length_map]; omega), ?_⟩
      have D5 := (D4.put (o := .lst (iv (us.eraseIdx j))) hl hla hlc).put (o := .lst (iv ms ++ [.int us[j]])) hg0 hga hgc
      refine ⟨_, us.eraseIdx j, ms ++ [us[j]], rfl, D5, ?_, by rw [upd_same]; simp [iv], ?_, by simp [em], fun x hx => mu x (List.mem_of_mem_eraseIdx hx), fun x hx => ?_⟩
      · rw [upd_ne hlg, upd_same]
      · rw [List.length_eraseIdx]
        split <;> omega
      · rcases List.mem_append.mp hx with h | h
        · exact mm x h
        · rw [List.mem_singleton.mp h]
          exact mu _ (List.getElem_mem hj)
    · rintro σ H3 ⟨v, us, ms, rfl, D3, hu, hm, el, em, mu, mm⟩
      exact ⟨_, rfl, k g H3 ms hg0 D3 hm em mm⟩
end
end W06
set_option Elab.async false
set_option linter.all false
set_option maxRecDepth 100000
set_option maxHeartbeats 4000000
namespace W06
open PySem L2 PySem.Spec PyProof.Rows WR
def spDrawn : Sp := fun vs H Q _ => ∃ (a c : Addr) (n : Nat), vs = [.ref a] ∧ HandAt H a c n ∧ n ≤ 8000 ∧
  ∀ q H' ls, H q = none → Drew a c (n + 51) H H' → H' q = some (.lst (iv ls)) → ls.length ≤ 24 → Lts ls → Q (.ref q) H'
abbrev nDrawn : List Str := ["_law_jar_here", "_law_way", "_law_kinds", "_law_letters_here", "_law_at"]
section
variable {P : Program} {w : World} {K : PySem.W.Frag} {mg : Str → Option Value} {base : Heap}
theorem scDrawn : FnScope nDrawn ["_law_jar_here"] (defScope sDrawn) := ⟨rfl, rfl, rfl, by decide +kernel, rfl, by decide +kernel, by decide +kernel⟩
theorem ok_drawn {f : Addr} {fd : FuncData} (F : Fun K "_law_drawn" "_law_drawn" sDrawn f fd) (GD : Cal P w K mg base "_law_draw" 1 ["_law_jar_here", "_law_many"] spTake) (GP : Cal P w K mg base "_law_pick" 2 ["_law_jar_here", "_law_some"] spPick)
    (GL : Cal P w K mg base "_law_letters" 2 ["_law_jar_here", "_law_many", "_law_kinds"] spLetters) (TA : TxA mg) (TN : TxN mg) : FnOk P w K mg base CX0 3 f fd ["_law_jar_here"] spDrawn := by
  refine F.ok scDrawn (fun vs H Q E h => ?_) (fun cdv A outer s H vs Q E hr h => ?_)
  · obtain ⟨a, c, n, rfl, _⟩ := h
    rfl
  · obtain ⟨a, c, n, rfl, hH, hn, k⟩ := h
    refine ⟨_, pss_cons (ps_par (i := 1) (j := 2) (by rfl) scDrawn.nd rfl rfl (by decide) rfl rfl (pa_cons (pe_cal GD hr (by decide) (by rfl) (pa_cons (pv 0) (pa_cons pe_int pa_nil))) (pa_cons (pe_op op_add pe_int (pe_cal GD hr (by decide) (by rfl) (pa_cons (pv 0) (pa_cons pe_int pa_nil)))) pa_nil)) (by rfl))
      (pss_cons (ps_if (pt_cmpR op_eq (pv 1) pe_int (nomark _)) (pss_one (ps_ret (pe_cal GL hr (by decide) (by rfl) (pa_cons (pv 0) (pa_cons (pe_cal GP hr (by decide) (by rfl) (pa_cons (pv 0) (pa_cons (pe_lst (pa_cons pe_int (pa_cons pe_int (pa_cons pe_int (pa_cons pe_int (pa_cons pe_int (pa_cons pe_int pa_nil))))))) pa_nil))) (pa_cons (pv 2) pa_nil)))))) pss_nil)
      (pss_cons (ps_set (i := 3) scDrawn.nd rfl (Or.inl rfl) (pe_op op_rep (pe_cal GL hr (by decide) (by rfl) (pa_cons (pv 0) (pa_cons (pe_op op_add pe_int (pe_cal GD hr (by decide) (by rfl) (pa_cons (pv 0) (pa_cons pe_int pa_nil)))) (pa_cons (pv 2) pa_nil)))) (pe_op op_add pe_int (pe_cal GD hr (by decide) (by rfl) (pa_cons (pv 0) (pa_cons pe_int pa_nil))))))
      (pss_cons (ps_if (pt_cmpR op_eq (pv 1) pe_int (nomark _))
        (pss_cons (ps_set (i := 4) scDrawn.nd rfl (Or.inl rfl) (pe_cal GD hr (by decide) (by rfl) (pa_cons (pv 0) (pa_cons (pe_callB call_len_seq (by rfl) TA.len PySem.boot_len (pa_cons (pv 3) pa_nil)) pa_nil))))
        (pss_one (ps_set (i := 3) scDrawn.nd rfl (Or.inl rfl) (pe_op op_cat (pe_op op_cat (pe_slice sl_list (pv 3) po_none (po_some (pv 4))) (pe_lst (pa_cons (pe_un un_neg (pe_ix ix_list (pv 3) (pv 4) (fun _ _ => rfl))) pa_nil))) (pe_slice sl_list (pv 3) (po_some (pe_op op_add (pv 4) pe_int)) po_none))))) pss_nil)
      (pss_one (ps_ret (pv 3)))))), ?_⟩
    refine ⟨_, rfl, a, c, 4, n, rfl, hH, by omega, by decide, by decide, fun H1 z z0 z1 hH1 hK1 => ?_⟩
    refine ⟨_, rfl, a, c, 3, n + 1, rfl, hH1, by omega, by decide, by decide, fun H2 y y0 y1 hH2 hK2 => ⟨_, _, rfl, rfl, _, _, rfl, ?_⟩⟩
    have D2 : Drew a c (n + 2) H H2 := ⟨hH2, hK1.trans hK2⟩
    obtain ⟨kk, ek⟩ : ∃ kk : Nat, 1 + y = (kk : Int) := ⟨(1 + y).toNat, by omega⟩
    have k1 : 1 ≤ kk := by omega
    have k26 : kk ≤ 26 := by omega
    refine ⟨_, rfl, rfl, _, rfl, ?_⟩
    refine ite2 (fun _ => ?_) (fun _ => ?_)
    · refine ⟨_, rfl, _, rfl, (by show 6 ≤ sizeLine; decide), fun l hl => ?_⟩
      refine ⟨a, c, l, _, n + 2, rfl, hH2.new hl, by omega, hH2.ne hl, upd_same, by decide, by decide, fun v hv H4 d4 => ?_⟩
      have D4 : Drew a c (n + 3) H H4 := (D2.new hl).trans d4
      obtain ⟨m, rfl, hm⟩ : ∃ m : Nat, v = .int (m : Int) ∧ m ≤ 24 := by
        simp only [List.mem_cons, List.mem_nil_iff, or_false] at hv
        rcases hv with rfl | rfl | rfl | rfl | rfl | rfl
        · exact ⟨0, rfl, by decide⟩
        · exact ⟨1, rfl, by decide⟩
        · exact ⟨2, rfl, by decide⟩
        · exact ⟨5, rfl, by decide⟩
        · exact ⟨9, rfl, by decide⟩
        · exact ⟨24, rfl, by decide⟩
      refine ⟨_, rfl, a, c, m, kk, n + 3, congrArg (fun z => [V.ref a, V.int (m : Int), V.int z]) ek, D4.1, by omega, by omega, k1, k26, fun q H5 ls hq0 d5 hq hll hlk => ?_⟩
      exact k q H5 ls (D4.back hq0) ((D4.trans d5).mono (by omega)) hq (by omega) fun x hx => ⟨(hlk x hx).1, Nat.le_trans (hlk x hx).2 k26⟩
    · refine ⟨_, rfl, _, rfl, a, c, 5, n + 2, rfl, hH2, by omega, by decide, by decide, fun H3 x x0 x1 hH3 hK3 => ⟨_, _, rfl, rfl, ?_⟩⟩
      have D3 : Drew a c (n + 3) H H3 := ⟨hH3, D2.2.trans hK3⟩
      obtain ⟨m, em⟩ : ∃ m : Nat, 1 + x = (m : Int) := ⟨(1 + x).toNat, by omega⟩
      refine ⟨_, rfl, a, c, m, kk, n + 3, (by show [V.ref a, V.int (1 + x), V.int (1 + y)] = _; rw [em, ek]), hH3, by omega, by omega, k1, k26, fun q H4 ls hq0 d4 hq hll hlk => ?_⟩
      have lls : Lts ls := fun x hx => ⟨(hlk x hx).1, Nat.le_trans (hlk x hx).2 k26⟩
      have D4 := D3.trans d4
      have hqa := hH3.ne hq0
      refine ⟨_, rfl, a, c, 4, _, rfl, D4.1, by omega, by decide, by decide, fun H5 u u0 u1 hH5 hK5 => ⟨_, _, rfl, rfl, ?_⟩⟩
      obtain ⟨g, eg⟩ : ∃ g : Nat, 1 + u = (g : Int) := ⟨(1 + u).toNat, by omega⟩
      have D5 : Drew a c (n + 3 + 2 * m + 1) H H5 := ⟨hH5, D4.2.trans hK5⟩
      have tg : (1 + u).toNat = g := by omega
      have hm5 : m ≤ 5 := by omega
      have hg4 : g ≤ 4 := by omega
      have hgm : g * m ≤ 20 := Nat.mul_le_mul hg4 hm5
      refine ⟨q, _, _, rfl, rfl, hK5 _ _ hqa hq, by omega, by omega, Evl.sz_of (by rw [tg, List.length_map, hll, Nat.mul_comm]; omega), fun r hr0 => ?_⟩
      have hR : L2.upd H5 r (.lst (List.replicate (1 + u).toNat (iv ls)).flatten) r = some (.lst (iv (Fr.rep g ls))) := by rw [upd_same, tg, rep_flat]
      have D6 := D5.new (o := .lst (List.replicate (1 + u).toNat (iv ls)).flatten) hr0
      have lR : (Fr.rep g ls).length ≤ 24 := by rw [Fr.rep_length, hll]; omega
      have llR : Lts (Fr.rep g ls) := lls.rep g
      have hra := hH5.ne hr0
      have hrH := D5.back hr0
      refine gen_heap fun H6 e6 => ?_
      rw [← e6] at hR D6
      refine ⟨_, rfl, rfl, _, rfl, ?_⟩
      refine ite2 (fun _ => ?_) (fun _ => ?_)
      · obtain ⟨ws, ews⟩ : ∃ ws, ws = Fr.rep g ls := ⟨_, rfl⟩
        have lw0 : 0 < ws.length := by
          rw [ews, Fr.rep_length, hll]
          exact Nat.mul_pos (by omega) (by omega)
        rw [← ews] at hR lR llR
        refine ⟨_, rfl, _, rfl, r, _, rfl, .inl (SqL.of hR), a, c, _, _, rfl, D6.1, by omega, by rw [List.length_map]; omega, ?_, fun H7 z z0 z1 hH7 hK7 => ?_⟩
        · have : ((((iv ws).length : Nat) : Int)).natAbs ≤ 1000 := by rw [List.length_map]; omega
          exact Nat.lt_of_le_of_lt this (by decide)
        rw [List.length_map] at z1
        obtain ⟨j, rfl⟩ : ∃ j : Nat, z = (j : Int) := ⟨z.toNat, by omega⟩
        have hj : j < ws.length := by omega
        have D7 : Drew a c (n + 3 + 2 * m + 1 + 1) H H7 := ⟨hH7, D6.2.trans hK7⟩
        have hR7 := hK7 _ _ hra hR
        refine ⟨_, rfl, _, rfl, _, rfl, r, _, rfl, SqL.of hR7, fun p1 hp1 => ?_⟩
        rw [cut_to (by omega)]
        have sA := same_upd (o := .lst (iv (ws.take j))) hp1
        have hA : L2.upd H7 p1 (.lst (iv (ws.take j))) p1 = some (.lst (iv (ws.take j))) := upd_same
        obtain ⟨HA, eA⟩ : ∃ HA, HA = L2.upd H7 p1 (.lst (iv (ws.take j))) := ⟨_, rfl⟩
        rw [← eA] at sA hA ⊢
        refine ⟨_, rfl, _, rfl, r, _, _, _, rfl, rfl, SqL.of (sA _ _ hR7), atI_nat (iv_get (List.getElem?_eq_getElem hj)), _, rfl, (by show 1 ≤ sizeLine; decide), fun p3 hp3 => ?_⟩
        have sC := sA.trans (same_upd (o := .lst [.int (-ws[j])]) hp3)
        have hC : L2.upd HA p3 (.lst [.int (-ws[j])]) p3 = some (.lst [.int (-ws[j])]) := upd_same
        have hA' := (same_upd (o := .lst [.int (-ws[j])]) hp3) _ _ hA
        obtain ⟨HC, eC⟩ : ∃ HC, HC = L2.upd HA p3 (.lst [.int (-ws[j])]) := ⟨_, rfl⟩
        rw [← eC] at sC hC hA' ⊢
        refine ⟨p1, p3, _, _, rfl, rfl, hA', hC, Evl.sz_of (by simp only [List.length_map, List.length_take, List.length_cons, List.length_nil]; omega), fun p4 hp4 => ?_⟩
        have sD := sC.trans (same_upd (o := .lst (iv (ws.take j) ++ [.int (-ws[j])])) hp4)
        have hD : L2.upd HC p4 (.lst (iv (ws.take j) ++ [.int (-ws[j])])) p4 = some (.lst (iv (ws.take j) ++ [.int (-ws[j])])) := upd_same
        obtain ⟨HD, eD⟩ : ∃ HD, HD = L2.upd HC p4 (.lst (iv (ws.take j) ++ [.int (-ws[j])])) := ⟨_, rfl⟩
        rw [← eD] at sD hD ⊢
        refine ⟨_, rfl, _, rfl, _, _, rfl, rfl, _, rfl, r, _, rfl, SqL.of (sD _ _ hR7), fun p5 hp5 => ?_⟩
        have e1 : (j : Int) + 1 = ((j + 1 : Nat) : Int) := by omega
        have hcut : cutV (iv ws) (some ((j : Int) + 1)) none = iv (ws.drop (j + 1)) := by rw [e1, cut_from (by omega)]
        have sE := sD.trans (same_upd (o := .lst (cutV (iv ws) (some ((j : Int) + 1)) none)) hp5)
        have hE : L2.upd HD p5 (.lst (cutV (iv ws) (some ((j : Int) + 1)) none)) p5 = some (.lst (iv (ws.drop (j + 1)))) := by rw [upd_same, hcut]
        have hD' := (same_upd (o := .lst (cutV (iv ws) (some ((j : Int) + 1)) none)) hp5) _ _ hD
        refine gen_heap fun HE eE => ?_
        rw [← eE] at sE hE hD'
        refine ⟨p4, p5, _, _, rfl, rfl, hD', hE, Evl.sz_of (by simp only [List.length_append, List.length_map, List.length_take, List.length_drop, List.length_cons, List.length_nil]; omega), fun p6 hp6 => ?_⟩
        have D9 := D7.same (sE.trans (same_upd (o := .lst (iv (ws.take j) ++ [.int (-ws[j])] ++ iv (ws.drop (j + 1)))) hp6))
        refine ⟨_, rfl, k p6 _ (ws.take j ++ [-ws[j]] ++ ws.drop (j + 1)) ((D7.same sE).back hp6) (D9.mono (by omega)) (by rw [upd_same]; simp [iv]) ?_ fun x hx => ?_⟩
        · simp only [List.length_append, List.length_take, List.length_drop, List.length_cons, List.length_nil]
          omega
        · simp only [List.mem_append, List.mem_singleton] at hx
          rcases hx with (hx | rfl) | hx
          · exact llR x (List.mem_of_mem_take hx)
          · rw [Int.natAbs_neg]; exact llR _ (List.getElem_mem hj)
          · exact llR x (List.mem_of_mem_drop hx)
      · exact ⟨_, rfl, k r H6 _ hrH (D6.mono (by omega)) hR lR llR⟩
end
end W06
set_option Elab.async false
set_option linter.all false
set_option maxRecDepth 100000
set_option maxHeartbeats 4000000
namespace W06
open PySem L2 PySem.Spec PyProof.Rows WR
/-! ### a def called by keywords alone -/
structure CalK (P : Program) (w : World) (K : PySem.W.Frag) (mg : Str → Option Value) (base : Heap) (x : Str) (k : Nat) (ps ks : List Str) (gV : List V → List V) (sp : Sp) : Prop where
  ex : ∃ (f : Addr) (fd : FuncData) (g : List Value → List Value), FnOk P w K mg base CX0 k f fd ps sp ∧ mg x = some (.ref f) ∧ PySem.W.keepIn K (.ref f) = true ∧ KBn K fd ps 0 ks (fun _ ws => g ws) (fun _ zs => gV zs)
def tCalK (sp : Sp) (gV : List V → List V) (m : Nat) (tk : TA) : TE := fun σ H Q => tk σ H fun zs H2 => zs.length = m ∧ sp (gV zs) H2 Q E0
section
variable {X : Cx} {x : Str} {k j : Nat} {ps ks : List Str} {gV : List V → List V} {sp : Sp} {p pos : Pos} {kws : List Keyword} {tk : TA}
theorem pe_calK (C : CalK X.prog X.w X.K X.mg X.base x k ps ks gV sp) (hr : Room j X.A) (hkj : k ≤ j) (hg : Gl X x) (hkw : PK X kws tk) (hall : (backToKw pos (keywordEach kws X.env)).all (·.1.isSome) = true := by rfl)
    (hks : (backToKw pos (keywordEach kws X.env)).filterMap (·.1) = ks := by rfl) (hdb : (x == ("__debug__" : Str)) = false := by decide) (hpl : ((backTo pos (starEach [] X.env)).any (·.1) || (backToKw pos (keywordEach kws X.env)).any (·.1.isNone)) = false := by rfl) :
    PE X (.Call (.Name x p) [] kws pos) (tCalK sp gV ks.length tk) := by
  obtain ⟨f, fd, g, F, hm, hk, hb⟩ := C.ex
  refine ⟨fun pins s σ H Q I h => ?_⟩
  refine wpAny_Call_Name_kw (ld_glob I hg hm ?_ hdb)
  refine PySem.W.callWith_KW0 (h₀ := X.base) I.ok.mod.kin hk hall ?_ hpl
  refine thn (hkw.run pos pins s σ H _ I h) fun ws s2 ⟨zs, H2, I2, rz, lz, q2⟩ => ⟨I2.kIn, ?_⟩
  rw [hks]
  have r2 := hb.rel (vs := []) (us := []) .nil rz
  have hl : ws.length = ks.length := by rw [← rz.length, lz]
  refine wpAny_call (codeAny_mono ((F.mono hkj).run X.A X.stack s2 H2 ⟨[], ks.zip ws⟩ (g ws) (gV zs) Q E0 hr I2.env0 (hb.to s2 [] ws I2.kIn rfl hl) r2 q2) fun r s' hq => ?_)
  cases r with
  | error e => exact pass0 pins σ H2 s2 e s' I2 hq
  | ok fl =>
    cases fl with
    | ret u => exact I2.after hq
    | next => exact False.elim hq
    | brk => exact False.elim hq
    | cont => exact False.elim hq
end
/-! ### a comprehension over enumerate(..) that changes nothing -/
theorem lcE {K : PySem.W.Frag} {a : Addr} {xs : List V} {g : TG} {tt : TT} {te : TE} {vs : List Nat} {σ : L2.St} {H1 : Hp} {Q : VK} (f : Nat → Bool) (v : Nat → V) (hz : xs.length < 40000) (hS : SqL K H1 a xs)
    (hs : ∀ i x, xs[i]? = some x → ∀ H, Same H1 H → ∀ T, H T = none → ∀ (Qy : V → Hp → Prop) (Qn : Hp → Prop), (f i = true → ∀ H', Same H H' → Qy (v i) H') → (f i = false → ∀ H', Same H H' → Qn H') →
      g (.ref T) (wipe σ vs) (L2.upd H T (.tup [.int (i : Nat), x])) fun σ2 H2 => wipe σ2 vs = wipe σ vs ∧ tt σ2 H2 fun b H3 => if b = true then te σ2 H3 Qy else Qn H3)
    (hd : ∀ (D : Addr) H', H1 D = none → Same H1 H' → H' D = some (.lst (((List.range xs.length).filter f).map v)) → Q (.ref D) H') : tLc (fun _ H R => R (Ite K a) H) g tt te vs σ H1 Q := by
  intro D hD
  refine lc_it (walk_enum (xs := xs)) (fun i H => Same H1 H ∧ H D = some (.lst (((List.range i).filter f).map v))) ⟨fun b o e => by rw [upd_ne (ne_of_none e hD)]; exact e, upd_same⟩ (fun i H _ q => q.1.seq hS) ?_ ?_
  · rintro i x H H' hi q ⟨T, y1, y2, rfl, hT, rfl, e1, hx⟩
    cases e1
    refine hs i y2 hx H q.1 T hT _ _ (fun hf H2 s2 => ⟨_, s2 _ _ q.2, ?_, ?_, ?_⟩) (fun hf H2 s2 => ⟨fun b o e => s2 b o (q.1 b o e), ?_⟩)
    · refine Evl.sz_lt ?_
      rw [List.length_map]
      have := List.length_filter_le f (List.range i)
      rw [List.length_range] at this
      omega
    · intro b o e
      rw [upd_ne (ne_of_none e hD)]
      exact s2 b o (q.1 b o e)
    · rw [upd_same, List.range_succ, List.filter_append, List.map_append, List.filter_cons, if_pos hf]
      rfl
    · rw [List.range_succ, List.filter_append, List.filter_cons, if_neg (by rw [hf]; decide)]
      show H2 D = some (.lst (((List.range i).filter f ++ []).map v))
      rw [List.append_nil]
      exact s2 _ _ q.2
  · intro H q
    exact hd D H hD q.1 q.2
theorem as_lc {wi : TI} {g g2 : TG} {tt : TT} {te : TE} {vs : List Nat} {σ : L2.St} {H : Hp} {D : Ends} (h : tLc wi g tt te vs σ H fun x H1 => g2 x σ H1 D.nx) : tAsg (tLc wi g tt te vs) g2 D σ H := h
theorem sq {t u : TS} {D : Ends} {σ : L2.St} {H : Hp} (h : t { D with nx := u D } σ H) : tSeq t u D σ H := h
theorem call_tupleK {X : Cx} {K : PySem.W.Frag} (h : X.K = K) : CallR X (.type "tuple") (fun xs H Q => ∃ p ys, xs = [.ref p] ∧ ((SqL K H p ys ∧ ∀ l, H l = none → Q (.ref l) (L2.upd H l (.tup ys))) ∨ (SqT K H p ys ∧ Q (.ref p) H))) := h ▸ call_tuple_of
/-! ### turns from one row to another one -/
def dues (ns ms : List Int) : List Nat := (List.range (max 1 ns.length)).filter fun j => decide (Lt.rot ns j = ms)
theorem first_dues (ns ms : List Int) : firstT ns ms = (dues ns ms).head? := by
  unfold firstT dues
  rw [List.head?_filter]
theorem first_spec {ns ms : List Int} {j : Nat} (h : firstT ns ms = some j) : j < max 1 ns.length ∧ Lt.rot ns j = ms := by
  unfold firstT at h
  have h1 := List.find?_some h
  have h2 := List.mem_of_find?_eq_some h
  exact ⟨List.mem_range.mp h2, of_decide_eq_true h1⟩
theorem rot_back {ns ms : List Int} {j : Nat} (hj : j < max 1 ns.length) (e : Lt.rot ns j = ms) : ∃ i, i < max 1 ms.length ∧ Lt.rot ms i = ns := by
  have hl : ms.length = ns.length := by rw [← e, Lt.rot_length]
  by_cases h0 : 0 < ns.length
  · refine ⟨(ns.length - j) % ns.length, by rw [hl]; have := Nat.mod_lt (ns.length - j) h0; omega, ?_⟩
    rw [← e, Lt.rot_rot (by omega) (Nat.le_of_lt (Nat.mod_lt _ h0)) h0]
    have e1 : (j + (ns.length - j) % ns.length) % ns.length = 0 := by
      rw [Nat.add_mod_mod]
      have : j + (ns.length - j) = ns.length := by omega
      rw [this, Nat.mod_self]
    rw [e1, rot_zero]
  · have e0 : ns = [] := List.length_eq_zero_iff.mp (by omega)
    subst e0
    have : ms = [] := List.length_eq_zero_iff.mp (by simpa using hl)
    subst this
    exact ⟨0, by decide, by unfold Lt.rot; simp⟩
theorem first_isSome {ns ms : List Int} {j : Nat} (hj : j < max 1 ns.length) (e : Lt.rot ns j = ms) : ∃ i, firstT ns ms = some i := by
  cases h : firstT ns ms with
  | some i => exact ⟨i, rfl⟩
  | none =>
    unfold firstT at h
    rw [List.find?_eq_none] at h
    exact absurd (decide_eq_true e) (by simpa using h j (List.mem_range.mpr hj))
theorem first_sym {ns ms : List Int} (h : firstT ns ms = none) : firstT ms ns = none := by
  cases h2 : firstT ms ns with
  | none => rfl
  | some j =>
    obtain ⟨h3, h4⟩ := first_spec h2
    obtain ⟨i, hi, e⟩ := rot_back h3 h4
    obtain ⟨k, hk⟩ := first_isSome hi e
    rw [h] at hk
    cases hk
theorem asV_non (o : Option Nat) : decide (asV o = V.non) = o.isNone := by
  cases o with
  | none => exact decide_eq_true rfl
  | some j => exact decide_eq_false (fun z => by cases z)
structure TxP (mg : Str → Option Value) : Prop where
  isin : mg "isinstance" = none
  bool : mg "bool" = none
  enum : mg "enumerate" = none
abbrev sPair : Stmt := top 45
abbrev nPair : List Str := ["_law_letters_here", "_law_others", "_law_one", "_law_other", "_law_mine", "_law_its", "_law_first", "_law_second", "_law_forms_here", "_law_due", "_law_told", "_law_by", "_law_form"]
def spPair : Sp := fun vs H Q _ => ∃ (p q : Addr) (ns ms : List Int), vs = [.ref p, .ref q] ∧ H p = some (.lst (iv ns)) ∧ H q = some (.lst (iv ms)) ∧ ns.length ≤ 500 ∧ ms.length ≤ 500 ∧ Lts ns ∧ Lts ms ∧ ∀ H', Same H H' → Q (.bl true) H'
section
variable {P : Program} {w : World} {K : PySem.W.Frag} {mg : Str → Option Value} {base : Heap}
theorem scPair : FnScope nPair ["_law_letters_here", "_law_others"] (defScope sPair) := ⟨rfl, rfl, rfl, by decide +kernel, rfl, by decide +kernel, by decide +kernel⟩
theorem ok_pair {C f : Addr} {fd : FuncData} (F : Fun K "_law_pair_right" "_law_pair_right" sPair f fd) (T : TxW K mg C) (W : AllW P w K mg base C) (TA : TxA mg) (N : TxP mg)
    (GF : Cal P w K mg base "_law_forms" 1 ["_law_letters_here"] (spForms K)) (GT : Cal P w K mg base "turn_to" 3 ["one", "other"] (spTurnTo K C)) (GTK : CalK P w K mg base "turn_to" 3 ["one", "other"] ["other", "one"] List.reverse (spTurnTo K C)) :
    FnOk P w K mg base CX0 7 f fd ["_law_letters_here", "_law_others"] spPair := by
  refine F.ok scPair (fun vs H Q E h => ?_) (fun cdv A outer s H vs Q E hr h => ?_)
  · obtain ⟨p, q, ns, ms, rfl, _⟩ := h
    rfl
  · obtain ⟨p, q, ns, ms, rfl, hp, hq, hn, hm, ln, lm, k⟩ := h
    refine ⟨_, pss_cons (ps_par (i := 2) (j := 3) (by rfl) scPair.nd rfl rfl (by decide) rfl rfl (pa_cons (pe_word W.mkw T hr (by decide) (by rfl) (pa_cons (pv 0) pa_nil)) (pa_cons (pe_word W.mkw T hr (by decide) (by rfl) (pa_cons (pv 1) pa_nil)) pa_nil)) (by rfl))
      (pss_cons (ps_for PassesOwn.never rfl (pi_tup (pe_tup (pa_cons (pe_tup (pa_cons (pv 2) (pa_cons (pv 3) (pa_cons (pv 0) (pa_cons (pv 1) (pa_nil)))))) (pa_cons (pe_tup (pa_cons (pv 3) (pa_cons (pv 2) (pa_cons (pv 1) (pa_cons (pv 0) (pa_nil)))))) (pa_nil))))) (pg_tup (n := 4) rfl (pgs_cons (pg_name (i := 4) scPair.nd rfl (Or.inl rfl)) (pgs_cons (pg_name (i := 5) scPair.nd rfl (Or.inl rfl)) (pgs_cons (pg_name (i := 6) scPair.nd rfl (Or.inl rfl)) (pgs_cons (pg_name (i := 7) scPair.nd rfl (Or.inr rfl)) pgs_nil)))))
        (pss_cons (ps_set (i := 8) scPair.nd rfl (Or.inl rfl) (pe_cal GF hr (by decide) (by rfl) (pa_cons (pv 6) (pa_nil))))
        (pss_cons (ps_setLc (i := 9) (own := [("_law_by", 11), ("_law_form", 12)]) (g := gTup K 2 (gCons (gName 11) (gCons (gName 12) gNil))) rfl scPair.nd rfl rfl (sw_true rfl rfl rfl (by decide +kernel)) (pi_enum (by rfl) N.enum (pa_cons (pv 8) pa_nil))
          (blkOk_by (N := nPair) (sc := defScope sPair) (by decide +kernel)) (fun _ _ _ _ _ => pg_tup (n := 2) rfl (pgs_cons (pg_name (i := 11) scPair.nd rfl (Or.inl rfl)) (pgs_cons (pg_name (i := 12) scPair.nd rfl (Or.inl rfl)) pgs_nil)))
          (fun _ _ _ _ _ => pts_one (pt_cmpR (r := rEqD K) (op_eqD hr.units) (pv 12) (pe_callTy (call_tupleK (K := K) rfl) (by rfl) TA.tuple (by decide +kernel) (pa_cons (pv 7) pa_nil)) (nomark _))) (fun _ _ _ _ _ => pv 11))
        (pss_cons (ps_set (i := 10) scPair.nd rfl (Or.inl rfl) (pe_calK GTK hr (by decide) (by rfl) (pk_cons (pv 5) (pk_cons (pv 4) pk_nil))))
        (pss_one (ps_if (pt_cmpR (op_eqD hr.units) (pv 9) (pe_lst pa_nil) (nomark _)) (pss_one (ps_if (pt_cmpR op_notN (pv 10) pe_non (nomark _)) (pss_one (ps_ret pe_bl)) pss_nil)) (pss_one (ps_if (PW.pt (pw_or (pt_cmpR op_ne (pv 10) (pe_ix ix_list (pv 9) pe_int (fun _ _ => rfl)) (nomark _)) (pw_or (pt_val (pe_callB call_isi (by rfl) N.isin (by decide +kernel) (pa_cons (pv 10) (pa_cons (pe_bltn (v := .ty "bool") (by rfl) N.bool (by decide +kernel) rfl) pa_nil)))) (pw_or (pt_cmpR (op_neW W.eq W.ne T.cm hr (by decide)) (pe_w1 W.trd T.cl hr (by decide) (pv 4) (pa_cons (pv 10) pa_nil)) (pv 5) (nomark _)) (pw_or1 (pt_cmpR op_ne (pe_cal GT hr (by decide) (by rfl) (pa_cons (pv 4) (pa_cons (pv 5) (pa_nil)))) (pv 10) (nomark _))))))) (pss_one (ps_ret pe_bl)) pss_nil))))))))
      (pss_one (ps_ret (pe_cmpR op_eq (pe_cmpR op_isN (pe_cal GT hr (by decide) (by rfl) (pa_cons (pv 2) (pa_cons (pv 3) (pa_nil)))) pe_non (nomark _)) (pe_cmpR op_isN (pe_cal GT hr (by decide) (by rfl) (pa_cons (pv 3) (pa_cons (pv 2) (pa_nil)))) pe_non (nomark _)) (nomark _))))), ?_⟩
    refine ⟨_, rfl, fun x dx0 nx0 ndx0 _ => make_at nx0 ndx0 (.inl (SqL.of hp)) hn ln fun H1 s1 W1 => ?_⟩
    refine ⟨_, rfl, fun y dx1 ny0 ndy0 _ => make_at ny0 ndy0 (.inl (SqL.of (s1 _ _ hq))) hm lm fun H2 s2 W2 => ⟨_, _, rfl, ?_⟩⟩
    have s12 := s1.trans s2
    have W1' := W1.same s2
    refine ⟨_, rfl, _, rfl, _, rfl, _, rfl, (by show 4 ≤ sizeLine; decide), fun t1 ht1 => ?_⟩
    have sa := same_upd (o := .tup [.ref x, .ref y, .ref p, .ref q]) ht1
    have ha : L2.upd H2 t1 (.tup [.ref x, .ref y, .ref p, .ref q]) t1 = some (.tup [.ref x, .ref y, .ref p, .ref q]) := upd_same
    refine gen_heap fun Ha ea => ?_
    rw [← ea] at sa ha
    refine ⟨_, rfl, _, rfl, _, rfl, _, rfl, (by show 4 ≤ sizeLine; decide), fun t2 ht2 => ?_⟩
    have sb := same_upd (o := .tup [.ref y, .ref x, .ref q, .ref p]) ht2
    have hb : L2.upd Ha t2 (.tup [.ref y, .ref x, .ref q, .ref p]) t2 = some (.tup [.ref y, .ref x, .ref q, .ref p]) := upd_same
    have ha' := sb _ _ ha
    refine gen_heap fun Hb eb => ?_
    rw [← eb] at sb hb ha'
    refine ⟨(by show 2 ≤ sizeLine; decide), fun T0 hT0 => ?_⟩
    have sc := same_upd (o := .tup [.ref t1, .ref t2]) hT0
    have hc : L2.upd Hb T0 (.tup [.ref t1, .ref t2]) T0 = some (.tup [.ref t1, .ref t2]) := upd_same
    have ha2 := sc _ _ ha'
    have hb2 := sc _ _ hb
    have s2c := (sa.trans sb).trans sc
    refine gen_heap fun H3 e3 => ?_
    rw [← e3] at sc hc ha2 hb2 s2c
    have sH3 := s12.trans s2c
    have WX := W1'.same s2c
    have WY := W2.same s2c
    have hp3 := sH3 _ _ hp
    have hq3 := sH3 _ _ hq
    refine ⟨T0, rfl, ⟨_, SqT.of hc⟩, for_tup (K := K) (a := T0) (xs := [.ref t1, .ref t2]) (fun i σ H' => ∃ v4 v5 v6 v7 v8 v9 v10 v11 v12, σ = [some (.ref p), some (.ref q), some (.ref x), some (.ref y), v4, v5, v6, v7, v8, v9, v10, v11, v12] ∧ Same H3 H')
      ⟨none, none, none, none, none, none, none, none, none, rfl, Same.refl H3⟩ (fun i σ H' _ ⟨_, _, _, _, _, _, _, _, _, _, s⟩ => SqT.of (s _ _ hc)) ?_ ?_⟩
    · rintro i y0 σ H4 hi ⟨v4, v5, v6, v7, v8, v9, v10, v11, v12, rfl, sm⟩
      obtain ⟨t, m, z, f1, f2, fs, ss, rfl, ht, Wm, Wz, hf1, hf2, nf, ns', lf, ls⟩ : ∃ (t m z f1 f2 : Addr) (fs ss : List Int), y0 = V.ref t ∧ H3 t = some (.tup [.ref m, .ref z, .ref f1, .ref f2]) ∧ WordAt K C H3 m fs ∧ WordAt K C H3 z ss ∧ H3 f1 = some (.lst (iv fs)) ∧ H3 f2 = some (.lst (iv ss)) ∧ fs.length ≤ 500 ∧ ss.length ≤ 500 ∧ Lts fs ∧ Lts ss := by
        rcases i with _ | _ | i
        · have : V.ref t1 = y0 := by simpa using hi
          exact ⟨t1, x, y, p, q, ns, ms, this.symm, ha2, WX, WY, hp3, hq3, hn, hm, ln, lm⟩
        · have : V.ref t2 = y0 := by simpa using hi
          exact ⟨t2, y, x, q, p, ms, ns, this.symm, hb2, WY, WX, hq3, hp3, hm, hn, lm, ln⟩
        · simp at hi
      refine ⟨t, _, rfl, SqT.of (sm _ _ ht), rfl, _, _, rfl, _, _, rfl, _, _, rfl, _, _, rfl, rfl, ?_⟩
      have Wm4 := Wm.same sm
      have Wz4 := Wz.same sm
      refine ⟨_, rfl, f1, fs, rfl, sm _ _ hf1, nf, fun g H5 hg0 s5 hF => ?_⟩
      have sm5 := sm.trans s5
      obtain ⟨rs, hg, hrl, hrs⟩ := hF
      have xl : (rs.map V.ref).length = max 1 fs.length := by rw [List.length_map, hrl]
      dsimp only
      refine sq ?_
      refine as_lc ?_
      refine lc_in ?_
      refine ⟨_, rfl, g, _, rfl, SqL.of hg, ?_⟩
      refine lcE (fun j => decide (Lt.rot fs j = ss)) (fun j => V.int (j : Int)) (by rw [xl]; omega) (SqL.of hg) ?_ ?_
      · intro j y1 hy1 H6 s6 T6 hT6 Qy Qn ky kn
        rw [List.getElem?_map] at hy1
        cases er : rs[j]? with
        | none => rw [er] at hy1; cases hy1
        | some r =>
          rw [er] at hy1
          cases hy1
          have s7 := same_upd (o := .tup [.int (j : Nat), .ref r]) hT6
          have h7 : L2.upd H6 T6 (.tup [.int (j : Nat), .ref r]) T6 = some (.tup [.int (j : Nat), .ref r]) := upd_same
          obtain ⟨H7, e7⟩ : ∃ H7, H7 = L2.upd H6 T6 (.tup [.int (j : Nat), .ref r]) := ⟨_, rfl⟩
          rw [← e7] at s7 h7 ⊢
          have s57 := s6.trans s7
          refine ⟨T6, _, rfl, SqT.of h7, rfl, _, _, rfl, _, _, rfl, rfl, ?_⟩
          refine ⟨rfl, ?_⟩
          refine ⟨_, rfl, _, rfl, f2, _, rfl, .inl ⟨SqL.of (s57 _ _ (sm5 _ _ hf2)), fun l8 hl8 => ?_⟩⟩
          have s8 := same_upd (o := .tup (iv ss)) hl8
          refine ⟨_, _, .tup (WR.Same.seqT (s57.trans s8) (hrs j r er)) (dp_iv _), .tup (SqT.of upd_same) (dp_iv _), shaped_ints _, shaped_ints _, _, rfl, ?_⟩
          rw [eqv_ints]
          refine ite2 (fun he => ?_) (fun he => ?_)
          · exact ⟨_, rfl, ky he _ (s7.trans s8)⟩
          · exact kn (Bool.eq_false_iff.mpr he) _ (s7.trans s8)
      intro D H6 hD s6 h6
      have eD : ((List.range (rs.map V.ref).length).filter fun j => decide (Lt.rot fs j = ss)).map (fun j => V.int ((j : Nat) : Int)) = iv ((dues fs ss).map fun j => ((j : Nat) : Int)) := by
        rw [xl]
        simp [iv, dues, Function.comp_def]
      rw [eD] at h6
      have sm6 := sm5.trans s6
      have Wm6 := Wm.same sm6
      have Wz6 := Wz.same sm6
      refine ⟨_, rfl, _, rfl, rfl, m, z, fs, ss, rfl, Wm6, Wz6, nf, fun H7 s7 => ?_⟩
      have sm7 := sm6.trans s7
      have h7 := s7 _ _ h6
      have Wm7 := Wm.same sm7
      have Wz7 := Wz.same sm7
      refine ⟨_, rfl, Nat.zero_le _, fun e8 he8 => ?_⟩
      have s8 := same_upd (o := .lst []) he8
      have h8 := s8 _ _ h7
      refine ⟨_, _, .lst (SqL.of h8) (dp_iv _), .lst (SqL.of (xs := iv []) upd_same) .nil, PySem.W.ke_shaped_ints _, rfl, _, rfl, ?_⟩
      have sm8 := sm7.trans s8
      have Wm8 := Wm.same sm8
      have Wz8 := Wz.same sm8
      refine gen_heap fun H8 e8' => ?_
      rw [← e8'] at h8 sm8 Wm8 Wz8
      have enil : PyData.eqv (.list (((dues fs ss).map fun j => ((j : Nat) : Int)).map .int)) (.list []) = decide ((dues fs ss).map (fun j => ((j : Nat) : Int)) = []) := eqvL_ints _ []
      cases hd : dues fs ss with
      | nil =>
        have ef : firstT fs ss = none := by rw [first_dues, hd]; rfl
        rw [hd] at enil
        refine iteT' (by rw [enil]; exact decide_eq_true rfl) ?_
        rw [ef]
        refine ⟨_, rfl, rfl, _, rfl, ?_⟩
        refine iteF' (by rw [asV_non]; rfl) ?_
        exact ⟨_, _, _, _, _, _, _, _, _, rfl, sm8⟩
      | cons j0 rest =>
        have ef : firstT fs ss = some j0 := by rw [first_dues, hd]; rfl
        obtain ⟨hj0, ej0⟩ := first_spec ef
        rw [hd] at enil h8
        refine iteF' (by rw [enil]; exact decide_eq_false (by simp)) ?_
        rw [ef]
        refine ⟨_, rfl, _, rfl, D, _, _, _, rfl, rfl, SqL.of h8, atI_nat (j := 0) (v := V.int (j0 : Int)) rfl, rfl, _, rfl, ?_⟩
        refine no_ne (decide_eq_true rfl) ?_
        refine ⟨_, rfl, V.int (j0 : Int), _, _, _, _, rfl, .ty _, (Typ.int (H := H8) ((j0 : Nat) : Int)).ty, (Typ.int (H := H8) ((j0 : Nat) : Int)).kBool, _, rfl, ?_⟩
        refine iteF' rfl ?_
        obtain ⟨dx, fl, h1, h2⟩ := Wm8.no nm6
        refine ⟨_, rfl, m, dx, fl, rfl, h1, h2, _, rfl, m, (j0 : Int), fs, rfl, Wm8, nf, lf, fun u H9 s9 W9 => ?_⟩
        rw [trn_nat hj0, ej0] at W9
        refine ⟨_, rfl, u, z, ss, ss, rfl, rfl, W9, Wz8.same s9, _, rfl, ?_⟩
        refine no_ne (decide_eq_true rfl) ?_
        refine ⟨_, rfl, _, rfl, m, z, fs, ss, rfl, Wm8.same s9, Wz8.same s9, nf, fun H10 s10 => ?_⟩
        rw [ef]
        refine ⟨_, rfl, rfl, _, rfl, ?_⟩
        refine no_ne (decide_eq_true rfl) ?_
        exact ⟨_, _, _, _, _, _, _, _, _, rfl, (sm8.trans s9).trans s10⟩
    · rintro σ H4 ⟨v4, v5, v6, v7, v8, v9, v10, v11, v12, rfl, sm⟩
      refine ⟨_, rfl, _, rfl, x, y, ns, ms, rfl, WX.same sm, WY.same sm, hn, fun H5 s5 => ⟨rfl, ?_⟩⟩
      have sm5 := sm.trans s5
      refine ⟨_, rfl, _, rfl, y, x, ms, ns, rfl, WY.same sm5, WX.same sm5, hm, fun H6 s6 => ⟨rfl, rfl, ?_⟩⟩
      rw [asV_non, asV_non]
      have e : decide (V.bl (firstT ns ms).isNone = V.bl (firstT ms ns).isNone) = true := by
        refine decide_eq_true ?_
        cases h1 : firstT ns ms with
        | none => rw [first_sym h1]
        | some j =>
          cases h2 : firstT ms ns with
          | none => rw [first_sym h2] at h1; cases h1
          | some j' => rfl
      rw [e]
      exact k _ ((sH3.trans sm5).trans s6)

end
end W06
set_option Elab.async false
set_option linter.all false
set_option maxRecDepth 100000
set_option maxHeartbeats 4000000
namespace W06
open PySem L2 PySem.Spec PyProof.Rows WR
abbrev sLeastR : Stmt := top 46
abbrev sMoved : Stmt := top 47
theorem units65 {j : Nat} {A : Around} (hr : Room j A) (h : 1 ≤ j) : A.units + 65 < cLine := by
  have := (hr.mono h).in1.units
  exact this
theorem trn_rot (ns : List Int) (b : Int) : ∃ j, j < max 1 ns.length ∧ Lt.rot ns j = trn ns b := by
  by_cases h : ns = []
  · subst h
    exact ⟨0, by decide, by unfold trn Lt.rot; simp⟩
  · have h0 : 0 < ns.length := List.length_pos_iff.mpr h
    have e0 : 0 ≤ b % (ns.length : Int) := Int.emod_nonneg _ (by omega)
    have e1 : b % (ns.length : Int) < (ns.length : Int) := Int.emod_lt_of_pos _ (by omega)
    exact ⟨(b % (ns.length : Int)).toNat, by omega, by unfold trn; rw [if_neg h]⟩
theorem least_trn {ns ms : List Int} {b : Int} (h : Lt.Least (trn ns b) ms) : Lt.Least ns ms := by
  obtain ⟨j, hj, e⟩ := trn_rot ns b
  rw [← e] at h
  by_cases h0 : 0 < ns.length
  · exact h.turn (by omega)
  · have e0 : ns = [] := List.length_eq_zero_iff.mp (by omega)
    subst e0
    have : j = 0 := by simp at hj; omega
    subst this
    exact h.turn (Nat.le_refl _)
theorem least_rot {ns ms : List Int} (h : Lt.Least ns ms) : ∃ j, j < max 1 ns.length ∧ Lt.rot ns j = ms := by
  obtain ⟨p, hp, e, _⟩ := h
  exact ⟨p, hp, e.symm⟩
theorem turn_rot {R R' : List Int} (h : Fr.Trn R R') : ∃ j, j < max 1 R.length ∧ Lt.rot R j = R' := by
  obtain ⟨u, v, e1, e2⟩ := h
  by_cases hv : v = []
  · subst hv
    refine ⟨0, by omega, ?_⟩
    rw [rot_zero, e1, e2]
    simp
  · have : 0 < v.length := List.length_pos_iff.mpr hv
    refine ⟨u.length, by rw [e1, List.length_append]; omega, ?_⟩
    unfold Lt.rot
    rw [e1, e2, List.drop_left, List.take_left]
theorem some_ne {ns ms : List Int} (h : ∃ j, j < max 1 ns.length ∧ Lt.rot ns j = ms) : decide (asV (firstT ns ms) = V.non) = false := by
  obtain ⟨j, hj, e⟩ := h
  obtain ⟨i, hi⟩ := first_isSome hj e
  rw [asV_non, hi]
  rfl
def spLeastR : Sp := fun vs H Q _ => ∃ (a c p : Addr) (ns : List Int) (n : Nat), vs = [.ref a, .ref p] ∧ HandAt H a c n ∧ p ≠ a ∧ H p = some (.lst (iv ns)) ∧ ns.length ≤ 500 ∧ n + 3 ≤ 9000 ∧ Lts ns ∧ ∀ H', Drew a c (n + 3) H H' → Q (.bl true) H'
def spMoved : Sp := fun vs H Q _ => ∃ (a c p : Addr) (ns : List Int) (n : Nat), vs = [.ref a, .ref p] ∧ HandAt H a c n ∧ p ≠ a ∧ H p = some (.lst (iv ns)) ∧ ns.length ≤ 100 ∧ n + 13 ≤ 9000 ∧ Lts ns ∧ ∀ H', Drew a c (n + 13) H H' → Q (.bl true) H'
abbrev nLeastR : List Str := ["_law_jar_here", "_law_letters_here", "_law_word", "_law_least", "_law_told", "_law_turn", "_law_by"]
abbrev nMoved : List Str := ["_law_jar_here", "_law_letters_here", "_law_ahead", "_law_word", "_law_moved", "_law_bare"]
section
variable {P : Program} {w : World} {K : PySem.W.Frag} {mg : Str → Option Value} {base : Heap}
theorem scLeastR : FnScope nLeastR ["_law_jar_here", "_law_letters_here"] (defScope sLeastR) := ⟨rfl, rfl, rfl, by decide +kernel, rfl, by decide +kernel, by decide +kernel⟩
theorem ok_leastR {C f : Addr} {fd : FuncData} (F : Fun K "_law_least_right" "_law_least_right" sLeastR f fd) (T : TxW K mg C) (W : AllW P w K mg base C) (TA : TxA mg) (TN : TxN mg) (hmin : mg "min" = none)
    (GD : Cal P w K mg base "_law_draw" 1 ["_law_jar_here", "_law_many"] spTake) (GF : Cal P w K mg base "_law_forms" 1 ["_law_letters_here"] (spForms K)) (GT : Cal P w K mg base "turn_to" 3 ["one", "other"] (spTurnTo K C))
    (GL : Cal P w K mg base "least_turned" 7 ["word"] (spLeastT K C)) (GLK : CalK P w K mg base "least_turned" 7 ["word"] ["word"] id (spLeastT K C)) :
    FnOk P w K mg base CX0 8 f fd ["_law_jar_here", "_law_letters_here"] spLeastR := by
  refine F.ok scLeastR (fun vs H Q E h => ?_) (fun cdv A outer s H vs Q E hr h => ?_)
  · obtain ⟨a, c, p, ns, n, rfl, _⟩ := h
    rfl
  · obtain ⟨a, c, p, ns, n, rfl, hH, hpa, hp, hn, hnn, ln, k⟩ := h
    refine ⟨_, pss_cons (ps_par (i := 2) (j := 3) (by rfl) scLeastR.nd rfl rfl (by decide) rfl rfl (pa_cons (pe_word W.mkw T hr (by decide) (by rfl) (pa_cons (pv 1) pa_nil)) (pa_cons (pe_callB (MinRows.call_minT rfl (units65 hr (by decide))) (by rfl) hmin (by decide +kernel) (pa_cons (pe_cal GF hr (by decide) (by rfl) (pa_cons (pv 1) pa_nil)) pa_nil)) pa_nil)) (by rfl))
      (pss_cons (ps_set (i := 4) scLeastR.nd rfl (Or.inl rfl) (pe_calK GLK hr (by decide) (by rfl) (pk_cons (pv 2) pk_nil)))
      (pss_cons (ps_if (PW.pt (pw_or (pt_not (pt_val (pe_callB call_isi (by rfl) T.isin (by decide +kernel) (pa_cons (pv 4) (pa_cons (pe_glob (v := .ref C) (by rfl) T.mgW rfl) pa_nil)))))
          (pw_or (pt_cmpR (op_neD hr.units) (pe_fld (pv 4) rfl) (pv 3) (nomark _)) (pw_or (pt_cmpR (op_neW W.eq W.ne T.cm hr (by decide)) (pe_cal GL hr (by decide) (by rfl) (pa_cons (pv 4) pa_nil)) (pv 4) (nomark _)) (pw_or1 (pt_cmpR op_isN (pe_cal GT hr (by decide) (by rfl) (pa_cons (pv 2) (pa_cons (pv 4) pa_nil))) pe_non (nomark _))))))) (pss_one (ps_ret pe_bl)) pss_nil)
      (pss_cons (ps_for PassesOwn.never rfl (pi_range1 (by rfl) TN.range (pa_cons pe_int pa_nil)) (pg_name (i := 5) scLeastR.nd rfl (Or.inl rfl))
        (pss_cons (ps_set (i := 6) scLeastR.nd rfl (Or.inl rfl) (pe_op op_sub (pe_cal GD hr (by decide) (by rfl) (pa_cons (pv 0) (pa_cons pe_int pa_nil))) pe_int))
        (pss_one (ps_if (PW.pt (pw_or (pt_cmpR (op_neW W.eq W.ne T.cm hr (by decide)) (pe_cal GL hr (by decide) (by rfl) (pa_cons (pe_w1 W.trd T.cl hr (by decide) (pv 2) (pa_cons (pv 6) pa_nil)) pa_nil)) (pv 4) (nomark _)) (pw_or1 (pt_cmpR op_isN (pe_cal GT hr (by decide) (by rfl) (pa_cons (pv 2) (pa_cons (pe_w1 W.trd T.cl hr (by decide) (pv 2) (pa_cons (pv 6) pa_nil)) pa_nil))) pe_non (nomark _))))) (pss_one (ps_ret pe_bl)) pss_nil))))
      (pss_one (ps_ret (pe_cmpR (op_eqD hr.units) (pe_fld (pv 2) rfl) (pe_callTy call_tuple_of (by rfl) TA.tuple (by decide +kernel) (pa_cons (pv 1) pa_nil)) (nomark _))))))), ?_⟩
    refine ⟨_, rfl, fun x dx0 nx0 ndx0 _ => make_at nx0 ndx0 (.inl (SqL.of hp)) hn ln fun H1 s1 W1 => ?_⟩
    refine ⟨_, rfl, p, ns, rfl, s1 _ _ hp, hn, fun g H2 hg0 s2 hF => ?_⟩
    obtain ⟨rs, hg, hrl, hrs⟩ := hF
    refine ⟨g, rs, forms ns, rfl, SqL.of hg, by rw [hrl, forms_length], by rw [forms_length]; omega, fun j r t h1 h2 => ?_, fun j r t h1 h2 hmn => ⟨_, _, rfl, ?_⟩⟩
    · have hj : j < max 1 ns.length := by rw [← hrl]; exact (List.getElem?_eq_some_iff.mp h1).1
      rw [forms_at hj] at h2
      cases h2
      exact hrs j r h1
    have hj : j < max 1 ns.length := by rw [← hrl]; exact (List.getElem?_eq_some_iff.mp h1).1
    have hr1 := hrs j r h1
    rw [forms_at hj] at h2
    cases h2
    have hL0 := least_of_min hj hmn
    have s12 := s1.trans s2
    have W2 := W1.same s2
    refine ⟨_, rfl, rfl, x, ns, rfl, W2, hn, ln, fun ms hL y H3 s3 W3 => ?_⟩
    have em := hL0.uniq hL
    rw [em] at hr1
    have lm : Lts ms := by
      obtain ⟨i, _, e⟩ := least_rot hL
      intro z hz
      rw [← e] at hz
      exact ln z (Lt.rot_mem hz)
    have hm : ms.length ≤ 500 := by rw [hL.length]; exact hn
    have WX3 := W2.same s3
    have hr3 := WR.Same.seqT s3 hr1
    refine ⟨_, rfl, _, _, _, _, _, rfl, .own C, W3.tyx T, kit_self C, _, rfl, ?_⟩
    refine no_ne rfl ?_
    obtain ⟨dx, tl, tk, ks, h1, h2, _⟩ := id W3
    refine ⟨_, rfl, y, C, dx, _, _, rfl, h1, T.cl, T.nL, wf_letters, _, rfl, _, _, .tup h2 (dp_iv _), .tup hr3 (dp_iv _), shaped_ints _, shaped_ints _, _, rfl, ?_⟩
    refine no_ne (by rw [eqv_ints, decide_eq_true rfl]) ?_
    refine ⟨_, rfl, y, ms, rfl, W3, hm, lm, fun ms' hL' z H4 s4 W4 => ?_⟩
    have e' := hL'.uniq hL.self
    have W34 := W3.same s4
    refine ⟨_, rfl, z, y, _, _, rfl, rfl, W4, W34, _, rfl, ?_⟩
    refine no_ne (decide_eq_true e') ?_
    have WX4 := WX3.same s4
    refine ⟨_, rfl, _, rfl, x, y, ns, ms, rfl, WX4, W34, hn, fun H5 s5 => ⟨rfl, _, rfl, ?_⟩⟩
    refine iteF' (some_ne (least_rot hL)) ?_
    have sH5 := ((s12.trans s3).trans s4).trans s5
    have D5 : Drew a c n H H5 := (Drew.refl hH).same sH5
    have WX5 := WX4.same s5
    have WY5 := W34.same s5
    refine ⟨3, rfl, by decide, by decide, ?_⟩
    refine for_range (lo := 0) (n := 3) (fun i σ H' => ∃ v5 v6, σ = [some (.ref a), some (.ref p), some (.ref x), some (.ref r), some (.ref y), v5, v6] ∧ Drew a c (n + i) H H' ∧ WordAt K C H' x ns ∧ WordAt K C H' y ms) ⟨none, none, rfl, D5, WX5, WY5⟩ ?_ ?_
    · rintro i σ H6 hi ⟨v5, v6, rfl, D6, WX6, WY6⟩
      refine ⟨_, rfl, a, c, 61, n + i, rfl, D6.1, by omega, by decide, by decide, fun H7 b b0 b1 hH7 hK7 => ⟨_, _, rfl, rfl, ?_⟩⟩
      have d7 : Drew a c (n + i + 1) H6 H7 := ⟨hH7, hK7⟩
      have D7 := D6.trans d7
      have WX7 := WX6.drew D6.1 d7
      have WY7 := WY6.drew D6.1 d7
      obtain ⟨dx, fl, h1, h2⟩ := WX7.no nm6
      refine ⟨_, rfl, x, dx, fl, rfl, h1, h2, _, rfl, x, (b - 30), ns, rfl, WX7, hn, ln, fun u H8 s8 W8 => ?_⟩
      refine ⟨u, trn ns (b - 30), rfl, W8, by rw [trn_length]; exact hn, ln.trn _, fun ms2 hL2 v H9 s9 W9 => ?_⟩
      have e2 := (least_trn hL2).uniq hL
      have s89 := s8.trans s9
      refine ⟨_, rfl, v, y, _, _, rfl, rfl, W9, WY7.same s89, _, rfl, ?_⟩
      refine no_ne (decide_eq_true e2) ?_
      have WX9 := WX7.same s89
      obtain ⟨dx, fl, h1, h2⟩ := WX9.no nm6
      refine ⟨_, rfl, _, rfl, x, dx, fl, rfl, h1, h2, _, rfl, x, (b - 30), ns, rfl, WX9, hn, ln, fun u2 H10 s10 W10 => ?_⟩
      refine ⟨x, u2, ns, _, rfl, WX9.same s10, W10, hn, fun H11 s11 => ⟨rfl, _, rfl, ?_⟩⟩
      refine iteF' (some_ne (trn_rot ns (b - 30))) ?_
      have sz := (s89.trans s10).trans s11
      exact ⟨_, _, rfl, D7.same sz, WX7.same sz, WY7.same sz⟩
    · rintro σ H6 ⟨v5, v6, rfl, D6, WX6, WY6⟩
      obtain ⟨dx, tl, tk, ks, h1, h2, _⟩ := id WX6
      refine ⟨_, rfl, x, C, dx, _, _, rfl, h1, T.cl, T.nL, wf_letters, _, rfl, p, _, rfl, .inl ⟨SqL.of (D6.2 _ _ hpa hp), fun l hl => ?_⟩⟩
      have s7 := same_upd (o := .tup (iv ns)) hl
      refine ⟨_, _, .tup (WR.Same.seqT s7 h2) (dp_iv _), .tup (SqT.of upd_same) (dp_iv _), shaped_ints _, shaped_ints _, ?_⟩
      rw [eqv_ints, decide_eq_true rfl]
      exact k _ (D6.same s7)
theorem scMoved : FnScope nMoved ["_law_jar_here", "_law_letters_here"] (defScope sMoved) := ⟨rfl, rfl, rfl, by decide +kernel, rfl, by decide +kernel, by decide +kernel⟩
theorem ok_moved {C f : Addr} {fd : FuncData} (F : Fun K "_law_moved_right" "_law_moved_right" sMoved f fd) (T : TxW K mg C) (W : AllW P w K mg base C)
    (GD : Cal P w K mg base "_law_draw" 1 ["_law_jar_here", "_law_many"] spTake) (GLS : Cal P w K mg base "_law_letters" 2 ["_law_jar_here", "_law_many", "_law_kinds"] spLetters) (GT : Cal P w K mg base "turn_to" 3 ["one", "other"] (spTurnTo K C))
    (GL : Cal P w K mg base "least_turned" 7 ["word"] (spLeastT K C)) : FnOk P w K mg base CX0 8 f fd ["_law_jar_here", "_law_letters_here"] spMoved := by
  refine F.ok scMoved (fun vs H Q E h => ?_) (fun cdv A outer s H vs Q E hr h => ?_)
  · obtain ⟨a, c, p, ns, n, rfl, _⟩ := h
    rfl
  · obtain ⟨a, c, p, ns, n, rfl, hH, hpa, hp, hn, hnn, ln, k⟩ := h
    refine ⟨_, pss_cons (ps_par (i := 2) (j := 3) (by rfl) scMoved.nd rfl rfl (by decide) rfl rfl (pa_cons (pe_word W.mkw T hr (by decide) (by rfl) (pa_cons (pe_cal GLS hr (by decide) (by rfl) (pa_cons (pv 0) (pa_cons (pe_cal GD hr (by decide) (by rfl) (pa_cons (pv 0) (pa_cons pe_int pa_nil))) (pa_cons pe_int pa_nil)))) pa_nil)) (pa_cons (pe_word W.mkw T hr (by decide) (by rfl) (pa_cons (pv 1) pa_nil)) pa_nil)) (by rfl))
      (pss_cons (ps_set (i := 4) scMoved.nd rfl (Or.inl rfl) (pe_w0 W.rnd T.cl hr (by decide) (pe_w1 W.thn T.cl hr (by decide) (pe_w1 W.thn T.cl hr (by decide) (pv 2) (pa_cons (pv 3) pa_nil)) (pa_cons (pe_w0 W.con T.cl hr (by decide) (pv 2)) pa_nil))))
      (pss_cons (ps_set (i := 5) scMoved.nd rfl (Or.inl rfl) (pe_w0 W.rnd T.cl hr (by decide) (pv 3)))
      (pss_one (ps_ret (pe_and (pe_cmpR op_notN (pe_cal GT hr (by decide) (by rfl) (pa_cons (pv 5) (pa_cons (pv 4) pa_nil))) pe_non (nomark _)) (pe_one (pe_cmpR (op_eqW W.eq hr (by decide)) (pe_cal GL hr (by decide) (by rfl) (pa_cons (pv 4) pa_nil)) (pe_cal GL hr (by decide) (by rfl) (pa_cons (pv 5) pa_nil)) (nomark _)))))))), ?_⟩
    refine ⟨_, rfl, _, rfl, a, c, 7, n, rfl, hH, by omega, by decide, by decide, fun H1 z z0 z1 hH1 hK1 => ?_⟩
    obtain ⟨m, rfl⟩ : ∃ m : Nat, z = (m : Int) := ⟨z.toNat, by omega⟩
    refine ⟨a, c, m, 3, n + 1, rfl, hH1, by omega, by omega, by decide, by decide, fun q H2 ms hq0 d2 hq hml hmk => ?_⟩
    have D2 : Drew a c (n + 1 + 2 * m) H H2 := ⟨d2.1, hK1.trans d2.2⟩
    have lm : Lts ms := fun x hx => ⟨(hmk x hx).1, Nat.le_trans (hmk x hx).2 (by decide)⟩
    have hp2 := D2.2 _ _ hpa hp
    intro x dx0 nx0 ndx0 _
    refine make_at nx0 ndx0 (.inl (SqL.of hq)) (by omega) lm fun H3 s3 W3 => ?_
    refine ⟨_, rfl, fun y dx1 ny0 ndy0 _ => make_at ny0 ndy0 (.inl (SqL.of (s3 _ _ hp2))) (by omega) ln fun H4 s4 W4 => ⟨_, _, rfl, ?_⟩⟩
    have s34 := s3.trans s4
    have WX4 := W3.same s4
    have D4 := D2.same s34
    -- moved
    obtain ⟨dx, fs, h1, h2⟩ := WX4.no nm4
    refine ⟨_, rfl, x, dx, fs, rfl, h1, h2, _, rfl, x, y, ms, ns, rfl, WX4, W4, by omega, lm, ln, fun c1 H5 s5 W5 => ?_⟩
    have WX5 := WX4.same s5
    obtain ⟨dx, fs, h1, h2⟩ := W5.no nm4
    obtain ⟨dy, gs, h3, h4⟩ := WX5.no nm1
    refine ⟨c1, dx, fs, rfl, h1, h2, _, rfl, x, dy, gs, rfl, h3, h4, x, ms, rfl, WX5, by omega, lm, fun c2 H6 s6 W6 => ?_⟩
    have nM : (ms ++ ns ++ Fr.con ms).length ≤ 112 := by simp only [List.length_append, Fr.con_length]; omega
    have lM : Lts (ms ++ ns ++ Fr.con ms) := (lm.app ln).app lm.con
    refine ⟨c1, c2, _, _, rfl, W5.same s6, W6, by simp only [List.length_append, Fr.con_length]; omega, lm.app ln, lm.con, fun c3 H7 s7 W7 => ?_⟩
    obtain ⟨dx, fs, h1, h2⟩ := W7.no nm3
    refine ⟨c3, dx, fs, rfl, h1, h2, c3, _, rfl, W7, by omega, lM, fun c4 H8 s8 W8 => ?_⟩
    have s48 := ((s5.trans s6).trans s7).trans s8
    have WY8 := W4.same s48
    obtain ⟨dx, fs, h1, h2⟩ := WY8.no nm3
    refine ⟨_, rfl, y, dx, fs, rfl, h1, h2, y, ns, rfl, WY8, by omega, ln, fun c5 H9 s9 W9 => ?_⟩
    have WM9 := W8.same s9
    have D9 := D4.same (s48.trans s9)
    have mv := turn_rot (Fr.rnd_moved ms ns lm.nz ln.nz)
    have nR : (Fr.rnd ns).length ≤ 100 := Nat.le_trans (rnd_len ln) hn
    have nR' : (Fr.rnd (ms ++ ns ++ Fr.con ms)).length ≤ 112 := Nat.le_trans (rnd_len lM) nM
    refine ⟨_, rfl, _, rfl, c5, c4, _, _, rfl, W9, WM9, by omega, fun H10 s10 => ⟨rfl, _, rfl, ?_⟩⟩
    refine iteT' (by rw [some_ne mv]; rfl) ?_
    refine ⟨_, rfl, c4, _, rfl, WM9.same s10, by omega, lM.rnd, fun e1 hL1 u H11 s11 W11 => ?_⟩
    refine ⟨_, rfl, c5, _, rfl, (W9.same s10).same s11, by omega, ln.rnd, fun e2 hL2 v H12 s12 W12 => ?_⟩
    have ee : e1 = e2 := by
      obtain ⟨j, hj, e⟩ := mv
      rw [← e] at hL1
      by_cases h0 : 0 < (Fr.rnd ns).length
      · exact (hL1.turn (by omega)).uniq hL2
      · have e0 : Fr.rnd ns = [] := List.length_eq_zero_iff.mp (by omega)
        have : j = 0 := by omega
        subst this
        exact (hL1.turn (Nat.zero_le _)).uniq hL2
    refine ⟨u, v, _, _, rfl, rfl, W11.same s12, W12, ?_⟩
    rw [decide_eq_true ee]
    exact k _ ((D9.same ((s10.trans s11).trans s12)).mono (by omega))
end
end W06
set_option Elab.async false
set_option linter.all false
set_option maxRecDepth 100000
set_option maxHeartbeats 4000000
namespace W06
open PySem L2 PySem.Spec PyProof.Rows WR
abbrev sLaw : Stmt := top 48
def spLaw (K : PySem.W.Frag) : Sp := fun vs H Q _ => ∃ (a : Addr) (ns : List Int), vs = [.ref a] ∧ SqL K H a (iv ns) ∧ ns.length ≤ 63 ∧ ∀ H', Q (.bl true) H'
abbrev nLaw : List Str := ["_law_script", "_law_jar_here", "_law_lap", "_law_letters_here", "_law_others", "_law_by", "_law_turned", "_law_told", "_law_wide", "_law_none", "_law_letter"]
/-- the last item of a display is a comprehension -/
theorem cons_lc {wi : TI} {g : TG} {tt : TT} {te : TE} {vs : List Nat} {t : TA} {σ : L2.St} {H : Hp} {Q : List V → Hp → Prop}
    (h : wi σ H fun J H1 => tLc (fun _ H R => R J H) g tt te vs σ H1 fun x H2 => t σ H2 fun xs H3 => Q (x :: xs) H3) : tCons (tLc wi g tt te vs) t σ H Q := h
section
variable {P : Program} {w : World} {K : PySem.W.Frag} {mg : Str → Option Value} {base : Heap}
theorem scLaw : FnScope nLaw ["_law_script"] (defScope sLaw) := ⟨rfl, rfl, rfl, by decide +kernel, rfl, by decide +kernel, by decide +kernel⟩
theorem ok_law {C f : Addr} {fd : FuncData} (F : Fun K "law" "law" sLaw f fd) (T : TxW K mg C) (W : AllW P w K mg base C) (TA : TxA mg) (TL : TxL mg) (TN : TxN mg) (hmax : mg "max" = none) (GJ : Cal P w K mg base "_law_jar" 1 ["_law_script"] (spHand K))
    (GD : Cal P w K mg base "_law_draw" 1 ["_law_jar_here", "_law_many"] spTake) (GP : Cal P w K mg base "_law_pick" 2 ["_law_jar_here", "_law_some"] spPick) (GL : Cal P w K mg base "_law_letters" 2 ["_law_jar_here", "_law_many", "_law_kinds"] spLetters)
    (GF : Cal P w K mg base "_law_forms" 1 ["_law_letters_here"] (spForms K)) (GM : Cal P w K mg base "_law_mixed" 2 ["_law_jar_here", "_law_some"] spMixed) (GW : Cal P w K mg base "_law_drawn" 3 ["_law_jar_here"] spDrawn)
    (GPR : Cal P w K mg base "_law_pair_right" 7 ["_law_letters_here", "_law_others"] spPair) (GLR : Cal P w K mg base "_law_least_right" 8 ["_law_jar_here", "_law_letters_here"] spLeastR) (GMR : Cal P w K mg base "_law_moved_right" 8 ["_law_jar_here", "_law_letters_here"] spMoved)
    (GT : Cal P w K mg base "turn_to" 3 ["one", "other"] (spTurnTo K C)) (GLT : Cal P w K mg base "least_turned" 7 ["word"] (spLeastT K C)) :
    FnOk P w K mg base CX0 9 f fd ["_law_script"] (spLaw K) := by
  refine F.ok scLaw (fun vs H Q E h => ?_) (fun cdv A outer s H vs Q E hr h => ?_)
  · obtain ⟨a, ns, rfl, _⟩ := h
    rfl
  · obtain ⟨a, ns, rfl, hS, hlen, k⟩ := h
    refine ⟨_, pss_cons (ps_set (i := 1) scLaw.nd rfl (Or.inl rfl) (pe_cal GJ hr (by decide) (by rfl) (pa_cons (pv 0) (pa_nil))))
 (pss_cons (ps_for PassesOwn.never rfl (pi_range1 (by rfl) TN.range (pa_cons pe_int pa_nil)) (pg_name (i := 2) scLaw.nd rfl (Or.inl rfl)) (pss_cons (ps_par (i := 3) (j := 4) (by rfl) scLaw.nd rfl rfl (by decide) rfl rfl (pa_cons (pe_cal GW hr (by decide) (by rfl) (pa_cons (pv 1) (pa_nil))) (pa_cons (pe_cal GW hr (by decide) (by rfl) (pa_cons (pv 1) (pa_nil))) pa_nil)) (by rfl))
 (pss_cons (ps_set (i := 5) scLaw.nd rfl (Or.inl rfl) (pe_cal GD hr (by decide) (by rfl) (pa_cons (pv 1) (pa_cons (pe_int) (pa_nil)))))
 (pss_cons (ps_set (i := 6) scLaw.nd rfl (Or.inl rfl) (pe_callTy call_list_of (by rfl) TN.list (by decide +kernel) (pa_cons (pe_ix ix_list (pe_cal GF hr (by decide) (by rfl) (pa_cons (pv 3) (pa_nil))) (pe_op op_mod (pe_callTy call_int1 (by rfl) TL.int (by decide +kernel) (pa_cons (pv 5) pa_nil)) (pe_callB (call_max2 rfl) (by rfl) hmax (by decide +kernel) (pa_cons (pe_int) (pa_cons (pe_callB call_len_seq (by rfl) TA.len PySem.boot_len (pa_cons (pv 3) pa_nil)) pa_nil)))) (fun _ _ => rfl)) pa_nil)))
 (pss_cons (ps_for PassesOwn.never rfl (pi_tup (pe_tup (pa_cons (pv 6) (pa_cons (pv 4) (pa_cons (pe_cal GM hr (by decide) (by rfl) (pa_cons (pv 1) (pa_cons (pv 3) (pa_nil)))) (pa_cons (pe_revL (pv 3)) (pa_cons (pe_op op_cat (pv 6) (pe_slice sl_list (pv 3) po_none (po_some pe_int))) (pa_cons (pe_lc (own := [("_law_letter", 10)]) (g := gName 10) (tt := tYes) rfl scLaw.nd (pi_list (pv 3)) (blkOk_by (N := nLaw) (sc := defScope sLaw) (by decide +kernel)) (fun _ _ _ _ _ => pg_name (i := 10) scLaw.nd rfl (Or.inl rfl)) (fun _ _ _ _ _ => pts_nil) (fun _ _ _ _ _ => pe_un un_neg (pv 10))) (pa_nil))))))))) (pg_name (i := 7) scLaw.nd rfl (Or.inl rfl)) (pss_one (ps_if (pt_not (pt_val (pe_cal GPR hr (by decide) (by rfl) (pa_cons (pv 3) (pa_cons (pv 7) (pa_nil)))))) (pss_one (ps_ret pe_bl)) pss_nil)))
 (pss_one (ps_if (PW.pt (pw_or (pt_not (pt_val (pe_cal GLR hr (by decide) (by rfl) (pa_cons (pv 1) (pa_cons (pv 3) (pa_nil)))))) (pw_or1 (pt_not (pt_val (pe_cal GMR hr (by decide) (by rfl) (pa_cons (pv 1) (pa_cons (pv 3) (pa_nil))))))))) (pss_one (ps_ret pe_bl)) pss_nil)))))))
 (pss_cons (ps_set (i := 8) scLaw.nd rfl (Or.inl rfl) (pe_cal GL hr (by decide) (by rfl) (pa_cons (pv 1) (pa_cons (pe_cal GP hr (by decide) (by rfl) (pa_cons (pv 1) (pa_cons (pe_lst (pa_cons (pe_op op_add (pe_int) (pe_cal GD hr (by decide) (by rfl) (pa_cons (pv 1) (pa_cons (pe_int) (pa_nil))))) (pa_cons (pe_int) (pa_cons (pe_int) (pa_cons (pe_int) (pa_nil)))))) (pa_nil)))) (pa_cons (pe_cal GP hr (by decide) (by rfl) (pa_cons (pv 1) (pa_cons (pe_lst (pa_cons (pe_int) (pa_cons (pe_int) (pa_cons (pe_int) (pa_cons (pe_int) (pa_nil)))))) (pa_nil)))) (pa_nil))))))
 (pss_cons (ps_for PassesOwn.never rfl (pi_tup (pe_tup (pa_cons (pe_op op_rep (pe_cal GL hr (by decide) (by rfl) (pa_cons (pv 1) (pa_cons (pe_op op_add (pe_int) (pe_cal GD hr (by decide) (by rfl) (pa_cons (pv 1) (pa_cons (pe_int) (pa_nil))))) (pa_cons (pe_int) (pa_nil))))) pe_int) (pa_cons (pv 8) (pa_nil))))) (pg_name (i := 3) scLaw.nd rfl (Or.inl rfl)) (pss_cons (ps_set (i := 5) scLaw.nd rfl (Or.inl rfl) (pe_cal GD hr (by decide) (by rfl) (pa_cons (pv 1) (pa_cons (pe_callB call_len_seq (by rfl) TA.len PySem.boot_len (pa_cons (pv 3) pa_nil)) (pa_nil))))) (pss_one (ps_if (PW.pt (pw_or (pt_not (pt_val (pe_cal GPR hr (by decide) (by rfl) (pa_cons (pv 3) (pa_cons (pe_op op_cat (pe_slice sl_list (pv 3) (po_some (pv 5)) po_none) (pe_slice sl_list (pv 3) po_none (po_some (pv 5)))) (pa_nil)))))) (pw_or1 (pt_not (pt_val (pe_cal GLR hr (by decide) (by rfl) (pa_cons (pv 1) (pa_cons (pv 3) (pa_nil))))))))) (pss_one (ps_ret pe_bl)) pss_nil))))
 (pss_cons (ps_set (i := 9) scLaw.nd rfl (Or.inl rfl) (pe_word W.mkw T hr (by decide) (by rfl) (pa_cons (pe_lst pa_nil) pa_nil)))
 (pss_one (ps_ret (pe_and (pe_cmpR op_eq (pe_cal GT hr (by decide) (by rfl) (pa_cons (pv 9) (pa_cons (pv 9) (pa_nil)))) pe_int (nomark _)) (pe_and (pe_cmpR (op_eqW W.eq hr (by decide)) (pe_cal GLT hr (by decide) (by rfl) (pa_cons (pv 9) (pa_nil))) (pv 9) (nomark _)) (pe_and (pe_cmpR op_isN (pe_cal GT hr (by decide) (by rfl) (pa_cons (pv 9) (pa_cons (pe_word W.mkw T hr (by decide) (by rfl) (pa_cons (pe_lst (pa_cons (pe_int) (pa_nil))) pa_nil)) (pa_nil)))) pe_non (nomark _)) (pe_one (pe_cmpR op_isN (pe_cal GT hr (by decide) (by rfl) (pa_cons (pe_word W.mkw T hr (by decide) (by rfl) (pa_cons (pe_lst (pa_cons (pe_int) (pa_cons (pe_un un_neg pe_int) (pa_nil)))) pa_nil)) (pa_cons (pv 9) (pa_nil)))) pe_non (nomark _)))))))))))), ?_⟩
    -- the jar
    refine ⟨_, rfl, a, ns, rfl, hS, by omega, fun H1 p c s1 hp0 hc0 hH1 => ?_⟩
    refine ⟨4, rfl, by decide, by decide, ?_⟩
    refine for_range (lo := 0) (n := 4) (fun i σ H' => ∃ v2 v3 v4 v5 v6 v7 v8 v9 v10, σ = [some (.ref a), some (.ref p), v2, v3, v4, v5, v6, v7, v8, v9, v10] ∧ HandAt H' p c (150 * i))
      ⟨none, none, none, none, none, none, none, none, none, rfl, hH1⟩ ?_ ?_
    · rintro i σ H2 hi ⟨v2, v3, v4, v5, v6, v7, v8, v9, v10, rfl, hH2⟩
      -- drawn twice
      refine ⟨_, rfl, p, c, 150 * i, rfl, hH2, by omega, fun q H3 ls hq0 d3 hq hll lls => ?_⟩
      have hqp := hH2.ne hq0
      refine ⟨_, rfl, p, c, _, rfl, d3.1, by omega, fun o H4 os ho0 d4 ho hol los => ⟨_, _, rfl, ?_⟩⟩
      have hop := d3.1.ne ho0
      have hq4 := d4.2 _ _ hqp hq
      -- by, turned
      refine ⟨_, rfl, p, c, 60, _, rfl, d4.1, by omega, by decide, by decide, fun H5 b b0 b1 hH5 hK5 => ?_⟩
      have hq5 := hK5 _ _ hqp hq4
      have ho5 := hK5 _ _ hop ho
      refine ⟨_, rfl, q, ls, rfl, hq5, by omega, fun g H6 hg0 s6 hF => ?_⟩
      obtain ⟨rs, hg, hrl, hrs⟩ := hF
      have eM : (if (((iv ls).length : Nat) : Int) > 1 then (((iv ls).length : Nat) : Int) else 1) = ((max 1 ls.length : Nat) : Int) := by rw [List.length_map]; split <;> omega
      obtain ⟨j, ej, hj⟩ : ∃ j : Nat, b % ((max 1 ls.length : Nat) : Int) = (j : Int) ∧ j < max 1 ls.length := by
        have e0 : 0 ≤ b % ((max 1 ls.length : Nat) : Int) := Int.emod_nonneg _ (by omega)
        have e1 : b % ((max 1 ls.length : Nat) : Int) < ((max 1 ls.length : Nat) : Int) := Int.emod_lt_of_pos _ (by omega)
        exact ⟨(b % ((max 1 ls.length : Nat) : Int)).toNat, by omega, by omega⟩
      have hjr : j < rs.length := by omega
      have er : rs[j]? = some rs[j] := List.getElem?_eq_getElem hjr
      have hq6 := s6 _ _ hq5
      refine ⟨_, rfl, .inl ⟨_, rfl, ?_⟩⟩
      refine ⟨_, rfl, q, _, rfl, .inl (SqL.of hq6), _, _, rfl, ?_⟩
      refine ⟨_, _, rfl, rfl, by rw [eM]; omega, g, _, _, .ref rs[j], rfl, rfl, SqL.of hg, (by rw [eM, ej]; exact atI_nat (by rw [List.getElem?_map, er]; rfl)), ?_⟩
      refine ⟨rs[j], _, rfl, .inr (hrs j _ er), fun t ht => ?_⟩
      obtain ⟨us, eus⟩ : ∃ us, us = Lt.rot ls j := ⟨_, rfl⟩
      have hul : us.length ≤ 24 := by rw [eus, Lt.rot_length]; exact hll
      have lus : Lts us := fun x hx => lls x (Lt.rot_mem (by rw [eus] at hx; exact hx))
      rw [← eus]
      have s7 := same_upd (o := .lst (iv us)) ht
      have h7 : L2.upd H6 t (.lst (iv us)) t = some (.lst (iv us)) := upd_same
      have hH7 := (hH5.same s6).same s7
      have htp := (hH5.same s6).ne ht
      have hq7 := s7 _ _ hq6
      have ho7 := s7 _ _ (s6 _ _ ho5)
      obtain ⟨H7, e7⟩ : ∃ H7, H7 = L2.upd H6 t (.lst (iv us)) := ⟨_, rfl⟩
      rw [← e7] at h7 hH7 hq7 ho7 ⊢
      -- six rows beside it
      refine ⟨_, rfl, _, rfl, _, rfl, _, rfl, p, c, q, ls, _, rfl, hH7, hqp, hq7, by omega, by omega, fun x1 H8 xs hx10 d8 hx1 hxl hxm => ?_⟩
      have hx1p := hH7.ne hx10
      have hq8 := d8.2 _ _ hqp hq7
      have ho8 := d8.2 _ _ hop ho7
      have ht8 := d8.2 _ _ htp h7
      refine ⟨_, rfl, q, iv ls, rfl, SqL.of hq8, fun x2 hx2 => ?_⟩
      have s9 := same_upd (o := .lst (iv ls).reverse) hx2
      have h9 : L2.upd H8 x2 (.lst (iv ls).reverse) x2 = some (.lst (iv ls.reverse)) := by rw [upd_same]; simp [iv]
      obtain ⟨H9, e9⟩ : ∃ H9, H9 = L2.upd H8 x2 (.lst (iv ls).reverse) := ⟨_, rfl⟩
      rw [← e9] at s9 h9 ⊢
      refine ⟨_, rfl, _, rfl, _, rfl, q, _, rfl, SqL.of (s9 _ _ hq8), fun x3 hx3 => ?_⟩
      have ecut : ∃ ts : List Int, cutV (iv ls) none (some 1) = iv ts ∧ ts.length ≤ 1 ∧ ∀ x ∈ ts, x ∈ ls := by
        by_cases h0 : 1 ≤ ls.length
        · exact ⟨ls.take 1, cut_to (j := 1) h0, by rw [List.length_take]; omega, fun x hx => List.mem_of_mem_take hx⟩
        · have : ls = [] := List.length_eq_zero_iff.mp (by omega)
          subst this
          exact ⟨[], rfl, by simp, fun x hx => nomatch hx⟩
      obtain ⟨ts, ets, htl, htm⟩ := ecut
      rw [ets]
      have sA := same_upd (o := .lst (iv ts)) hx3
      have hA : L2.upd H9 x3 (.lst (iv ts)) x3 = some (.lst (iv ts)) := upd_same
      obtain ⟨HA, eA⟩ : ∃ HA, HA = L2.upd H9 x3 (.lst (iv ts)) := ⟨_, rfl⟩
      rw [← eA] at sA hA ⊢
      refine ⟨t, x3, _, _, rfl, rfl, sA _ _ (s9 _ _ ht8), hA, Evl.sz_of (by simp only [List.length_map]; omega), fun x4 hx4 => ?_⟩
      have sB := same_upd (o := .lst (iv us ++ iv ts)) hx4
      have hB : L2.upd HA x4 (.lst (iv us ++ iv ts)) x4 = some (.lst (iv (us ++ ts))) := by rw [upd_same]; simp [iv]
      obtain ⟨HB, eB⟩ : ∃ HB, HB = L2.upd HA x4 (.lst (iv us ++ iv ts)) := ⟨_, rfl⟩
      rw [← eB] at sB hB ⊢
      refine cons_lc ?_
      have s8B := (s9.trans sA).trans sB
      refine ⟨_, rfl, q, rfl, ⟨_, SqL.of (s8B _ _ hq8)⟩, ?_⟩
      refine lcp (walk_list (xs := iv ls)) (fun _ => true) (fun x => match x with | .int i => .int (-i) | _ => .non) (by rw [List.length_map]; omega) (fun H2 s2 => SqL.of (s2 _ _ (s8B _ _ hq8))) ?_ ?_
      · intro x hx H2 s2 Qy Qn ky kn
        obtain ⟨z, hz, rfl⟩ := List.mem_map.mp hx
        refine ⟨rfl, yes_te ?_⟩
        exact ⟨_, rfl, z, rfl, ky rfl H2 (fun _ _ e => e)⟩
      intro x5 HC hx50 sC hC
      have eC : (((iv ls).filter fun _ => true).map fun x => match x with | .int i => V.int (-i) | _ => .non) = iv (ls.map fun z => -z) := by
        rw [List.filter_eq_self.mpr (fun _ _ => rfl)]
        simp [iv, Function.comp_def]
      rw [eC] at hC
      refine ⟨(by show 6 ≤ sizeLine; decide), fun T0 hT0 => ?_⟩
      have sD := same_upd (o := .tup [.ref t, .ref o, .ref x1, .ref x2, .ref x4, .ref x5]) hT0
      have hD : L2.upd HC T0 (.tup [.ref t, .ref o, .ref x1, .ref x2, .ref x4, .ref x5]) T0 = some (.tup [.ref t, .ref o, .ref x1, .ref x2, .ref x4, .ref x5]) := upd_same
      have s8D := (s8B.trans sC).trans sD
      have items : ∀ y ∈ [V.ref t, V.ref o, V.ref x1, V.ref x2, V.ref x4, V.ref x5], ∃ (r : Addr) (rw_ : List Int), y = .ref r ∧ L2.upd HC T0 (.tup [.ref t, .ref o, .ref x1, .ref x2, .ref x4, .ref x5]) r = some (.lst (iv rw_)) ∧ rw_.length ≤ 50 ∧ Lts rw_ := by
        intro y hy
        simp only [List.mem_cons, List.mem_nil_iff, or_false] at hy
        rcases hy with rfl | rfl | rfl | rfl | rfl | rfl
        · exact ⟨t, us, rfl, s8D _ _ ht8, by omega, lus⟩
        · exact ⟨o, os, rfl, s8D _ _ ho8, by omega, los⟩
        · exact ⟨x1, xs, rfl, s8D _ _ hx1, by omega, fun x hx => lls x (hxm x hx)⟩
        · exact ⟨x2, ls.reverse, rfl, ((sA.trans sB).trans (sC.trans sD)) _ _ h9, by rw [List.length_reverse]; omega, fun x hx => lls x (List.mem_reverse.mp hx)⟩
        · exact ⟨x4, us ++ ts, rfl, (sC.trans sD) _ _ hB, by rw [List.length_append]; omega, lus.app fun x hx => lls x (htm x hx)⟩
        · refine ⟨x5, _, rfl, sD _ _ hC, by rw [List.length_map]; omega, fun x hx => ?_⟩
          obtain ⟨z, hz, rfl⟩ := List.mem_map.mp hx
          rw [Int.natAbs_neg]
          exact lls z hz
      have hHD := d8.1.same s8D
      have hqD := s8D _ _ hq8
      obtain ⟨HD, eD⟩ : ∃ HD, HD = L2.upd HC T0 (.tup [.ref t, .ref o, .ref x1, .ref x2, .ref x4, .ref x5]) := ⟨_, rfl⟩
      rw [← eD] at hD items hHD hqD ⊢
      refine ⟨T0, rfl, ⟨_, SqT.of hD⟩, for_tup (K := K) (a := T0) (xs := [.ref t, .ref o, .ref x1, .ref x2, .ref x4, .ref x5]) (fun k σ H' => ∃ v7, σ = [some (.ref a), some (.ref p), some (.int (0 + (i : Int))), some (.ref q), some (.ref o), some (.int b), some (.ref t), v7, v8, v9, v10] ∧ Same HD H')
        ⟨v7, rfl, Same.refl HD⟩ (fun k σ H' _ ⟨_, _, s⟩ => SqT.of (s _ _ hD)) ?_ ?_⟩
      · rintro k y σ H' hk ⟨v7, rfl, sm⟩
        obtain ⟨r, rw_, rfl, hr, hrl2, lrw⟩ := items y (List.mem_of_getElem? hk)
        refine ⟨_, rfl, _, rfl, q, r, ls, rw_, rfl, sm _ _ hqD, sm _ _ hr, by omega, by omega, lls, lrw, fun H'' s'' => ⟨_, rfl, no_ne rfl ?_⟩⟩
        exact ⟨_, rfl, sm.trans s''⟩
      · rintro σ H' ⟨v7, rfl, sm⟩
        refine ⟨_, rfl, _, rfl, p, c, q, ls, _, rfl, hHD.same sm, hqp, sm _ _ hqD, by omega, by omega, lls, fun HE dE => ⟨_, rfl, no_ne rfl ?_⟩⟩
        refine ⟨_, rfl, _, rfl, p, c, q, ls, _, rfl, dE.1, hqp, dE.2 _ _ hqp (sm _ _ hqD), by omega, by omega, lls, fun HG dG => ⟨_, rfl, no_ne rfl ?_⟩⟩
        exact ⟨_, _, _, _, _, _, _, _, _, rfl, dG.1.mono (by omega)⟩
    · rintro σ H2 ⟨v2, v3, v4, v5, v6, v7, v8, v9, v10, rfl, hH2⟩
      -- a long row
      refine ⟨_, rfl, _, rfl, _, rfl, p, c, 91, 600, rfl, hH2, by decide, by decide, by decide, fun H3 z z0 z1 hH3 hK3 => ⟨_, _, rfl, rfl, (by show 4 ≤ sizeLine; decide), fun l hl => ?_⟩⟩
      refine ⟨p, c, l, _, 601, rfl, hH3.new hl, by decide, hH3.ne hl, upd_same, (by show 0 < 4; decide), (by show 4 ≤ 1000; decide), fun v hv H4 d4 => ?_⟩
      obtain ⟨m, rfl, hm1, hm2⟩ : ∃ m : Nat, v = .int (m : Int) ∧ 30 ≤ m ∧ m ≤ 300 := by
        simp only [List.mem_cons, List.mem_nil_iff, or_false] at hv
        rcases hv with rfl | rfl | rfl | rfl
        · exact ⟨(30 + z).toNat, (by show V.int (30 + z) = _; congr 1; omega), by omega, by omega⟩
        · exact ⟨40, rfl, by decide, by decide⟩
        · exact ⟨60, rfl, by decide, by decide⟩
        · exact ⟨300, rfl, by decide, by decide⟩
      refine ⟨_, rfl, (by show 4 ≤ sizeLine; decide), fun l2 hl2 => ?_⟩
      refine ⟨p, c, l2, _, 602, rfl, d4.1.new hl2, by decide, d4.1.ne hl2, upd_same, by decide, by decide, fun v hv H5 d5 => ?_⟩
      obtain ⟨kk, rfl, hk1, hk2⟩ : ∃ m : Nat, v = .int (m : Int) ∧ 1 ≤ m ∧ m ≤ 26 := by
        simp only [List.mem_cons, List.mem_nil_iff, or_false] at hv
        rcases hv with rfl | rfl | rfl | rfl
        · exact ⟨1, rfl, by decide, by decide⟩
        · exact ⟨2, rfl, by decide, by decide⟩
        · exact ⟨3, rfl, by decide, by decide⟩
        · exact ⟨26, rfl, by decide, by decide⟩
      refine ⟨p, c, m, kk, 603, rfl, d5.1, by omega, by omega, hk1, hk2, fun q H6 ls hq0 d6 hq hll hlk => ?_⟩
      have lls : Lts ls := fun x hx => ⟨(hlk x hx).1, Nat.le_trans (hlk x hx).2 hk2⟩
      have hqp := d5.1.ne hq0
      -- five times a row
      refine ⟨_, rfl, _, rfl, p, c, 6, _, rfl, d6.1, by omega, by decide, by decide, fun H7 y y0 y1 hH7 hK7 => ⟨_, _, rfl, rfl, ?_⟩⟩
      obtain ⟨m7, e7⟩ : ∃ m7 : Nat, 20 + y = (m7 : Int) := ⟨(20 + y).toNat, by omega⟩
      have hq7 := hK7 _ _ hqp hq
      refine ⟨p, c, m7, 2, _, congrArg (fun z => [V.ref p, V.int z, V.int 2]) e7, hH7, by omega, by omega, by decide, by decide, fun r H8 fs hr0 d8 hr1 hfl hfk => ?_⟩
      have lfs : Lts fs := fun x hx => ⟨(hfk x hx).1, Nat.le_trans (hfk x hx).2 (by decide)⟩
      have hq8 := d8.2 _ _ hqp hq7
      have hm7 : m7 ≤ 25 := by omega
      have h5m : 5 * m7 ≤ 125 := by omega
      refine ⟨r, _, _, rfl, rfl, hr1, by decide, by decide, Evl.sz_of (by show (iv fs).length * 5 ≤ _; rw [List.length_map, hfl]; omega), fun r5 hr50 => ?_⟩
      have hr5 : L2.upd H8 r5 (.lst (List.replicate (5 : Int).toNat (iv fs)).flatten) r5 = some (.lst (iv (Fr.rep 5 fs))) := by
        rw [upd_same]
        exact congrArg (fun z => some (HO.lst z)) (rep_flat 5 fs)
      have s9 := same_upd (o := .lst (List.replicate (5 : Int).toNat (iv fs)).flatten) hr50
      have hH9 := d8.1.same s9
      have hr5p := d8.1.ne hr50
      have hq9 := s9 _ _ hq8
      obtain ⟨H9, e9⟩ : ∃ H9, H9 = L2.upd H8 r5 (.lst (List.replicate (5 : Int).toNat (iv fs)).flatten) := ⟨_, rfl⟩
      rw [← e9] at hr5 s9 hH9 hq9 ⊢
      have l5 : (Fr.rep 5 fs).length = 5 * m7 := by rw [Fr.rep_length, hfl]
      refine ⟨_, rfl, (by show 2 ≤ sizeLine; decide), fun T0 hT0 => ?_⟩
      have sT := same_upd (o := .tup [.ref r5, .ref q]) hT0
      have hT : L2.upd H9 T0 (.tup [.ref r5, .ref q]) T0 = some (.tup [.ref r5, .ref q]) := upd_same
      have hTp := hH9.ne hT0
      have hHT := hH9.same sT
      have items : ∀ w_ ∈ [V.ref r5, V.ref q], ∃ (x : Addr) (us : List Int), w_ = .ref x ∧ x ≠ p ∧ L2.upd H9 T0 (.tup [.ref r5, .ref q]) x = some (.lst (iv us)) ∧ 0 < us.length ∧ us.length ≤ 300 ∧ Lts us := by
        intro w_ hw
        simp only [List.mem_cons, List.mem_nil_iff, or_false] at hw
        rcases hw with rfl | rfl
        · exact ⟨r5, _, rfl, hr5p, sT _ _ hr5, by omega, by omega, lfs.rep 5⟩
        · exact ⟨q, ls, rfl, hqp, sT _ _ hq9, by omega, by omega, lls⟩
      obtain ⟨HT, eT⟩ : ∃ HT, HT = L2.upd H9 T0 (.tup [.ref r5, .ref q]) := ⟨_, rfl⟩
      rw [← eT] at hT hHT items ⊢
      refine ⟨T0, rfl, ⟨_, SqT.of hT⟩, for_tup (K := K) (a := T0) (xs := [.ref r5, .ref q]) (fun k σ H' => ∃ v3 v5, σ = [some (.ref a), some (.ref p), v2, v3, v4, v5, v6, v7, some (.ref q), v9, v10] ∧ Drew p c (1300 + 4 * k) HT H')
        ⟨v3, v5, rfl, (Drew.refl hHT).mono (by omega)⟩ (fun k σ H' _ ⟨_, _, _, d⟩ => SqT.of (d.2 _ _ hTp hT)) ?_ ?_⟩
      · rintro k w_ σ H' hk ⟨v3, v5, rfl, d⟩
        have hk2 : k < 2 := (List.getElem?_eq_some_iff.mp hk).1
        obtain ⟨x, us, rfl, hxp, hx, hu0, hul, lus⟩ := items w_ (List.mem_of_getElem? hk)
        have hx1 := d.2 _ _ hxp hx
        refine ⟨_, rfl, _, rfl, x, _, rfl, .inl (SqL.of hx1), p, c, _, _, rfl, d.1, by omega, by rw [List.length_map]; omega, ?_, fun Ha b b0 b1 hHa hKa => ?_⟩
        · have : ((((iv us).length : Nat) : Int)).natAbs ≤ 1000 := by rw [List.length_map]; omega
          exact Nat.lt_of_le_of_lt this (by decide)
        rw [List.length_map] at b1
        obtain ⟨j, rfl⟩ : ∃ j : Nat, b = (j : Int) := ⟨b.toNat, by omega⟩
        have hx2 := hKa _ _ hxp hx1
        refine ⟨_, rfl, _, rfl, _, rfl, _, rfl, x, _, rfl, SqL.of hx2, fun p1 hp1 => ?_⟩
        rw [cut_from (by omega)]
        have sb := same_upd (o := .lst (iv (us.drop j))) hp1
        have hb : L2.upd Ha p1 (.lst (iv (us.drop j))) p1 = some (.lst (iv (us.drop j))) := upd_same
        obtain ⟨Hb, eb⟩ : ∃ Hb, Hb = L2.upd Ha p1 (.lst (iv (us.drop j))) := ⟨_, rfl⟩
        rw [← eb] at sb hb ⊢
        refine ⟨_, rfl, _, rfl, _, rfl, x, _, rfl, SqL.of (sb _ _ hx2), fun p2 hp2 => ?_⟩
        rw [cut_to (by omega)]
        have sc := same_upd (o := .lst (iv (us.take j))) hp2
        have hc : L2.upd Hb p2 (.lst (iv (us.take j))) p2 = some (.lst (iv (us.take j))) := upd_same
        obtain ⟨Hc, ec⟩ : ∃ Hc, Hc = L2.upd Hb p2 (.lst (iv (us.take j))) := ⟨_, rfl⟩
        rw [← ec] at sc hc ⊢
        refine ⟨p1, p2, _, _, rfl, rfl, sc _ _ hb, hc, Evl.sz_of (by simp only [List.length_map, List.length_drop, List.length_take]; omega), fun p3 hp3 => ?_⟩
        have sd := same_upd (o := .lst (iv (us.drop j) ++ iv (us.take j))) hp3
        have hd : L2.upd Hc p3 (.lst (iv (us.drop j) ++ iv (us.take j))) p3 = some (.lst (iv (Lt.rot us j))) := by rw [upd_same]; simp [iv, Lt.rot]
        obtain ⟨Hd, ed⟩ : ∃ Hd, Hd = L2.upd Hc p3 (.lst (iv (us.drop j) ++ iv (us.take j))) := ⟨_, rfl⟩
        rw [← ed] at sd hd ⊢
        have sad := (sb.trans sc).trans sd
        refine ⟨x, p3, us, Lt.rot us j, rfl, sad _ _ hx2, hd, by omega, by rw [Lt.rot_length]; omega, lus, fun z hz => lus z (Lt.rot_mem hz), fun He se => ⟨_, rfl, no_ne rfl ?_⟩⟩
        have hHe := hHa.same (sad.trans se)
        have hxe := (sad.trans se) _ _ hx2
        refine ⟨_, rfl, _, rfl, p, c, x, us, _, rfl, hHe, hxp, hxe, by omega, by omega, lus, fun Hf df => ⟨_, rfl, no_ne rfl ?_⟩⟩
        exact ⟨_, _, rfl, df.1.mono (by omega), d.2.trans (hKa.trans (((Drew.refl hHa).same (sad.trans se)).2.trans df.2))⟩
      · rintro σ H' ⟨v3, v5, rfl, d⟩
        -- the empty word
        refine ⟨Nat.zero_le _, fun l9 hl9 x dx nx ndx _ => make_at (ms := []) nx ndx (.inl (SqL.of upd_same)) (by simp) (fun _ h => nomatch h) fun Ha sa WX => ?_⟩
        have f00 : firstT [] [] = some 0 := by decide
        have f01 : firstT [] [1] = none := by decide
        have f20 : firstT [1, -1] [] = none := by decide
        refine ⟨_, rfl, _, rfl, x, x, [], [], rfl, WX, WX, by decide, fun Hb sb => ?_⟩
        rw [f00]
        refine ⟨rfl, _, rfl, ?_⟩
        refine iteT' (decide_eq_true rfl) ?_
        refine ⟨_, rfl, x, [], rfl, WX.same sb, by decide, (fun _ h => nomatch h), fun ms hL y Hc sc WY => ?_⟩
        have em : ms = [] := List.length_eq_zero_iff.mp (by rw [hL.length]; rfl)
        subst em
        have WX2 := (WX.same sb).same sc
        refine ⟨_, rfl, y, x, _, _, rfl, rfl, WY, WX2, _, rfl, ?_⟩
        refine iteT' (decide_eq_true rfl) ?_
        refine ⟨_, rfl, (by show 1 ≤ sizeLine; decide), fun l1 hl1 x1 dx1 nx1 ndx1 _ => make_at (ms := [1]) nx1 ndx1 (.inl (SqL.of upd_same)) (by decide) (fun z hz => by simp at hz; subst hz; decide) fun Hd sd WZ => ?_⟩
        have WX3 := (WX2.same (same_upd (o := .lst [.int 1]) hl1)).same sd
        refine ⟨x, x1, [], [1], rfl, WX3, WZ, by decide, fun He se => ?_⟩
        rw [f01]
        refine ⟨rfl, _, rfl, ?_⟩
        refine iteT' (decide_eq_true rfl) ?_
        refine ⟨_, rfl, (by show 2 ≤ sizeLine; decide), fun l2 hl2 x2 dx2 nx2 ndx2 _ => make_at (ms := [1, -1]) nx2 ndx2 (.inl (SqL.of upd_same)) (by decide) (fun z hz => by simp at hz; rcases hz with rfl | rfl <;> decide) fun Hf sf WV => ?_⟩
        have WX4 := ((WX3.same se).same (same_upd (o := .lst [.int 1, .int (-1)]) hl2)).same sf
        refine ⟨_, rfl, x2, x, [1, -1], [], rfl, WV, WX4, by decide, fun Hg sg => ?_⟩
        rw [f20]
        exact ⟨rfl, k Hg⟩

end
end W06
set_option Elab.async false
set_option linter.all false
set_option maxRecDepth 100000
set_option maxHeartbeats 4000000
namespace W06
open PySem L2 PySem.Spec PyProof.Rows WR
/-! ### what the top has written -/
structure FF (K : PySem.W.Frag) (mg : Str → Option Value) (x : Str) (st : Stmt) : Prop where
  ex : ∃ (f : Addr) (oc : Value) (od : Option Addr) (kV doc pm cdv ct : Value) (an : Option Addr) (osl : Array (Option Value)),
    K.lookup f = some ⟨oc, od, .func (PySem.W.fnOf x x (defArgs st) (defBody st) (defScope st) .none kV doc pm an cdv ct), osl⟩ ∧ PySem.W.codeIn K cdv x = true ∧ PySem.W.keepIn K (.ref f) = true ∧ mg x = some (.ref f)
theorem ff_mk {K : PySem.W.Frag} {mg : Str → Option Value} {h : Heap} {x : Str} {st : Stmt} {f : Addr} {oc : Value} {od an : Option Addr} {kV doc pm cdv ct : Value} {osl : Array (Option Value)} (X : K.In h) (G : h.Ns mainGlobals mg)
    (a : PySem.W.nsIn K mainGlobals x = some (some (.ref f))) (l : K.lookup f = some ⟨oc, od, .func (PySem.W.fnOf x x (defArgs st) (defBody st) (defScope st) .none kV doc pm an cdv ct), osl⟩) (c : PySem.W.codeIn K cdv x = true) (k : PySem.W.keepIn K (.ref f) = true) : FF K mg x st :=
  ⟨f, oc, od, kV, doc, pm, cdv, ct, an, osl, l, c, k, PySem.W.mg_of X G a⟩
/-- a def in the class's body, held by the class -/
structure FM (K : PySem.W.Frag) (C : Addr) (m q : Str) (st : Stmt) : Prop where
  ex : ∃ (f : Addr) (oc : Value) (od : Option Addr) (kV doc pm cdv ct : Value) (an : Option Addr) (osl : Array (Option Value)),
    PySem.W.findIn K (.ref C) m = some (some (.ref f)) ∧ PySem.W.isFn K (.ref f) = true ∧
    K.lookup f = some ⟨oc, od, .func (PySem.W.fnOf m q (defArgs st) (defBody st) (defScope st) .none kV doc pm an cdv ct), osl⟩ ∧ PySem.W.codeIn K cdv q = true ∧ PySem.W.keepIn K (.ref f) = true
theorem fm_mk {K : PySem.W.Frag} {C : Addr} {m q : Str} {st : Stmt} {f : Addr} {oc : Value} {od an : Option Addr} {kV doc pm cdv ct : Value} {osl : Array (Option Value)}
    (a : PySem.W.findIn K (.ref C) m = some (some (.ref f))) (i : PySem.W.isFn K (.ref f) = true) (l : K.lookup f = some ⟨oc, od, .func (PySem.W.fnOf m q (defArgs st) (defBody st) (defScope st) .none kV doc pm an cdv ct), osl⟩) (c : PySem.W.codeIn K cdv q = true) (k : PySem.W.keepIn K (.ref f) = true) : FM K C m q st :=
  ⟨f, oc, od, kV, doc, pm, cdv, ct, an, osl, a, i, l, c, k⟩
section
variable {P : Program} {w : World} {K : PySem.W.Frag} {mg : Str → Option Value} {base : Heap} {x m q : Str} {C : Addr} {st : Stmt} {k : Nat} {ps ks : List Str} {sp : Sp}
theorem FF.cal (F : FF K mg x st) (ok : ∀ f fd, Fun K x x st f fd → FnOk P w K mg base CX0 k f fd ps sp)
    (hb : ∀ (kV doc pm : Value) (an : Option Addr) (cdv ct : Value) (us : List Value), us.length = ps.length → bindArgs (PySem.W.fnOf x x (defArgs st) (defBody st) (defScope st) .none kV doc pm an cdv ct) ⟨us, []⟩ = pure (ps.zip us)) : Cal P w K mg base x k ps sp := by
  obtain ⟨f, oc, od, kV, doc, pm, cdv, ct, an, osl, l, c, kp, m⟩ := F.ex
  exact ⟨f, _, ok f _ (fun_mk l c kp), m, kp, (fun_mk l c kp).binds hb⟩
theorem FF.calK (F : FF K mg x st) (g : List Value → List Value) (gV : List V → List V) (ok : ∀ f fd, Fun K x x st f fd → FnOk P w K mg base CX0 k f fd ps sp)
    (hb : ∀ (kV doc pm : Value) (an : Option Addr) (cdv ct : Value) (ws : List Value), ws.length = ks.length → bindArgs (PySem.W.fnOf x x (defArgs st) (defBody st) (defScope st) .none kV doc pm an cdv ct) ⟨[], ks.zip ws⟩ = pure (ps.zip (g ws)))
    (hr : ∀ {zs : List V} {ws : List Value}, Vals zs ws → Vals (gV zs) (g ws)) : CalK P w K mg base x k ps ks gV sp := by
  obtain ⟨f, oc, od, kV, doc, pm, cdv, ct, an, osl, l, c, kp, m⟩ := F.ex
  refine ⟨f, _, g, ok f _ (fun_mk l c kp), m, kp, ⟨fun s us ws _ h0 h1 => ?_, fun _ r => hr r⟩⟩
  obtain rfl : us = [] := List.length_eq_zero_iff.mp h0
  exact .of_eq (hb kV doc pm an cdv ct ws h1)
theorem FM.meth (F : FM K C m q st) (ok : ∀ f fd, Fun K m q st f fd → FnOk P w K mg base CX0 6 f fd ps sp)
    (hb : ∀ (kV doc pm : Value) (an : Option Addr) (cdv ct : Value) (us : List Value), us.length = ps.length → bindArgs (PySem.W.fnOf m q (defArgs st) (defBody st) (defScope st) .none kV doc pm an cdv ct) ⟨us, []⟩ = pure (ps.zip us)) : MethW P w K mg base C m ps sp := by
  obtain ⟨f, oc, od, kV, doc, pm, cdv, ct, an, osl, a, i, l, c, kp⟩ := F.ex
  exact ⟨f, _, ⟨a, i, kp⟩, ok f _ (fun_mk l c kp), (fun_mk l c kp).binds hb⟩
end
theorem vals_app {a c : List V} {b d : List Value} (h1 : Vals a b) (h2 : Vals c d) : Vals (a ++ c) (b ++ d) := by
  induction h1 with
  | nil => exact h2
  | cons h t ih => exact .cons h ih
theorem vals_rev {a : List V} {b : List Value} (h : Vals a b) : Vals a.reverse b.reverse := by
  induction h with
  | nil => exact .nil
  | cons h t ih =>
    rw [List.reverse_cons, List.reverse_cons]
    exact vals_app ih (.cons h .nil)
structure Names (mg : Str → Option Value) : Prop where
  isinstance : mg "isinstance" = none
  int : mg "int" = none
  bool : mg "bool" = none
  str : mg "str" = none
  list : mg "list" = none
  tuple : mg "tuple" = none
  all : mg "all" = none
  len : mg "len" = none
  abs : mg "abs" = none
  range : mg "range" = none
  sorted : mg "sorted" = none
  min : mg "min" = none
  max : mg "max" = none
  enumerate : mg "enumerate" = none
  kind : ∃ t, mg "MOST_KIND" = some (.int 26 t)
  most : ∃ t, mg "MOST_LETTERS" = some (.int 500 t)
structure Defs (K : PySem.W.Frag) (mg : Str → Option Value) (C : Addr) : Prop where
  d_sIsInt : FF K mg "is_integer" sIsInt
  d_sWithin : FF K mg "is_within" sWithin
  d_sLetter : FF K mg "is_letter" sLetter
  d_sListed : FF K mg "is_listed" sListed
  d_sCon : FF K mg "contrary_letters" sCon
  d_sShr : FF K mg "shortened_letters" sShr
  d_sRnd : FF K mg "rounded_letters" sRnd
  d_sTurnedL : FF K mg "turned_letters" sTurnedL
  d_sLeastS : FF K mg "least_start" sLeastS
  d_sKinds : FF K mg "kinds_of" sKinds
  d_sNeedI : FF K mg "need_integer" sNeedI
  d_sNeedW : FF K mg "need_word" sNeedW
  d_sFew : FF K mg "need_few_letters" sFew
  d_sNeed2 : FF K mg "need_two_words" sNeed2
  d_sTurnTo : FF K mg "turn_to" sTurnTo
  d_sLeastT : FF K mg "least_turned" sLeastT
  d_sJar : FF K mg "_law_jar" sJar
  d_sDraw : FF K mg "_law_draw" sDraw
  d_sPick : FF K mg "_law_pick" sPick
  d_sLetters : FF K mg "_law_letters" sLetters
  d_sForms : FF K mg "_law_forms" sForms
  d_sMixed : FF K mg "_law_mixed" sMixed
  d_sDrawn : FF K mg "_law_drawn" sDrawn
  d_sPair : FF K mg "_law_pair_right" sPair
  d_sLeastR : FF K mg "_law_least_right" sLeastR
  d_sMoved : FF K mg "_law_moved_right" sMoved
  d_sLaw : FF K mg "law" sLaw
  m_sInit : FM K C "__init__" "Word.__init__" sInit
  m_sEq : FM K C "__eq__" "Word.__eq__" sEq
  m_sContrary : FM K C "contrary" "Word.contrary" sContrary
  m_sShort : FM K C "shortened" "Word.shortened" sShort
  m_sRound : FM K C "shortened_round" "Word.shortened_round" sRound
  m_sTurnedM : FM K C "turned" "Word.turned" sTurnedM
  m_sThen : FM K C "then" "Word.then" sThen
/-- what is to be known of the class -/
structure ClsW (K : PySem.W.Frag) (mg : Str → Option Value) (C : Addr) : Prop where
  cl : Cls K C
  nL : NoAttr K C "letters"
  nN : NoAttr K C "length"
  nK : NoAttr K C "kinds"
  nS : NoAttr K C "is_short"
  nR : NoAttr K C "is_short_round"
  ca : PySem.W.findIn K (.ref C) "__class__" = some (some (.builtin "object.__class__"))
  cn : PySem.W.specialIn K (.builtin "object.__class__") "__get__" = some (some (.builtin "getset_descriptor.__get__"))
  ct : PySem.W.takesIn K (.builtin "object.__class__") = some true
  cm : PySem.W.mroIn K C (.type "object") = some true
  ne : PySem.W.findIn K (.ref C) "__ne__" = some (some (.builtin "object.__ne__"))
  mks : PySem.W.makesIn K C = true
  kc : PySem.W.keepIn K (.ref C) = true
  mgW : mg "Word" = some (.ref C)
theorem law_mk {P : Program} {w : World} {K : PySem.W.Frag} {mg : Str → Option Value} {base : Heap} {C : Addr} {fL : Addr} {fdL : FuncData} (N : Names mg) (D : Defs K mg C) (W : ClsW K mg C) (FL : Fun K "law" "law" sLaw fL fdL) : FnOk P w K mg base CX0 9 fL fdL ["_law_script"] (spLaw K) := by
  have tA : TxA mg := ⟨N.tuple, N.len⟩
  have tB : TxB mg := ⟨N.sorted, N.abs⟩
  have tC : TxC mg := ⟨N.kind, N.all⟩
  have tI : TxI mg := ⟨N.isinstance, N.int, N.bool, N.str, N.list, N.tuple⟩
  have tL : TxL mg := ⟨N.int, N.len, N.abs⟩
  have tN : TxN mg := ⟨N.range, N.list⟩
  have tW : TxW K mg C := ⟨W.cl, W.nL, W.nN, W.nK, W.nS, W.nR, W.ca, W.cn, W.ct, W.cm, W.mgW, N.most, N.isinstance, N.all⟩
  have cInt : Cal P w K mg base "is_integer" 1 ["value"] spIsInt := D.d_sIsInt.cal (fun f fd F => ok_isInt F tI) (fun _ _ _ _ _ _ us hl => match us, hl with | [_], _ => rfl)
  have cWithin : Cal P w K mg base "is_within" 2 ["value", "least", "most"] spWithin := D.d_sWithin.cal (fun f fd F => ok_within F cInt) (fun _ _ _ _ _ _ us hl => match us, hl with | [_, _, _], _ => rfl)
  have cLetter : Cal P w K mg base "is_letter" 3 ["value"] spLetter := D.d_sLetter.cal (fun f fd F => ok_letter F cWithin tC) (fun _ _ _ _ _ _ us hl => match us, hl with | [_], _ => rfl)
  have cListE : Cal P w K mg base "is_listed" 1 ["value"] (spListE K) := D.d_sListed.cal (fun f fd F => ok_listE F tI) (fun _ _ _ _ _ _ us hl => match us, hl with | [_], _ => rfl)
  have cFew : Cal P w K mg base "need_few_letters" 1 ["many"] spFew := D.d_sFew.cal (fun f fd F => ok_few F tW) (fun _ _ _ _ _ _ us hl => match us, hl with | [_], _ => rfl)
  have cKinds : Cal P w K mg base "kinds_of" 1 ["letters"] (spKinds K) := D.d_sKinds.cal (fun f fd F => ok_kinds F tA tB) (fun _ _ _ _ _ _ us hl => match us, hl with | [_], _ => rfl)
  have cShr : Cal P w K mg base "shortened_letters" 1 ["letters"] (spShr K) := D.d_sShr.cal (fun f fd F => ok_shr F tA) (fun _ _ _ _ _ _ us hl => match us, hl with | [_], _ => rfl)
  have cRnd : Cal P w K mg base "rounded_letters" 2 ["letters"] (spRnd K) := D.d_sRnd.cal (fun f fd F => ok_rnd F cShr tA) (fun _ _ _ _ _ _ us hl => match us, hl with | [_], _ => rfl)
  have cCon : Cal P w K mg base "contrary_letters" 1 ["letters"] (spCon K) := D.d_sCon.cal (fun f fd F => ok_con F tA) (fun _ _ _ _ _ _ us hl => match us, hl with | [_], _ => rfl)
  have cNeedI : Cal P w K mg base "need_integer" 2 ["value", "part"] spNeedI := D.d_sNeedI.cal (fun f fd F => ok_needI F cInt) (fun _ _ _ _ _ _ us hl => match us, hl with | [_, _], _ => rfl)
  have cNeedW : Cal P w K mg base "need_word" 1 ["value", "part"] (spNeedW K C) := D.d_sNeedW.cal (fun f fd F => ok_needW F tW) (fun _ _ _ _ _ _ us hl => match us, hl with | [_, _], _ => rfl)
  have mW : MkW P w K mg base C := by
    obtain ⟨f, oc, od, kV, doc, pm, cdv, ct, an, osl, a, i, l, c, kp⟩ := D.m_sInit.ex
    exact ⟨f, _, ⟨W.mks, a, i, W.kc⟩, ok_init (fun_mk l c kp) tW tA cListE cLetter cFew cKinds cShr cRnd, (fun_mk l c kp).binds (fun _ _ _ _ _ _ us hl => match us, hl with | [_, _], _ => rfl)⟩
  have eW : EqW P w K mg base C := by
    obtain ⟨f, oc, od, kV, doc, pm, cdv, ct, an, osl, a, i, l, c, kp⟩ := D.m_sEq.ex
    exact ⟨f, _, ok_eq (fun_mk l c kp) tW, a, i, (fun_mk l c kp).binds (fun _ _ _ _ _ _ us hl => match us, hl with | [_, _], _ => rfl)⟩
  have cTurnedL : Cal P w K mg base "turned_letters" 1 ["letters", "by"] (spTurnedL K) := D.d_sTurnedL.cal (fun f fd F => ok_turnedL F tA) (fun _ _ _ _ _ _ us hl => match us, hl with | [_, _], _ => rfl)
  have cLeastS : Cal P w K mg base "least_start" 1 ["values"] (spLeastS K) := D.d_sLeastS.cal (fun f fd F => ok_leastS F tA N.min) (fun _ _ _ _ _ _ us hl => match us, hl with | [_], _ => rfl)
  have aW : AllW P w K mg base C := {
    con := D.m_sContrary.meth (fun f fd F => ok_contrary F tW mW cCon) (fun _ _ _ _ _ _ us hl => match us, hl with | [_], _ => rfl)
    sht := D.m_sShort.meth (fun f fd F => ok_shortened F tW mW cShr) (fun _ _ _ _ _ _ us hl => match us, hl with | [_], _ => rfl)
    rnd := D.m_sRound.meth (fun f fd F => ok_round F tW mW cRnd) (fun _ _ _ _ _ _ us hl => match us, hl with | [_], _ => rfl)
    thn := D.m_sThen.meth (fun f fd F => ok_then F tW mW cNeedW) (fun _ _ _ _ _ _ us hl => match us, hl with | [_, _], _ => rfl)
    trd := D.m_sTurnedM.meth (fun f fd F => ok_turned F tW mW cNeedI cTurnedL) (fun _ _ _ _ _ _ us hl => match us, hl with | [_, _], _ => rfl)
    mkw := mW
    eq := eW
    ne := W.ne }
  have cNeed2 : Cal P w K mg base "need_two_words" 2 ["one", "other"] (spNeed2 K C) := D.d_sNeed2.cal (fun f fd F => ok_need2 F cNeedW) (fun _ _ _ _ _ _ us hl => match us, hl with | [_, _], _ => rfl)
  have cTurnTo : Cal P w K mg base "turn_to" 3 ["one", "other"] (spTurnTo K C) := D.d_sTurnTo.cal (fun f fd F => ok_turnTo F tW N.range N.max cNeed2 cTurnedL) (fun _ _ _ _ _ _ us hl => match us, hl with | [_, _], _ => rfl)
  have cTurnToK : CalK P w K mg base "turn_to" 3 ["one", "other"] ["other", "one"] List.reverse (spTurnTo K C) := D.d_sTurnTo.calK List.reverse List.reverse (fun f fd F => ok_turnTo F tW N.range N.max cNeed2 cTurnedL) (fun _ _ _ _ _ _ us hl => match us, hl with | [_, _], _ => rfl) fun r => vals_rev r
  have cLeastT : Cal P w K mg base "least_turned" 7 ["word"] (spLeastT K C) := D.d_sLeastT.cal (fun f fd F => ok_leastT F tW aW cNeedW cLeastS) (fun _ _ _ _ _ _ us hl => match us, hl with | [_], _ => rfl)
  have cLeastTK : CalK P w K mg base "least_turned" 7 ["word"] ["word"] id (spLeastT K C) := D.d_sLeastT.calK id id (fun f fd F => ok_leastT F tW aW cNeedW cLeastS) (fun _ _ _ _ _ _ us hl => match us, hl with | [_], _ => rfl) fun r => r
  have tP : TxP mg := ⟨N.isinstance, N.bool, N.enumerate⟩
  have cJar : Cal P w K mg base "_law_jar" 1 ["_law_script"] (spHand K) := D.d_sJar.cal (fun f fd F => ok_hand F tL) (fun _ _ _ _ _ _ us hl => match us, hl with | [_], _ => rfl)
  have cDraw : Cal P w K mg base "_law_draw" 1 ["_law_jar_here", "_law_many"] spTake := D.d_sDraw.cal (fun f fd F => ok_take F tL) (fun _ _ _ _ _ _ us hl => match us, hl with | [_, _], _ => rfl)
  have cPick : Cal P w K mg base "_law_pick" 2 ["_law_jar_here", "_law_some"] spPick := D.d_sPick.cal (fun f fd F => ok_pick F cDraw tL) (fun _ _ _ _ _ _ us hl => match us, hl with | [_, _], _ => rfl)
  have cLetters : Cal P w K mg base "_law_letters" 2 ["_law_jar_here", "_law_many", "_law_kinds"] spLetters := D.d_sLetters.cal (fun f fd F => ok_letters F cDraw tN) (fun _ _ _ _ _ _ us hl => match us, hl with | [_, _, _], _ => rfl)
  have cForms : Cal P w K mg base "_law_forms" 1 ["_law_letters_here"] (spForms K) := D.d_sForms.cal (fun f fd F => ok_forms F tA tN) (fun _ _ _ _ _ _ us hl => match us, hl with | [_], _ => rfl)
  have cMixed : Cal P w K mg base "_law_mixed" 2 ["_law_jar_here", "_law_some"] spMixed := D.d_sMixed.cal (fun f fd F => ok_mixed F cDraw tA tN) (fun _ _ _ _ _ _ us hl => match us, hl with | [_, _], _ => rfl)
  have cDrawn : Cal P w K mg base "_law_drawn" 3 ["_law_jar_here"] spDrawn := D.d_sDrawn.cal (fun f fd F => ok_drawn F cDraw cPick cLetters tA tN) (fun _ _ _ _ _ _ us hl => match us, hl with | [_], _ => rfl)
  have cPair : Cal P w K mg base "_law_pair_right" 7 ["_law_letters_here", "_law_others"] spPair := D.d_sPair.cal (fun f fd F => ok_pair F tW aW tA tP cForms cTurnTo cTurnToK) (fun _ _ _ _ _ _ us hl => match us, hl with | [_, _], _ => rfl)
  have cLeastR : Cal P w K mg base "_law_least_right" 8 ["_law_jar_here", "_law_letters_here"] spLeastR := D.d_sLeastR.cal (fun f fd F => ok_leastR F tW aW tA tN N.min cDraw cForms cTurnTo cLeastT cLeastTK) (fun _ _ _ _ _ _ us hl => match us, hl with | [_, _], _ => rfl)
  have cMoved : Cal P w K mg base "_law_moved_right" 8 ["_law_jar_here", "_law_letters_here"] spMoved := D.d_sMoved.cal (fun f fd F => ok_moved F tW aW cDraw cLetters cTurnTo cLeastT) (fun _ _ _ _ _ _ us hl => match us, hl with | [_, _], _ => rfl)
  exact ok_law FL tW aW tA tL tN N.max cJar cDraw cPick cLetters cForms cMixed cDrawn cPair cLeastR cMoved cTurnTo cLeastT
theorem at_mk {l : PySem.W.OpenLaw} {w : World} {K : PySem.W.Frag} {h : Heap} {mg : Str → Option Value} {fa C : Addr} (X : K.In h) (G : h.Ns mainGlobals mg) (hfa : mg "law" = some (.ref fa)) (N : Names mg) (D : Defs K mg C) (W : ClsW K mg C) :
    ∃ fd : FuncData, (∀ (s : Shared) (v : Value), BindsTo s fd ⟨[v], []⟩ [("_law_script", v)]) ∧ ∀ base : Heap, K.In base → base.Ns mainGlobals mg → FnOk l.prog w K mg base CX0 9 fa fd ["_law_script"] (spLaw K) := by
  obtain ⟨f, oc, od, kV, doc, pm, cdv, ct, an, osl, lL, c, kp, m⟩ := D.d_sLaw.ex
  have e := hfa.symm.trans m
  cases e
  exact ⟨_, fun s v => .of_eq rfl, fun base _ _ => law_mk N D W (fun_mk lL c kp)⟩
theorem walk {l : PySem.W.OpenLaw} {q : Program} {loose : List Str} {XP : (Str → Option Value) → Heap → Prop} {YP : World → Heap → Prop} {d : DefRec} {K : Params → PySem.W.Frag} (hn : l.most = some 63) (hdf : d.params.defaults = [])
    (hY : ∀ (w : World) (h : Heap), YP w h → (K w.params).In h)
    (F : ∀ (w : World) (mg : Str → Option Value) (fa : Addr) (h : Heap), (K w.params).In h → h.Ns mainGlobals mg → mg d.name = some (.ref fa) →
      ∃ fd : FuncData, (∀ (s : Shared) (u : Value), BindsTo s fd ⟨[u], []⟩ [("_law_script", u)]) ∧ ∀ base : Heap, (K w.params).In base → base.Ns mainGlobals mg → FnOk l.prog w (K w.params) mg base CX0 9 fa fd ["_law_script"] (spLaw (K w.params))) :
    PySem.W.WalkO q loose XP YP l.row.toRowW d [] (fun f vs => PySem.call f vs) :=
  L2.walk_of (n := 63) (k := 9) (x := "_law_script") (CX := fun _ => CX0) (sp := fun w => spLaw (K w.params)) hn (by decide) hdf ⟨rfl, by decide, by decide⟩ hY F (fun _ _ a ns hl _ hS => ⟨a, ns, rfl, hS, hl, fun _ => rfl⟩) fun _ _ _ _ _ z => z
end W06
set_option Elab.async false
set_option linter.all false
set_option maxRecDepth 100000
set_option maxHeartbeats 4000000
namespace W06
open PySem L2 PySem.Spec PyProof.Rows WR
theorem names_mk {K : PySem.W.Frag} {h : Heap} {mg : Str → Option Value} {u0 u1 : Tok} (X : K.In h) (G : h.Ns mainGlobals mg)
    (n0 : PySem.W.nsIn K mainGlobals "isinstance" = some none) (n1 : PySem.W.nsIn K mainGlobals "int" = some none) (n2 : PySem.W.nsIn K mainGlobals "bool" = some none) (n3 : PySem.W.nsIn K mainGlobals "str" = some none) (n4 : PySem.W.nsIn K mainGlobals "list" = some none) (n5 : PySem.W.nsIn K mainGlobals "tuple" = some none) (n6 : PySem.W.nsIn K mainGlobals "all" = some none) (n7 : PySem.W.nsIn K mainGlobals "len" = some none) (n8 : PySem.W.nsIn K mainGlobals "abs" = some none) (n9 : PySem.W.nsIn K mainGlobals "range" = some none) (n10 : PySem.W.nsIn K mainGlobals "sorted" = some none) (n11 : PySem.W.nsIn K mainGlobals "min" = some none) (n12 : PySem.W.nsIn K mainGlobals "max" = some none) (n13 : PySem.W.nsIn K mainGlobals "enumerate" = some none) (g0 : PySem.W.nsIn K mainGlobals "MOST_KIND" = some (some (.int 26 u0))) (g1 : PySem.W.nsIn K mainGlobals "MOST_LETTERS" = some (some (.int 500 u1))) : Names mg :=
  ⟨PySem.W.mg_none_of X G n0, PySem.W.mg_none_of X G n1, PySem.W.mg_none_of X G n2, PySem.W.mg_none_of X G n3, PySem.W.mg_none_of X G n4, PySem.W.mg_none_of X G n5, PySem.W.mg_none_of X G n6, PySem.W.mg_none_of X G n7, PySem.W.mg_none_of X G n8, PySem.W.mg_none_of X G n9, PySem.W.mg_none_of X G n10, PySem.W.mg_none_of X G n11, PySem.W.mg_none_of X G n12, PySem.W.mg_none_of X G n13, ⟨_, PySem.W.mg_of X G g0⟩, ⟨_, PySem.W.mg_of X G g1⟩⟩
theorem cls_mk {K : PySem.W.Frag} {h : Heap} {mg : Str → Option Value} {C : Addr} (X : K.In h) (G : h.Ns mainGlobals mg)
    (aC : PySem.W.nsIn K mainGlobals "Word" = some (some (.ref C)))
    (pg : PySem.W.plainGet K C Str.empty = true) (hd : PySem.W.hasDictIn K C = true) (po : PySem.W.plainOver K C = true) (sa : PySem.W.findIn K (.ref C) "__setattr__" = some (some (.builtin "object.__setattr__")))
    (nL : PySem.W.findIn K (.ref C) "letters" = some none) (nN : PySem.W.findIn K (.ref C) "length" = some none) (nK : PySem.W.findIn K (.ref C) "kinds" = some none) (nS : PySem.W.findIn K (.ref C) "is_short" = some none) (nR : PySem.W.findIn K (.ref C) "is_short_round" = some none)
    (ca : PySem.W.findIn K (.ref C) "__class__" = some (some (.builtin "object.__class__")))
    (cn : PySem.W.specialIn K (.builtin "object.__class__") "__get__" = some (some (.builtin "getset_descriptor.__get__")))
    (ct : PySem.W.takesIn K (.builtin "object.__class__") = some true)
    (cm : PySem.W.mroIn K C (.type "object") = some true)
    (ne : PySem.W.findIn K (.ref C) "__ne__" = some (some (.builtin "object.__ne__")))
    (mk : PySem.W.makesIn K C = true) (kc : PySem.W.keepIn K (.ref C) = true) : ClsW K mg C :=
  ⟨⟨pg, hd, po, sa⟩, nL, nN, nK, nS, nR, ca, cn, ct, cm, ne, mk, kc, PySem.W.mg_of X G aC⟩
end W06

open PySem PySem.W PyProof.Rows in
set_option maxRecDepth 100000 in
set_option maxHeartbeats 0 in
theorem PySem.Challenge.cw_handlerims_k06_least_turned_and_turns_th_holds : PySem.Challenge.rw_handlerims_k06_least_turned_and_turns_th.Holds := by
  w_on; o_law; k_head; (case hw => w_witness2)
  k_fill
  refine W06.walk (l := PySem.Challenge.rw_handlerims_k06_least_turned_and_turns_th) rfl rfl (fun w h Y => PySem.W.kIn_of Y) ?F
  case F =>
    intro w mg fa h KX G hmg
    have hN : W06.Names mg := by
      refine' W06.names_mk KX G ?q_n0 ?q_n1 ?q_n2 ?q_n3 ?q_n4 ?q_n5 ?q_n6 ?q_n7 ?q_n8 ?q_n9 ?q_n10 ?q_n11 ?q_n12 ?q_n13 ?q_g0 ?q_g1
      (case q_n0 => k_is)
      (case q_n1 => k_is)
      (case q_n2 => k_is)
      (case q_n3 => k_is)
      (case q_n4 => k_is)
      (case q_n5 => k_is)
      (case q_n6 => k_is)
      (case q_n7 => k_is)
      (case q_n8 => k_is)
      (case q_n9 => k_is)
      (case q_n10 => k_is)
      (case q_n11 => k_is)
      (case q_n12 => k_is)
      (case q_n13 => k_is)
      (case q_g0 => k_is)
      (case q_g1 => k_is)
    refine' W06.at_mk KX G hmg hN ?q_D ?q_W
    case q_W =>
      refine' W06.cls_mk KX G ?q_aC ?q_pg ?q_hd ?q_po ?q_sa ?q_nL ?q_nN ?q_nK ?q_nS ?q_nR ?q_ca ?q_cn ?q_ct ?q_cm ?q_ne ?q_mk ?q_kc
      (case q_aC => k_is)
      (case q_pg => k_is)
      (case q_hd => k_is)
      (case q_po => k_is)
      (case q_sa => k_is)
      (case q_nL => k_is)
      (case q_nN => k_is)
      (case q_nK => k_is)
      (case q_nS => k_is)
      (case q_nR => k_is)
      (case q_ca => k_is)
      (case q_cn => k_is)
      (case q_ct => k_is)
      (case q_cm => k_is)
      (case q_ne => k_is)
      (case q_mk => k_is)
      (case q_kc => k_is)
    case q_D =>
      refine' { d_sIsInt := W06.ff_mk KX G ?q_a0 ?q_l0 ?q_c0 ?q_k0, d_sWithin := W06.ff_mk KX G ?q_a1 ?q_l1 ?q_c1 ?q_k1, d_sLetter := W06.ff_mk KX G ?q_a2 ?q_l2 ?q_c2 ?q_k2, d_sListed := W06.ff_mk KX G ?q_a3 ?q_l3 ?q_c3 ?q_k3, d_sCon := W06.ff_mk KX G ?q_a4 ?q_l4 ?q_c4 ?q_k4, d_sShr := W06.ff_mk KX G ?q_a5 ?q_l5 ?q_c5 ?q_k5, d_sRnd := W06.ff_mk KX G ?q_a6 ?q_l6 ?q_c6 ?q_k6, d_sTurnedL := W06.ff_mk KX G ?q_a7 ?q_l7 ?q_c7 ?q_k7, d_sLeastS := W06.ff_mk KX G ?q_a8 ?q_l8 ?q_c8 ?q_k8, d_sKinds := W06.ff_mk KX G ?q_a9 ?q_l9 ?q_c9 ?q_k9, d_sNeedI := W06.ff_mk KX G ?q_a10 ?q_l10 ?q_c10 ?q_k10, d_sNeedW := W06.ff_mk KX G ?q_a11 ?q_l11 ?q_c11 ?q_k11, d_sFew := W06.ff_mk KX G ?q_a12 ?q_l12 ?q_c12 ?q_k12, d_sNeed2 := W06.ff_mk KX G ?q_a13 ?q_l13 ?q_c13 ?q_k13, d_sTurnTo := W06.ff_mk KX G ?q_a14 ?q_l14 ?q_c14 ?q_k14, d_sLeastT := W06.ff_mk KX G ?q_a15 ?q_l15 ?q_c15 ?q_k15, d_sJar := W06.ff_mk KX G ?q_a16 ?q_l16 ?q_c16 ?q_k16, d_sDraw := W06.ff_mk KX G ?q_a17 ?q_l17 ?q_c17 ?q_k17, d_sPick := W06.ff_mk KX G ?q_a18 ?q_l18 ?q_c18 ?q_k18, d_sLetters := W06.ff_mk KX G ?q_a19 ?q_l19 ?q_c19 ?q_k19, d_sForms := W06.ff_mk KX G ?q_a20 ?q_l20 ?q_c20 ?q_k20, d_sMixed := W06.ff_mk KX G ?q_a21 ?q_l21 ?q_c21 ?q_k21, d_sDrawn := W06.ff_mk KX G ?q_a22 ?q_l22 ?q_c22 ?q_k22, d_sPair := W06.ff_mk KX G ?q_a23 ?q_l23 ?q_c23 ?q_k23, d_sLeastR := W06.ff_mk KX G ?q_a24 ?q_l24 ?q_c24 ?q_k24, d_sMoved := W06.ff_mk KX G ?q_a25 ?q_l25 ?q_c25 ?q_k25, d_sLaw := W06.ff_mk KX G ?q_a26 ?q_l26 ?q_c26 ?q_k26, m_sInit := W06.fm_mk ?q_ma0 ?q_mi0 ?q_ml0 ?q_mc0 ?q_mk0, m_sEq := W06.fm_mk ?q_ma1 ?q_mi1 ?q_ml1 ?q_mc1 ?q_mk1, m_sContrary := W06.fm_mk ?q_ma2 ?q_mi2 ?q_ml2 ?q_mc2 ?q_mk2, m_sShort := W06.fm_mk ?q_ma3 ?q_mi3 ?q_ml3 ?q_mc3 ?q_mk3, m_sRound := W06.fm_mk ?q_ma4 ?q_mi4 ?q_ml4 ?q_mc4 ?q_mk4, m_sTurnedM := W06.fm_mk ?q_ma5 ?q_mi5 ?q_ml5 ?q_mc5 ?q_mk5, m_sThen := W06.fm_mk ?q_ma6 ?q_mi6 ?q_ml6 ?q_mc6 ?q_mk6 }
      (case q_a0 => k_is); (case q_l0 => k_is); (case q_c0 => k_is); (case q_k0 => k_is)
      (case q_a1 => k_is); (case q_l1 => k_is); (case q_c1 => k_is); (case q_k1 => k_is)
      (case q_a2 => k_is); (case q_l2 => k_is); (case q_c2 => k_is); (case q_k2 => k_is)
      (case q_a3 => k_is); (case q_l3 => k_is); (case q_c3 => k_is); (case q_k3 => k_is)
      (case q_a4 => k_is); (case q_l4 => k_is); (case q_c4 => k_is); (case q_k4 => k_is)
      (case q_a5 => k_is); (case q_l5 => k_is); (case q_c5 => k_is); (case q_k5 => k_is)
      (case q_a6 => k_is); (case q_l6 => k_is); (case q_c6 => k_is); (case q_k6 => k_is)
      (case q_a7 => k_is); (case q_l7 => k_is); (case q_c7 => k_is); (case q_k7 => k_is)
      (case q_a8 => k_is); (case q_l8 => k_is); (case q_c8 => k_is); (case q_k8 => k_is)
      (case q_a9 => k_is); (case q_l9 => k_is); (case q_c9 => k_is); (case q_k9 => k_is)
      (case q_a10 => k_is); (case q_l10 => k_is); (case q_c10 => k_is); (case q_k10 => k_is)
      (case q_a11 => k_is); (case q_l11 => k_is); (case q_c11 => k_is); (case q_k11 => k_is)
      (case q_a12 => k_is); (case q_l12 => k_is); (case q_c12 => k_is); (case q_k12 => k_is)
      (case q_a13 => k_is); (case q_l13 => k_is); (case q_c13 => k_is); (case q_k13 => k_is)
      (case q_a14 => k_is); (case q_l14 => k_is); (case q_c14 => k_is); (case q_k14 => k_is)
      (case q_a15 => k_is); (case q_l15 => k_is); (case q_c15 => k_is); (case q_k15 => k_is)
      (case q_a16 => k_is); (case q_l16 => k_is); (case q_c16 => k_is); (case q_k16 => k_is)
      (case q_a17 => k_is); (case q_l17 => k_is); (case q_c17 => k_is); (case q_k17 => k_is)
      (case q_a18 => k_is); (case q_l18 => k_is); (case q_c18 => k_is); (case q_k18 => k_is)
      (case q_a19 => k_is); (case q_l19 => k_is); (case q_c19 => k_is); (case q_k19 => k_is)
      (case q_a20 => k_is); (case q_l20 => k_is); (case q_c20 => k_is); (case q_k20 => k_is)
      (case q_a21 => k_is); (case q_l21 => k_is); (case q_c21 => k_is); (case q_k21 => k_is)
      (case q_a22 => k_is); (case q_l22 => k_is); (case q_c22 => k_is); (case q_k22 => k_is)
      (case q_a23 => k_is); (case q_l23 => k_is); (case q_c23 => k_is); (case q_k23 => k_is)
      (case q_a24 => k_is); (case q_l24 => k_is); (case q_c24 => k_is); (case q_k24 => k_is)
      (case q_a25 => k_is); (case q_l25 => k_is); (case q_c25 => k_is); (case q_k25 => k_is)
      (case q_a26 => k_is); (case q_l26 => k_is); (case q_c26 => k_is); (case q_k26 => k_is)
      (case q_ma0 => k_is); (case q_mi0 => k_is); (case q_ml0 => k_is); (case q_mc0 => k_is); (case q_mk0 => k_is)
      (case q_ma1 => k_is); (case q_mi1 => k_is); (case q_ml1 => k_is); (case q_mc1 => k_is); (case q_mk1 => k_is)
      (case q_ma2 => k_is); (case q_mi2 => k_is); (case q_ml2 => k_is); (case q_mc2 => k_is); (case q_mk2 => k_is)
      (case q_ma3 => k_is); (case q_mi3 => k_is); (case q_ml3 => k_is); (case q_mc3 => k_is); (case q_mk3 => k_is)
      (case q_ma4 => k_is); (case q_mi4 => k_is); (case q_ml4 => k_is); (case q_mc4 => k_is); (case q_mk4 => k_is)
      (case q_ma5 => k_is); (case q_mi5 => k_is); (case q_ml5 => k_is); (case q_mc5 => k_is); (case q_mk5 => k_is)
      (case q_ma6 => k_is); (case q_mi6 => k_is); (case q_ml6 => k_is); (case q_mc6 => k_is); (case q_mk6 => k_is)
