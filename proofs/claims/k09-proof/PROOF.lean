import PyProof.Rows.All
import Wide.All
import OpenK.AllK
import Wide.FinOn
import HandS.ForMost
import HandS.Strs
import HandS.SetBool
import HandS.TupAny
import HandS.TupMul
import KE.KRevSl
import HandS.Exc
import HandS.TryOnly
import HandS.ExcOwn
import HandS.WordsExc
import HandS.Wide
import HandS.IsInst
import HandS.Style
import HandS.Flow
import HandS.Evl
import HandS.MakeKwOnly
import HandS.Walk
import KE.KEqSeq
import HandS.OwnEq
import HandS.More
import PyProof.InstNe
import HandS.Base
import HandS.Call
import HandS.List
import PyProof.AutoSeq1
import HandS.ClsMeth
import OpenK.KDescr
import HandS.SetFor
import HandS.SetKeys
import HandS.Dict
import HandS.RaiseMore
import HandS.Iter
import HandS.Deep
import HandS.ReCall
import HandS.Conv
import HandS.WordsDict
import PySem.Challenge.RW_handlerims_k09_letters_and_words_put_for
set_option Elab.async false
set_option linter.all false
/-! Rows of letters, shortened: neighbours that are contraries taken out. -/
namespace Fr

/-- a letter laid on what is left, its last one in front -/
def push : List Int → Int → List Int
  | [], a => [a]
  | b :: t, a => if b = -a then t else a :: b :: t

def act (s : List Int) (xs : List Int) : List Int := xs.foldl push s

/-- no neighbours are contraries -/
def Rd : List Int → Prop
  | [] => True
  | [_] => True
  | a :: b :: t => a ≠ -b ∧ Rd (b :: t)

/-- what is left of a row of letters -/
def shr (xs : List Int) : List Int := (act [] xs).reverse

/-- the contraries, the last one first -/
def con (xs : List Int) : List Int := xs.reverse.map (fun a => -a)

/-- so many times -/
def rep : Nat → List Int → List Int
  | 0, _ => []
  | n + 1, xs => xs ++ rep n xs

theorem Rd.tail {a : Int} {t : List Int} (h : Rd (a :: t)) : Rd t := by
  cases t with
  | nil => trivial
  | cons b u => exact h.2

theorem push_rd {s : List Int} (a : Int) (h : Rd s) : Rd (push s a) := by
  cases s with
  | nil => trivial
  | cons b t =>
    show Rd (if b = -a then t else a :: b :: t)
    by_cases e : b = -a
    · rw [if_pos e]; exact h.tail
    · rw [if_neg e]
      refine ⟨?_, h⟩
      omega

theorem push_push {s : List Int} (a : Int) (h : Rd s) : push (push s a) (-a) = s := by
  cases s with
  | nil => simp [push]
  | cons b t =>
    by_cases e : b = -a
    · have h1 : push (b :: t) a = t := by simp [push, e]
      rw [h1]
      cases t with
      | nil => simp [push, e]
      | cons c u =>
        have hc : c ≠ - -a := by
          intro hc
          exact h.1 (by omega)
        simp [push, e]
        omega
    · have h1 : push (b :: t) a = a :: b :: t := by simp [push, e]
      rw [h1]
      simp [push]

theorem push_push' {s : List Int} (a : Int) (h : Rd s) : push (push s (-a)) a = s := by
  have := push_push (-a) h
  rwa [Int.neg_neg] at this

theorem act_nil (s : List Int) : act s [] = s := rfl
theorem act_cons (s : List Int) (a : Int) (t : List Int) : act s (a :: t) = act (push s a) t := rfl
theorem act_append (s xs ys : List Int) : act s (xs ++ ys) = act (act s xs) ys := List.foldl_append
theorem act_snoc (s xs : List Int) (a : Int) : act s (xs ++ [a]) = push (act s xs) a := act_append s xs [a]

theorem act_rd : ∀ {xs s : List Int}, Rd s → Rd (act s xs)
  | [], _, h => h
  | a :: t, _, h => act_rd (xs := t) (push_rd a h)

/-- two rows are one and the same when they act alike -/
def Sm (xs ys : List Int) : Prop := ∀ s, Rd s → act s xs = act s ys

theorem Sm.refl (xs : List Int) : Sm xs xs := fun _ _ => rfl
theorem Sm.symm {xs ys : List Int} (h : Sm xs ys) : Sm ys xs := fun s r => (h s r).symm
theorem Sm.trans {xs ys zs : List Int} (h : Sm xs ys) (k : Sm ys zs) : Sm xs zs := fun s r => (h s r).trans (k s r)
theorem Sm.app {xs ys us vs : List Int} (h : Sm xs ys) (k : Sm us vs) : Sm (xs ++ us) (ys ++ vs) := fun s r => by
  rw [act_append, act_append, h s r, k _ (act_rd r)]
theorem Sm.out (a : Int) : Sm [a, -a] [] := fun s r => push_push a r
theorem Sm.out' (a : Int) : Sm [-a, a] [] := fun s r => push_push' a r
theorem Sm.mid {xs us vs ys : List Int} (h : Sm us vs) : Sm (xs ++ us ++ ys) (xs ++ vs ++ ys) := ((Sm.refl xs).app h).app (Sm.refl ys)

/-- what is left acts as the whole did -/
theorem sm_stack : ∀ xs : List Int, Sm (act [] xs).reverse xs := by
  intro xs
  have gen : ∀ (n : Nat) (xs : List Int), xs.length = n → Sm (act [] xs).reverse xs := by
    intro n
    induction n with
    | zero =>
      intro xs h
      cases xs with
      | nil => exact Sm.refl _
      | cons a t => simp at h
    | succ n ih =>
      intro xs h
      obtain ⟨ys, a, rfl⟩ : ∃ ys a, xs = ys ++ [a] := by
        refine ⟨xs.dropLast, xs.getLast (by intro e; rw [e] at h; simp at h), ?_⟩
        exact (List.dropLast_concat_getLast _).symm
      have hy : ys.length = n := by simp at h; exact h
      have k := ih ys hy
      intro s r
      rw [act_snoc, act_snoc]
      cases e : act [] ys with
      | nil =>
        have k2 := k s r
        rw [e] at k2
        rw [← k2]
        rfl
      | cons b t =>
        have k2 := k s r
        rw [e, List.reverse_cons, act_snoc] at k2
        rw [← k2]
        by_cases eb : b = -a
        · have h1 : push (b :: t) a = t := by simp [push, eb]
          rw [h1, eb]
          exact (push_push' a (act_rd r)).symm
        · have h1 : push (b :: t) a = a :: b :: t := by simp [push, eb]
          rw [h1, List.reverse_cons, List.reverse_cons, act_snoc, act_snoc]
  exact gen _ xs rfl

theorem sm_shr (xs : List Int) : Sm (shr xs) xs := sm_stack xs
theorem shr_of_sm {xs ys : List Int} (h : Sm xs ys) : shr xs = shr ys := by
  unfold shr
  rw [h [] trivial]
theorem sm_of_shr {xs ys : List Int} (h : shr xs = shr ys) : Sm xs ys := by
  refine (sm_shr xs).symm.trans ?_
  rw [h]
  exact sm_shr ys
theorem shr_shr (xs : List Int) : shr (shr xs) = shr xs := shr_of_sm (sm_shr xs)
theorem shr_app (xs ys : List Int) : shr (shr xs ++ shr ys) = shr (xs ++ ys) := shr_of_sm ((sm_shr xs).app (sm_shr ys))
theorem shr_out (xs : List Int) (a : Int) (ys : List Int) : shr (xs ++ a :: -a :: ys) = shr (xs ++ ys) := by
  refine shr_of_sm ?_
  have h : Sm (xs ++ [a, -a] ++ ys) (xs ++ [] ++ ys) := Sm.mid (Sm.out a)
  simpa using h

/-! ### short ones -/
theorem rd_cons {a : Int} {t : List Int} : Rd (a :: t) ↔ (∀ b, t.head? = some b → a ≠ -b) ∧ Rd t := by
  cases t with
  | nil => simp [Rd]
  | cons b u => simp [Rd]
theorem rd_append {xs ys : List Int} : Rd (xs ++ ys) ↔ Rd xs ∧ Rd ys ∧ ∀ a b, xs.getLast? = some a → ys.head? = some b → a ≠ -b := by
  induction xs with
  | nil => simp [Rd]
  | cons x t ih =>
    rw [List.cons_append, rd_cons, rd_cons, ih]
    cases t with
    | nil =>
      simp [Rd]
      constructor
      · rintro ⟨h1, h2⟩
        exact ⟨h2, fun a b ha hb => ha ▸ h1 b hb⟩
      · rintro ⟨h1, h2⟩
        exact ⟨fun b hb => h2 x b rfl hb, h1⟩
    | cons y u =>
      simp [List.getLast?_cons_cons]
      constructor
      · rintro ⟨h1, h2, h3, h4⟩
        exact ⟨⟨h1, h2⟩, h3, h4⟩
      · rintro ⟨⟨h1, h2⟩, h3, h4⟩
        exact ⟨h1, h2, h3, h4⟩
theorem rd_reverse {xs : List Int} : Rd xs.reverse ↔ Rd xs := by
  induction xs with
  | nil => simp [Rd]
  | cons x t ih =>
    rw [List.reverse_cons, rd_append, ih, rd_cons (a := x) (t := t)]
    have one : Rd [x] := trivial
    simp [one]
    constructor
    · rintro ⟨h1, h2⟩
      refine ⟨fun b hb => ?_, h1⟩
      have := h2 b hb
      omega
    · rintro ⟨h1, h2⟩
      refine ⟨h2, fun b hb => ?_⟩
      have := h1 b hb
      omega
theorem rd_shr (xs : List Int) : Rd (shr xs) := rd_reverse.2 (act_rd trivial)
theorem act_short : ∀ (xs s : List Int), Rd (s.reverse ++ xs) → act s xs = xs.reverse ++ s
  | [], s, _ => by simp [act]
  | a :: t, s, h => by
    rw [act_cons]
    have hp : push s a = a :: s := by
      cases s with
      | nil => rfl
      | cons b u =>
        have h3 := (rd_append.1 h).2.2 b a (by simp) (by simp)
        show (if b = -a then u else a :: b :: u) = _
        rw [if_neg h3]
    rw [hp, act_short t (a :: s) (by simpa using h)]
    simp
theorem shr_short {xs : List Int} (h : Rd xs) : shr xs = xs := by
  unfold shr
  rw [act_short xs [] (by simpa using h)]
  simp
theorem shr_iff {xs : List Int} : shr xs = xs ↔ Rd xs := ⟨fun h => h ▸ rd_shr xs, shr_short⟩
/-- a short one that acts alike is what is left -/
theorem shr_eq {xs ys : List Int} (h : Sm xs ys) (r : Rd ys) : shr xs = ys := (shr_of_sm h).trans (shr_short r)

/-! ### contraries -/
theorem con_nil : con [] = [] := rfl
theorem con_cons (a : Int) (t : List Int) : con (a :: t) = con t ++ [-a] := by simp [con]
theorem con_append (xs ys : List Int) : con (xs ++ ys) = con ys ++ con xs := by simp [con]
theorem con_con (xs : List Int) : con (con xs) = xs := by
  simp [con, List.map_reverse, Function.comp_def]
theorem con_length (xs : List Int) : (con xs).length = xs.length := by simp [con]
theorem con_head (xs : List Int) : (con xs).head? = xs.getLast?.map fun a => -a := by
  simp [con]
theorem con_last (xs : List Int) : (con xs).getLast? = xs.head?.map fun a => -a := by
  simp [con, List.map_reverse]
theorem sm_con : ∀ xs : List Int, Sm (xs ++ con xs) []
  | [] => Sm.refl _
  | a :: t => by
    rw [con_cons]
    have h : Sm ([a] ++ (t ++ con t) ++ [-a]) ([a] ++ [] ++ [-a]) := Sm.mid (sm_con t)
    have k : Sm ([a] ++ [] ++ [-a]) [] := Sm.out a
    have := h.trans k
    simpa using this
theorem sm_con' (xs : List Int) : Sm (con xs ++ xs) [] := by
  have := sm_con (con xs)
  rwa [con_con] at this
theorem Sm.con {xs ys : List Int} (h : Sm xs ys) : Sm (con xs) (con ys) := by
  have h1 : Sm (Fr.con xs ++ (ys ++ Fr.con ys)) (Fr.con xs ++ []) := (Sm.refl _).app (sm_con ys)
  have h2 : Sm (Fr.con xs ++ ys ++ Fr.con ys) (Fr.con xs ++ xs ++ Fr.con ys) := Sm.mid h.symm
  have h3 : Sm (Fr.con xs ++ xs ++ Fr.con ys) ([] ++ Fr.con ys) := (sm_con' xs).app (Sm.refl _)
  rw [List.append_nil, ← List.append_assoc] at h1
  exact (h1.symm.trans h2).trans h3
theorem rd_con {xs : List Int} : Rd (con xs) ↔ Rd xs := by
  have one : ∀ xs : List Int, Rd xs → Rd (con xs) := by
    intro xs
    induction xs with
    | nil => exact fun _ => trivial
    | cons a t ih =>
      intro h
      rw [con_cons, rd_append]
      refine ⟨ih h.tail, trivial, fun x y hx hy => ?_⟩
      rw [con_last] at hx
      cases t with
      | nil => simp at hx
      | cons b u =>
        simp at hx hy
        have := h.1
        omega
  refine ⟨fun h => ?_, one xs⟩
  have := one _ h
  rwa [con_con] at this
theorem shr_con (xs : List Int) : shr (con xs) = con (shr xs) := shr_eq (sm_shr xs).con.symm (rd_con.2 (rd_shr xs))

/-! ### so many times -/
theorem rep_zero (xs : List Int) : rep 0 xs = [] := rfl
theorem rep_succ (n : Nat) (xs : List Int) : rep (n + 1) xs = xs ++ rep n xs := rfl
theorem rep_one (xs : List Int) : rep 1 xs = xs := by simp [rep]
theorem rep_add (m n : Nat) (xs : List Int) : rep (m + n) xs = rep m xs ++ rep n xs := by
  induction m with
  | zero => simp [rep]
  | succ m ih => rw [Nat.succ_add, rep_succ, rep_succ, ih, List.append_assoc]
theorem rep_length (n : Nat) (xs : List Int) : (rep n xs).length = n * xs.length := by
  induction n with
  | zero => simp [rep]
  | succ n ih => rw [rep_succ, List.length_append, ih, Nat.succ_mul, Nat.add_comm]
theorem rep_nil (n : Nat) : rep n [] = [] := by
  induction n with
  | zero => rfl
  | succ n ih => rw [rep_succ, ih]; rfl
theorem Sm.rep {xs ys : List Int} (h : Sm xs ys) (n : Nat) : Sm (rep n xs) (rep n ys) := by
  induction n with
  | zero => exact Sm.refl _
  | succ n ih => exact h.app ih
theorem shr_rep (n : Nat) (xs : List Int) : shr (rep n (shr xs)) = shr (rep n xs) := shr_of_sm ((sm_shr xs).rep n)
theorem rep_succ' (n : Nat) (xs : List Int) : rep (n + 1) xs = rep n xs ++ xs := by
  rw [rep_add n 1, rep_one]
theorem con_rep (n : Nat) (xs : List Int) : con (rep n xs) = rep n (con xs) := by
  induction n with
  | zero => rfl
  | succ n ih => rw [rep_succ, con_append, ih, ← rep_succ']

/-! ### the ends -/
/-- short, and its ends are no contraries -/
def Cy (w : List Int) : Prop := Rd w ∧ ∀ a b, w.head? = some a → w.getLast? = some b → a ≠ -b
/-- no letter is 0 -/
def NZ (xs : List Int) : Prop := ∀ a ∈ xs, a ≠ 0
theorem cy_nil : Cy [] := ⟨trivial, fun a b h => by simp at h⟩
theorem NZ.app {xs ys : List Int} (h : NZ xs) (k : NZ ys) : NZ (xs ++ ys) := fun a ha => by
  rcases List.mem_append.1 ha with h1 | h1
  · exact h a h1
  · exact k a h1
theorem NZ.left {xs ys : List Int} (h : NZ (xs ++ ys)) : NZ xs := fun a ha => h a (List.mem_append_left _ ha)
theorem NZ.right {xs ys : List Int} (h : NZ (xs ++ ys)) : NZ ys := fun a ha => h a (List.mem_append_right _ ha)
theorem NZ.con {xs : List Int} (h : NZ xs) : NZ (con xs) := fun a ha => by
  unfold Fr.con at ha
  obtain ⟨b, hb, rfl⟩ := List.mem_map.1 ha
  have := h b (List.mem_reverse.1 hb)
  omega
theorem push_mem {s : List Int} {a x : Int} (h : x ∈ push s a) : x = a ∨ x ∈ s := by
  cases s with
  | nil => left; simpa [push] using h
  | cons b t =>
    have h2 : x ∈ (if b = -a then t else a :: b :: t) := h
    by_cases e : b = -a
    · rw [if_pos e] at h2; exact .inr (List.mem_cons_of_mem _ h2)
    · rw [if_neg e] at h2
      rcases List.mem_cons.1 h2 with h3 | h3
      · exact .inl h3
      · exact .inr h3
theorem act_mem : ∀ {xs s : List Int} {x : Int}, x ∈ act s xs → x ∈ xs ∨ x ∈ s
  | [], _, _, h => .inr h
  | a :: t, s, x, h => by
    rw [act_cons] at h
    rcases act_mem h with h1 | h1
    · exact .inl (List.mem_cons_of_mem _ h1)
    · rcases push_mem h1 with h2 | h2
      · exact .inl (h2 ▸ List.mem_cons_self)
      · exact .inr h2
theorem shr_mem {xs : List Int} {x : Int} (h : x ∈ shr xs) : x ∈ xs := by
  unfold shr at h
  rcases act_mem (List.mem_reverse.1 h) with h1 | h1
  · exact h1
  · simp at h1
theorem NZ.shr {xs : List Int} (h : NZ xs) : NZ (shr xs) := fun a ha => h a (shr_mem ha)

/-- a row between a letter and its contrary, or one that has no such ends -/
theorem ends_or (xs : List Int) (nz : NZ xs) : (∃ a m, xs = a :: (m ++ [-a])) ∨ ∀ a b, xs.head? = some a → xs.getLast? = some b → a ≠ -b := by
  cases xs with
  | nil => right; intro a b h; simp at h
  | cons a t =>
    by_cases ht : t = []
    · subst ht
      right
      intro x y hx hy
      simp at hx hy
      have := nz a (by simp)
      omega
    · have e := List.dropLast_concat_getLast ht
      by_cases hb : t.getLast ht = -a
      · left
        refine ⟨a, t.dropLast, ?_⟩
        rw [← hb, e]
      · right
        intro x y hx hy
        rw [← e] at hy
        rw [show a :: (t.dropLast ++ [t.getLast ht]) = (a :: t.dropLast) ++ [t.getLast ht] from rfl] at hy
        rw [List.getLast?_append] at hy
        simp at hx hy
        omega
/-- every short row is a row, one that is short round, and the contrary of the first -/
theorem parted (xs : List Int) (nz : NZ xs) (r : Rd xs) : ∃ u w, xs = u ++ w ++ con u ∧ Cy w ∧ (w = [] → u = []) := by
  have gen : ∀ (n : Nat) (xs : List Int), xs.length ≤ n → NZ xs → Rd xs → ∃ u w, xs = u ++ w ++ con u ∧ Cy w ∧ (w = [] → u = []) := by
    intro n
    induction n with
    | zero =>
      intro xs h _ _
      have : xs = [] := List.length_eq_zero_iff.1 (by omega)
      subst this
      exact ⟨[], [], rfl, cy_nil, fun _ => rfl⟩
    | succ n ih =>
      intro xs h nz r
      rcases ends_or xs nz with ⟨a, m, rfl⟩ | k
      · have hr : Rd (m ++ [-a]) := r.tail
        have hm : Rd m := (rd_append.1 hr).1
        obtain ⟨u, w, e, c, z⟩ := ih m (by simp at h; omega) (fun x hx => nz x (by simp [hx])) hm
        have hne : m ≠ [] := by
          intro e0
          subst e0
          have := r.1
          simp at this
        refine ⟨a :: u, w, ?_, c, fun hw => ?_⟩
        · rw [con_cons, e]; simp
        · exfalso
          have hu := z hw
          subst hw hu
          exact hne (by simpa [con] using e)
      · exact ⟨[], xs, by simp [con], ⟨r, k⟩, fun _ => rfl⟩
  exact gen xs.length xs (Nat.le_refl _) nz r

/-- the ends off, as long as they are contraries -/
def endsN : Nat → List Int → List Int
  | 0, xs => xs
  | n + 1, xs => if 1 < xs.length ∧ xs.head? = xs.getLast?.map (fun a => -a) then endsN n xs.tail.dropLast else xs
def ends (xs : List Int) : List Int := endsN xs.length xs
theorem endsN_cy : ∀ (n : Nat) {w : List Int}, Cy w → endsN n w = w
  | 0, _, _ => rfl
  | n + 1, w, h => by
    unfold endsN
    rw [if_neg]
    rintro ⟨h1, h2⟩
    cases e : w.getLast? with
    | none =>
      rw [List.getLast?_eq_none_iff] at e
      subst e
      simp at h1
    | some b =>
      rw [e] at h2
      exact h.2 (-b) b h2 e rfl
theorem endsN_eq : ∀ (n : Nat) (u w : List Int), Cy w → u.length ≤ n → (w = [] → u = []) → endsN n (u ++ w ++ con u) = w
  | n, [], w, c, _, _ => by
    simp [con]
    exact endsN_cy n c
  | 0, a :: u, w, c, h, _ => by simp at h
  | n + 1, a :: u, w, c, h, z => by
    have e : (a :: u) ++ w ++ con (a :: u) = a :: ((u ++ w ++ con u) ++ [-a]) := by
      rw [con_cons]; simp
    rw [e]
    unfold endsN
    rw [if_pos]
    · rw [List.tail_cons, List.dropLast_concat]
      refine endsN_eq n u w c (by simp at h; exact h) fun hw => ?_
      have := z hw
      simp at this
    · constructor
      · simp only [List.length_cons, List.length_append, List.length_nil]; omega
      · rw [show a :: ((u ++ w ++ con u) ++ [-a]) = (a :: (u ++ w ++ con u)) ++ [-a] from rfl, List.getLast?_append]
        simp
theorem ends_eq {u w : List Int} (c : Cy w) (z : w = [] → u = []) : ends (u ++ w ++ con u) = w :=
  endsN_eq _ u w c (by simp) z
theorem ends_cy {w : List Int} (c : Cy w) : ends w = w := endsN_cy _ c
/-- what is left of a ring -/
def rnd (xs : List Int) : List Int := ends (shr xs)
theorem rnd_of {xs u w : List Int} (h : Sm xs (u ++ w ++ con u)) (r : Rd (u ++ w ++ con u)) (c : Cy w) (z : w = [] → u = []) : rnd xs = w := by
  unfold rnd
  rw [shr_eq h r]
  exact ends_eq c z
theorem rnd_cy {xs : List Int} (nz : NZ xs) : Cy (rnd xs) := by
  obtain ⟨u, w, e, c, z⟩ := parted (shr xs) nz.shr (rd_shr xs)
  unfold rnd
  rw [e, ends_eq c z]
  exact c
theorem rnd_sm {xs ys : List Int} (h : Sm xs ys) : rnd xs = rnd ys := by
  unfold rnd
  rw [shr_of_sm h]
theorem rnd_iff {xs : List Int} (nz : NZ xs) : rnd xs = xs ↔ Cy xs := by
  constructor
  · intro h
    rw [← h]
    exact rnd_cy nz
  · intro c
    unfold rnd
    rw [shr_short c.1, ends_cy c]

/-! ### turned -/
def Trn (xs ys : List Int) : Prop := ∃ p q, xs = p ++ q ∧ ys = q ++ p
theorem Trn.refl (xs : List Int) : Trn xs xs := ⟨[], xs, rfl, by simp⟩
theorem Trn.symm {xs ys : List Int} (h : Trn xs ys) : Trn ys xs := by
  obtain ⟨p, q, e1, e2⟩ := h
  exact ⟨q, p, e2, e1⟩
theorem Trn.trans {xs ys zs : List Int} (h : Trn xs ys) (k : Trn ys zs) : Trn xs zs := by
  obtain ⟨p, q, rfl, e⟩ := h
  obtain ⟨p2, q2, e2, rfl⟩ := k
  rw [e] at e2
  rcases List.append_eq_append_iff.1 e2 with ⟨c, h1, h2⟩ | ⟨c, h1, h2⟩
  · subst h1 h2
    exact ⟨c, q2 ++ q, by simp, by simp⟩
  · subst h1 h2
    exact ⟨p ++ p2, c, by simp, by simp⟩
theorem Trn.cy {xs ys : List Int} (h : Trn xs ys) (c : Cy xs) : Cy ys := by
  obtain ⟨p, q, rfl, rfl⟩ := h
  by_cases hp : p = []
  · subst hp; simpa using c
  by_cases hq : q = []
  · subst hq; simpa using c
  obtain ⟨r, l⟩ := c
  obtain ⟨r1, r2, r3⟩ := rd_append.1 r
  obtain ⟨a, t, rfl⟩ := List.exists_cons_of_ne_nil hp
  obtain ⟨b, s, rfl⟩ := List.exists_cons_of_ne_nil hq
  refine ⟨rd_append.2 ⟨r2, r1, fun x y hx hy => ?_⟩, fun x y hx hy => ?_⟩
  · have := l y x (by simpa using hy) (by rw [List.getLast?_append, hx]; rfl)
    omega
  · have := r3 y x (by rw [List.getLast?_append] at hy; rw [List.getLast?_eq_some_getLast (by simp)] at hy ⊢; simpa using hy) (by simpa using hx)
    omega
/-- a letter ahead and its contrary behind -/
theorem rnd_moved1 (a : Int) (ha : a ≠ 0) (xs : List Int) (nz : NZ xs) : Trn (rnd xs) (rnd ([a] ++ xs ++ [-a])) := by
  obtain ⟨u, w, e, c, z⟩ := parted (shr xs) nz.shr (rd_shr xs)
  have hr : rnd xs = w := by
    unfold rnd
    rw [e, ends_eq c z]
  have rs := rd_shr xs
  rw [e] at rs
  have base : Sm ([a] ++ xs ++ [-a]) ([a] ++ (u ++ w ++ con u) ++ [-a]) := by
    rw [← e]
    exact Sm.mid (sm_shr xs).symm
  rw [hr]
  cases u with
  | cons b u =>
    have wne : w ≠ [] := fun h => by simp at z; exact z h
    have e2 : (b :: u) ++ w ++ con (b :: u) = b :: ((u ++ w ++ con u) ++ [-b]) := by rw [con_cons]; simp
    rw [e2] at rs base
    by_cases hb : b = -a
    · have inner : Rd (u ++ w ++ con u) := (rd_append.1 rs.tail).1
      have sm : Sm ([a] ++ (b :: ((u ++ w ++ con u) ++ [-b])) ++ [-a]) (u ++ w ++ con u) := by
        subst hb
        have h1 : Sm ([a, -a] ++ (u ++ w ++ con u) ++ [a, -a]) ([] ++ (u ++ w ++ con u) ++ []) := ((Sm.out a).app (Sm.refl _)).app (Sm.out a)
        simpa using h1
      rw [rnd_of (base.trans sm) inner c fun h => absurd h wne]
      exact Trn.refl _
    · have whole : Rd ((a :: b :: u) ++ w ++ con (a :: b :: u)) := by
        have e3 : (a :: b :: u) ++ w ++ con (a :: b :: u) = [a] ++ (b :: ((u ++ w ++ con u) ++ [-b])) ++ [-a] := by
          rw [con_cons, con_cons]; simp
        rw [e3, rd_append, rd_append]
        refine ⟨⟨trivial, rs, fun x y hx hy => ?_⟩, trivial, fun x y hx hy => ?_⟩
        · simp at hx hy; omega
        · rw [show [a] ++ (b :: ((u ++ w ++ con u) ++ [-b])) = (a :: b :: (u ++ w ++ con u)) ++ [-b] by simp] at hx
          rw [List.getLast?_append] at hx
          simp at hx hy
          omega
      have sm : Sm ([a] ++ (b :: ((u ++ w ++ con u) ++ [-b])) ++ [-a]) ((a :: b :: u) ++ w ++ con (a :: b :: u)) := by
        have e3 : (a :: b :: u) ++ w ++ con (a :: b :: u) = [a] ++ (b :: ((u ++ w ++ con u) ++ [-b])) ++ [-a] := by
          rw [con_cons, con_cons]; simp
        rw [e3]
        exact Sm.refl _
      rw [rnd_of (base.trans sm) whole c fun h => absurd h wne]
      exact Trn.refl _
  | nil =>
    have e2 : ([] : List Int) ++ w ++ con [] = w := by simp [con]
    rw [e2] at rs base
    cases w with
    | nil =>
      have sm : Sm ([a] ++ [] ++ [-a]) ([] ++ [] ++ con []) := Sm.out a
      rw [rnd_of (base.trans sm) trivial cy_nil fun _ => rfl]
      exact Trn.refl _
    | cons b t =>
      by_cases hb : b = -a
      · -- the letter takes the first one out, and its contrary stands behind
        have turn : Trn (b :: t) (t ++ [b]) := ⟨[b], t, rfl, rfl⟩
        have sm : Sm ([a] ++ (b :: t) ++ [-a]) ([] ++ (t ++ [b]) ++ con []) := by
          subst hb
          have h1 : Sm ([a, -a] ++ (t ++ [-a])) ([] ++ (t ++ [-a])) := (Sm.out a).app (Sm.refl _)
          simpa [con] using h1
        have cy := turn.cy c
        rw [rnd_of (base.trans sm) (by simpa [con] using cy.1) cy fun _ => rfl]
        exact turn
      · by_cases hl : (b :: t).getLast? = some a
        · obtain ⟨m, em⟩ : ∃ m, b :: t = m ++ [a] := by
            refine ⟨(b :: t).dropLast, ?_⟩
            have h1 := List.dropLast_concat_getLast (l := b :: t) (by simp)
            rw [List.getLast?_eq_some_getLast (by simp)] at hl
            rw [Option.some.inj hl] at h1
            exact h1.symm
          rw [em] at c base ⊢
          have turn : Trn (m ++ [a]) (a :: m) := ⟨m, [a], rfl, rfl⟩
          have sm : Sm ([a] ++ (m ++ [a]) ++ [-a]) ([] ++ (a :: m) ++ con []) := by
            have h1 : Sm ((a :: m) ++ [a, -a]) ((a :: m) ++ []) := (Sm.refl _).app (Sm.out a)
            simpa [con] using h1
          have cy := turn.cy c
          rw [rnd_of (base.trans sm) (by simpa [con] using cy.1) cy fun _ => rfl]
          exact turn
        · have whole : Rd ([a] ++ (b :: t) ++ con [a]) := by
            rw [rd_append, rd_append]
            refine ⟨⟨trivial, rs, fun x y hx hy => ?_⟩, trivial, fun x y hx hy => ?_⟩
            · simp at hx hy; omega
            · rw [List.getLast?_append] at hx
              rw [List.getLast?_eq_some_getLast (by simp)] at hx hl
              simp [con] at hx hy hl
              omega
          rw [rnd_of (base.trans (by simpa [con] using Sm.refl _)) whole c fun h => by simp at h]
          exact Trn.refl _
/-- moved: a word ahead, its contrary behind -/
theorem rnd_moved : ∀ (ys xs : List Int), NZ ys → NZ xs → Trn (rnd xs) (rnd (ys ++ xs ++ con ys))
  | [], xs, _, _ => by simpa [con] using Trn.refl _
  | a :: t, xs, hy, hx => by
    have ht : NZ t := fun x h => hy x (List.mem_cons_of_mem _ h)
    have h1 := rnd_moved t xs ht hx
    have h2 := rnd_moved1 a (hy a List.mem_cons_self) (t ++ xs ++ con t) ((ht.app hx).app ht.con)
    have e : [a] ++ (t ++ xs ++ con t) ++ [-a] = (a :: t) ++ xs ++ con (a :: t) := by rw [con_cons]; simp
    rw [e] at h2
    exact h1.trans h2
/-- turned first, shortened round then -/
theorem rnd_turned {xs ys : List Int} (nz : NZ xs) (h : Trn xs ys) : Trn (rnd xs) (rnd ys) := by
  obtain ⟨p, q, rfl, rfl⟩ := h
  have h1 := rnd_moved (con p) (p ++ q) nz.left.con nz
  have sm : Sm (con p ++ (p ++ q) ++ con (con p)) (q ++ p) := by
    rw [con_con]
    have h2 : Sm ((con p ++ p) ++ (q ++ p)) ([] ++ (q ++ p)) := (sm_con' p).app (Sm.refl _)
    simpa using h2
  rw [rnd_sm sm] at h1
  exact h1

/-! ### so many times one that is short round -/
theorem rep_head {n : Nat} {w : List Int} : (rep (n + 1) w).head? = w.head? := by
  cases w with
  | nil => rw [rep_nil]
  | cons a t => rw [rep_succ]; rfl
theorem rep_last {n : Nat} {w : List Int} : (rep (n + 1) w).getLast? = w.getLast? := by
  by_cases hw : w = []
  · subst hw; rw [rep_nil]
  · rw [rep_succ', List.getLast?_append, List.getLast?_eq_some_getLast hw]; rfl
theorem cy_rep {w : List Int} (c : Cy w) : ∀ n, Cy (rep n w)
  | 0 => cy_nil
  | n + 1 => by
    have ih := cy_rep c n
    refine ⟨?_, fun a b ha hb => ?_⟩
    · rw [rep_succ, rd_append]
      refine ⟨c.1, ih.1, fun a b ha hb => ?_⟩
      cases n with
      | zero => simp [rep] at hb
      | succ n =>
        rw [rep_head] at hb
        have := c.2 b a hb ha
        omega
    · rw [rep_head] at ha
      rw [rep_last] at hb
      exact c.2 a b ha hb
/-- so many times a row: its ends stay, what is between them comes so many times -/
theorem shr_core {xs u w : List Int} (e : shr xs = u ++ w ++ con u) (c : Cy w) (z : w = [] → u = []) (n : Nat) : shr (rep (n + 1) xs) = u ++ rep (n + 1) w ++ con u := by
  have sm : ∀ n, Sm (rep (n + 1) (u ++ w ++ con u)) (u ++ rep (n + 1) w ++ con u) := by
    intro n
    induction n with
    | zero => rw [rep_one, rep_one]; exact Sm.refl _
    | succ n ih =>
      rw [rep_succ]
      refine ((Sm.refl _).app ih).trans ?_
      have h : Sm ((u ++ w) ++ (con u ++ u) ++ (rep (n + 1) w ++ con u)) ((u ++ w) ++ [] ++ (rep (n + 1) w ++ con u)) := Sm.mid (sm_con' u)
      have e2 : rep (n + 1 + 1) w = w ++ rep (n + 1) w := rfl
      rw [e2]
      simpa using h
  refine shr_eq ?_ ?_
  · have h1 : Sm (rep (n + 1) xs) (rep (n + 1) (shr xs)) := ((sm_shr xs).rep _).symm
    rw [e] at h1
    exact h1.trans (sm n)
  · have r := rd_shr xs
    rw [e] at r
    by_cases hw : w = []
    · have hu := z hw
      subst hw hu
      rw [rep_nil]
      trivial
    · obtain ⟨r12, r3, b23⟩ := rd_append.1 r
      obtain ⟨r1, r2, b12⟩ := rd_append.1 r12
      rw [rd_append, rd_append]
      refine ⟨⟨r1, (cy_rep c _).1, fun a b ha hb => ?_⟩, r3, fun a b ha hb => ?_⟩
      · rw [rep_head] at hb
        exact b12 a b ha hb
      · refine b23 a b ?_ hb
        have hne : rep (n + 1) w ≠ [] := by
          intro h
          have h2 := rep_length (n + 1) w
          rw [h, Nat.succ_mul] at h2
          simp at h2
          exact hw (List.length_eq_zero_iff.1 (by omega))
        rw [List.getLast?_append, List.getLast?_eq_some_getLast hne] at ha
        rw [List.getLast?_append, ← rep_last (n := n), List.getLast?_eq_some_getLast hne]
        exact ha
end Fr
set_option Elab.async false
set_option linter.all false
set_option maxRecDepth 100000
set_option maxHeartbeats 2000000
/-! {e for x in xs}, e an int. -/
namespace WS
open PySem PySem.Spec PyProof.Rows L2 PpSet
/-- a set as it is when it is made -/
abbrev bareSet (w : World) : Obj := { cls := .type "set", dict := none, data := .set #[] 0 (.fresh 0 0 (!w.params.followText "set-order")) }
theorem bare_ok (w : World) (h : Heap) : SetR w (h.push (bareSet w)) h.objs.size (fun _ => false) 0 := by
  have led : w.params.followText "set-order" = true ∨ (!w.params.followText "set-order") = true := by
    cases w.params.followText "set-order"
    · right; rfl
    · left; rfl
  refine ⟨bareSet w, #[], 0, _, Heap.get?_push_size _ rfl, ⟨rfl, rfl, rfl⟩, rfl, ?_, ?_, ?_, by decide, rfl, rfl, List.Pairwise.nil, led⟩
  · intro e he; simp at he
  · simp
  · intro k; simp
/-- the new set at D, filled turn by turn -/
def Fills (w : World) (J : It) (g : TG) (tt : TT) (te : TE) (vs : List Nat) (σ : L2.St) (D : Addr) (Q : VK) (W : Nat → Nat → Hp → Prop) : Prop :=
  ∀ i m H, W i m H → (J.stop i H ∧ Q (.ref D) H) ∨ (J.go i H ∧ ∃ N : Hp → Prop, (∀ H', N H' → ∃ m', m' < m ∧ W (i + 1) m' H') ∧
    ∀ x H', J.yld i H x H' → g x (wipe σ vs) H' fun σ2 H2 => wipe σ2 vs = wipe σ vs ∧ tt σ2 H2 fun b H3 => if b = true then te σ2 H3 fun y H4 => rSAdd w (.ref D) [y] H4 fun _ H5 => N H5 else N H3)
def tSetI (w : World) (wi : TI) (g : TG) (tt : TT) (te : TE) (vs : List Nat) : TE := fun σ H Q => wi σ H fun J H1 => ∀ D, H1 D = none →
  ∃ W : Nat → Nat → Hp → Prop, (∃ m, W 0 m (upd H1 D (SetO w D (fun _ => false) 0))) ∧ Fills w J g tt te vs σ D Q W
section
variable {X : Cx}
/-- what a turn leaves known -/
def Known (X : Cx) (Z : Cx) (σw : L2.St) (fp : List Addr) (tn : Nat → Heap → Prop) (W : Nat → Nat → Hp → Prop) (m : Nat) (s : Shared) : Prop :=
  ∃ (i : Nat) (H : Hp), Inv Z [] σw H s ∧ tn i s.heap ∧ (∀ b ∈ fp, H b = none) ∧ W i m H
theorem fill_set {elt tg iter : Expr} {ifs : List Expr} {scope : Scope} {own : List (PySem.Str × Nat)} {pos : Pos} {g : TG} {tt : TT} {te : TE} {pins : List (Addr × Obj)} {σ : L2.St} {H3 : Hp} {s3 : Shared} {it D : Addr} {fp : List Addr} {tn : Nat → Heap → Prop} {J : It} {m0 : Nat} {W : Nat → Nat → Hp → Prop} {Q : VK}
    (calm : X.calm = true) (nod : X.N.Nodup) (blk : BlkOk X.N X.env.scope scope own)
    (target : ∀ (s : Shared) (H : Hp) (C : Addr) (cl : List (PySem.Str × Addr)) (fp : List Addr), PG (X.blk s H scope (compEnvC scope cl C X.env) fp) tg g)
    (tests : ∀ (s : Shared) (H : Hp) (C : Addr) (cl : List (PySem.Str × Addr)) (fp : List Addr), PTs (X.blk s H scope (compEnvC scope cl C X.env) fp) ifs tt)
    (item : ∀ (s : Shared) (H : Hp) (C : Addr) (cl : List (PySem.Str × Addr)) (fp : List Addr), PE (X.blk s H scope (compEnvC scope cl C X.env) fp) elt te)
    (T : Turn X.prog X.w X.K tg J fp it tn) (I3 : Inv X pins σ H3 s3) (off : ∀ b ∈ fp, FpOk X pins H3 b ∧ b < s3.heap.objs.size) (st3 : tn 0 s3.heap) (w0 : W 0 m0 H3) (turn : Fills X.w J g tt te (own.map (·.2)) σ D Q W) :
    codeAny (model X.prog X.w) X.A (.compStart (.SetComp elt [⟨tg, iter, ifs, 0⟩] scope pos) 0 (.ref it) (.ref D) (compEnvC scope (cellsFrom (s3.heap.objs.size + 1) scope.names (cloFrom X.env.cells scope.names [])) s3.heap.objs.size X.env))
      (compPost (model X.prog X.w) X.A X.xe none (EP X pins σ Q) (.ref D) s3.heap.objs.size) { s3 with heap := pushCells (s3.heap.push { cls := .type "dict", data := .dict #[] }) scope.names } := by
  have I4 := block_start I3 blk nod off
  have pg := target s3 H3 s3.heap.objs.size (cellsFrom (s3.heap.objs.size + 1) scope.names (cloFrom X.env.cells scope.names [])) fp
  have pt := tests s3 H3 s3.heap.objs.size (cellsFrom (s3.heap.objs.size + 1) scope.names (cloFrom X.env.cells scope.names [])) fp
  have pe := item s3 H3 s3.heap.objs.size (cellsFrom (s3.heap.objs.size + 1) scope.names (cloFrom X.env.cells scope.names [])) fp
  have st4 : tn 0 (pushCells (s3.heap.push { cls := .type "dict", data := .dict #[] }) scope.names) := T.keep _ _ _ st3 fun _ _ _ e => pushCells_keeps _ _ _ _ (Heap.get?_push_of_some _ e)
  obtain ⟨ce, ece⟩ : ∃ ce : Env, ce = compEnvC scope (cellsFrom (s3.heap.objs.size + 1) scope.names (cloFrom X.env.cells scope.names [])) s3.heap.objs.size X.env := ⟨_, rfl⟩
  have loc : ce.locals = s3.heap.objs.size := by rw [ece]; rfl
  rw [← ece] at I4 pg pt pe ⊢
  -- the places that the walk keeps
  have held : ∀ {σ' : L2.St} {H' : Hp} {s' : Shared}, Inv (X.blk s3 H3 scope ce fp) [] σ' H' s' → (∀ b ∈ fp, H' b = none) → ∀ b ∈ fp, FpOk (X.blk s3 H3 scope ce fp) [] H' b := by
    intro σ' H' s' I' none' b hb
    refine ⟨none' b hb, (I'.ok.exf b hb).1, I'.ok.exfs b hb, .inl hb, (I'.ok.exf b hb).2, fun p hp => ?_⟩
    simp at hp
  have all : codeAny (model X.prog X.w) X.A (.compLoop (.SetComp elt [⟨tg, iter, ifs, 0⟩] scope pos) 0 (.ref it) (.ref D) ce) (compPost (model X.prog X.w) X.A X.xe none (EP X pins σ Q) (.ref D) s3.heap.objs.size) { s3 with heap := pushCells (s3.heap.push { cls := .type "dict", data := .dict #[] }) scope.names } := by
    refine compLoopS_any (Known X (X.blk s3 H3 scope ce fp) (wipe σ (own.map (·.2))) fp tn W) (fun m s5 known => ?_) m0 ⟨0, H3, I4, st4, fun b hb => (off b hb).1.1, w0⟩
    obtain ⟨i, H5, I5, st5, none5, w5⟩ := known
    cases turn i m H5 w5 with
    | inl ended =>
      refine thnF (T.done (X.blk s3 H3 scope ce fp) rfl rfl rfl calm i [] s5 _ H5 (fun _ _ => False) I5 (held I5 none5) st5 ended.1) fun r s6 hr => ?_
      obtain ⟨rfl, I6⟩ := hr
      have back : Inv X pins σ H5 s6 := I3.call' (ch := fp) I6.os I6.base I6.hok I6.bare fun b hb => by
        obtain ⟨⟨_, f1, f2, f3, f4, f5⟩, _⟩ := off b hb
        exact ⟨f3, f1, f4, f5⟩
      have noL : H5 s3.heap.objs.size = none := by rw [← loc]; exact I6.free
      obtain ⟨mm, names, _⟩ := I6.loc
      have names' : s6.heap.Ns s3.heap.objs.size mm := by rw [← loc]; exact names
      obtain ⟨f0, f1, f2, f3, f4, f5⟩ := I3.fpOk (Nat.le_refl _) noL
      exact ⟨mm, names', fun h' same => ⟨.ref D, H5, back.turned (t' := s6.toks) (fun b o hb e => (same.2 b hb).trans e) f0 f1 f3 f4 f5, rfl, ended.2⟩⟩
    | inr goes =>
      obtain ⟨go, N, hN, step⟩ := goes
      refine thnF (T.item (X.blk s3 H3 scope ce fp) rfl rfl rfl calm i [] s5 _ H5 (fun _ _ => False) I5 (held I5 none5) st5 go) fun r s6 hr => ?_
      obtain ⟨u, rfl, h6⟩ := hr
      refine thnF h6 fun _ s7 h7 => ?_
      obtain ⟨x, H7, I7, r7, y7, st7, none7⟩ := h7
      refine thnF (pg.run _ s7 _ H7 x u _ (I7.pinned (held I7 none7) (T.obj _ _ st7)) r7 (step x H7 y7)) fun _ s8 h8 => ?_
      obtain ⟨σ8, H8, I8, wiped, q8⟩ := h8
      refine thnF (pt.run _ s8 σ8 H8 _ I8 q8) fun b s9 h9 => ?_
      obtain ⟨H9, I9, q9⟩ := h9
      have next : ∀ {s' : Shared} {H' : Hp}, Inv (X.blk s3 H3 scope ce fp) ([] ++ pinsAt fp s7.heap) σ8 H' s' → N H' → ∃ m', m' < m ∧ Known X (X.blk s3 H3 scope ce fp) (wipe σ (own.map (·.2))) fp tn W m' s' := by
        intro s' H' I' nx
        obtain ⟨m', lt, w'⟩ := hN H' nx
        have kept : ∀ b ∈ fp, ∀ o, s7.heap.get? b = some o → s'.heap.get? b = some o ∧ H' b = none := by
          intro b hb o e
          obtain ⟨z1, z2, _⟩ := I'.pin (b, o) (List.mem_append_right _ (List.mem_append_right _ (mem_pinsAt hb e)))
          exact ⟨z1, z2⟩
        have len : (wipe σ (own.map (·.2))).length = σ8.length := by rw [← wiped, wipe_length]
        refine ⟨m', lt, i + 1, H', (I'.unpinned (pins := [])).weak len (fun j v e => ?_), T.keep _ _ _ st7 fun b hb o e => (kept b hb o e).1, fun b hb => ?_, w'⟩
        · rw [← wiped] at e
          exact (wipe_some e).1
        · obtain ⟨o, e, _⟩ := T.obj _ _ st7 b hb
          exact (kept b hb o e).2
      cases b with
      | false =>
        rw [if_neg Bool.false_ne_true] at q9 ⊢
        exact next I9 q9
      | true =>
        rw [if_pos rfl] at q9 ⊢
        refine thnF (pe.run _ s9 σ8 H9 _ I9 q9) fun z s10 h10 => ?_
        obtain ⟨yv, H10, I10, r10, adds⟩ := h10
        refine thnF (mt_sadd (X := X.blk s3 H3 scope ce fp) _ s10 σ8 H10 (.ref D) [yv] (.ref D) [z] _ I10 rfl (.cons r10 .nil) adds) fun _ s11 h11 => ?_
        obtain ⟨_, H11, I11, _, nx⟩ := h11
        exact next I11 nx
  exact codeAny_compStart_set all (T.self X.A 0 _ _ _ st4 all)
theorem pe_setI {elt tg iter : Expr} {ifs : List Expr} {scope : Scope} {own : List (PySem.Str × Nat)} {pos : Pos} {wi : TI} {g : TG} {tt : TT} {te : TE} (calm : X.calm = true) (nod : X.N.Nodup) (walked : PI X tg iter wi) (blk : BlkOk X.N X.env.scope scope own)
    (target : ∀ (s : Shared) (H : Hp) (C : Addr) (cl : List (PySem.Str × Addr)) (fp : List Addr), PG (X.blk s H scope (compEnvC scope cl C X.env) fp) tg g)
    (tests : ∀ (s : Shared) (H : Hp) (C : Addr) (cl : List (PySem.Str × Addr)) (fp : List Addr), PTs (X.blk s H scope (compEnvC scope cl C X.env) fp) ifs tt)
    (item : ∀ (s : Shared) (H : Hp) (C : Addr) (cl : List (PySem.Str × Addr)) (fp : List Addr), PE (X.blk s H scope (compEnvC scope cl C X.env) fp) elt te) (plain : ∀ x, foldedSetIterable iter X.env x = pure x := by intro _; rfl) :
    PE X (.SetComp elt [⟨tg, iter, ifs, 0⟩] scope pos) (tSetI X.w wi g tt te (own.map (·.2))) := by
  refine ⟨fun pins s σ H Q I asked => ?_⟩
  rw [eval_SetComp]
  have caught : ∀ y ∈ scope.names, y.2 = .free → ∃ c, X.env.cells.lookup y.1 = some c := by
    intro y hy e
    cases blk.free y hy e with
    | inl k => exact I.ok.has _ (.inl k)
    | inr k => exact I.ok.has _ (.inr k)
  refine wpAny_comprehension_free (use := none) rfl plain (closure_ok caught) blk.kind (fun y hy e => by rw [blk.uniq y hy, e]) ?_
  refine thn (walked.run pins s σ H _ I asked) fun _ _ h1 => thn h1 fun _ s2 h2 => ?_
  obtain ⟨it, fp, tn, J, H2, rfl, I2, T, st2, off2, fill⟩ := h2
  refine newSet_ok (newEnv_comp ?_)
  have free0 : H2 s2.heap.objs.size = none := I2.hok.fresh (Nat.le_refl _)
  obtain ⟨W, ⟨m0, w0⟩, turn⟩ := fill s2.heap.objs.size free0
  have I3 : Inv X pins σ (upd H2 s2.heap.objs.size (SetO X.w s2.heap.objs.size (fun _ => false) 0)) { s2 with heap := s2.heap.push (bareSet X.w) } :=
    I2.laid (t' := s2.toks) (fun _ _ e => Heap.get?_push_of_some _ e) (Nat.le_refl _) (setO_new (bare_ok X.w s2.heap))
  have below : ∀ b ∈ fp, b < s2.heap.objs.size := by
    intro b hb
    obtain ⟨o, e, _⟩ := T.obj _ _ st2 b hb
    exact Heap.lt_size e
  have off3 : ∀ b ∈ fp, FpOk X pins (upd H2 s2.heap.objs.size (SetO X.w s2.heap.objs.size (fun _ => false) 0)) b ∧ b < (s2.heap.push (bareSet X.w)).objs.size := by
    intro b hb
    refine ⟨⟨?_, (off2 b hb).2⟩, by rw [Heap.size_push]; exact Nat.lt_succ_of_lt (below b hb)⟩
    rw [upd_ne (Nat.ne_of_lt (below b hb))]
    exact (off2 b hb).1
  exact fill_set calm nod blk target tests item T I3 off3 (T.keep _ _ _ st2 fun _ _ _ e => Heap.get?_push_of_some _ e) w0 turn
end
end WS
set_option Elab.async false
set_option linter.all false
set_option maxRecDepth 100000
set_option maxHeartbeats 2000000
/-! t[::-1]; tuple * int for 0 and 1. -/
namespace WR
open PySem PySem.Spec PyProof.Rows L2
section
variable {prog : Program} {w : World} {A : Around} {E : Value → Shared → Prop} {s : Shared}
theorem adjust_back (n : Nat) : Builtin.Slice.sliceAdjust none none (-1) (n : Int) = ((n : Int) - 1, -1) := by
  unfold Builtin.Slice.sliceAdjust
  simp
theorem places_back (n : Nat) : Builtin.Slice.slicePlaces ((n : Int) - 1) (-1) (-1) = n := by
  unfold Builtin.Slice.slicePlaces
  have h1 : ¬ ((-1 : Int) > 0) := by omega
  simp only [h1, if_false]
  rw [show (- -1 : Int) = 1 by decide, Int.ediv_one]
  split <;> omega
theorem fm_congr {α β : Type} {f g : α → Option β} : ∀ {l : List α}, (∀ m ∈ l, f m = g m) → l.filterMap f = l.filterMap g
  | [], _ => rfl
  | a :: t, h => by
    rw [List.filterMap_cons, List.filterMap_cons, h a List.mem_cons_self, fm_congr fun m hm => h m (List.mem_cons_of_mem _ hm)]
theorem pick_back (xs : Array Value) : ((List.range xs.size).filterMap fun (m : Nat) => xs[((xs.size : Int) - 1 + (m : Int) * (-1)).toNat]?).toArray = xs.toList.reverse.toArray := by
  have e : (List.range xs.size).filterMap (fun (m : Nat) => xs[((xs.size : Int) - 1 + (m : Int) * (-1)).toNat]?) = ((List.range xs.size).map fun k => xs.size - 1 - k).filterMap (xs[·]?) := by
    rw [List.filterMap_map]
    refine fm_congr fun m hm => ?_
    have hm2 := List.mem_range.mp hm
    have : ((xs.size : Int) - 1 + (m : Int) * (-1)).toNat = xs.size - 1 - m := by omega
    rw [this]
    rfl
  rw [e, PySem.W.krv_range, List.filterMap_reverse, PySem.W.krv_all]
theorem sliceApplied_back {sl : Addr} {vl vu vs : Value} {n : Nat} {Q : Int × Int × Nat → Shared → Prop} (hs : s.heap.IsSliceOf sl vl vu vs) (pl : IsPart vl none) (pu : IsPart vu none) (ps : IsPart vs (some (-1)))
    (h : Q ((n : Int) - 1, -1, n) s) : wpAny (model prog w) A (Builtin.Slice.sliceApplied (.ref sl) (pure (n : Int))) Q E s := by
  obtain ⟨os, hos, hcs, hds⟩ := id hs
  unfold Builtin.Slice.sliceApplied Builtin.Slice.sliceFields
  refine wpAny_bind (wpAny_bind (wpAny_field hos hds (x := vl) rfl (wpAny_bind (wpAny_field hos hds (x := vu) rfl (wpAny_bind (wpAny_field hos hds (x := vs) rfl (wpAny_pure ?_)))))))
  refine wpAny_bind (HT.slicePart_ ps ?_)
  show wpAny _ _ (if ((-1 : Int) == 0) = true then _ else _) _ _ s
  rw [if_neg (by decide)]
  refine wpAny_bind (HT.slicePart_ pl (wpAny_bind (HT.slicePart_ pu (wpAny_bind (wpAny_pure ?_)))))
  show wpAny _ _ (match Builtin.Slice.sliceAdjust none none (-1) (n : Int) with | (lo, hi) => pure (lo, (-1 : Int), Builtin.Slice.slicePlaces lo hi (-1))) _ _ s
  rw [adjust_back n]
  show wpAny _ _ (pure ((n : Int) - 1, (-1 : Int), Builtin.Slice.slicePlaces ((n : Int) - 1) (-1) (-1))) _ _ s
  rw [places_back]
  exact wpAny_pure h
theorem getItem_tuple_back {t sl : Addr} {items : Array Value} {vl vu vs : Value} {Q : Value → Shared → Prop} (ht : IsTup s.heap t items) (hs : s.heap.IsSliceOf sl vl vu vs) (pl : IsPart vl none) (pu : IsPart vu none) (ps : IsPart vs (some (-1)))
    (h : Q (.ref s.heap.objs.size) { s with heap := s.heap.push { cls := .type "tuple", data := .seq items.toList.reverse.toArray } })
    (hsz : items.size ≤ sizeLine) : wpAny (model prog w) A (getItem (.ref t) (.ref sl)) Q E s := by
  have htake : sizeOk (.seq items.toList.reverse.toArray) := by
    show items.toList.reverse.toArray.size ≤ sizeLine
    rw [List.size_toArray, List.length_reverse, Array.length_toList]
    exact hsz
  obtain ⟨os, hos, hcs, hds⟩ := id hs
  have hTs : s.TypeIs (.ref sl) "slice" := ⟨os, hos, hcs⟩
  unfold getItem
  try with_reducible refine wpAny_holding ?_
  first | refine wpAny_bind (wpAny_pure ?_) | skip
  refine wpAny_bind (wpAny_sequenceKey ht.typeIs (by decide) ?_)
  refine wpAny_bind (wpAny_callSpecial?_slot (name := Str.ofString "__getitem__") ht.typeIs PyProof.Rows.slot_tuple_getitem
    (wpAny_call_entry PyProof.Rows.slot_tuple_getitem ht.typeIs entry_tuple_getitem ?_ (args_tuple_getitem _ _)))
  show wpAny _ _ (Builtin.Tuple.tupleItemsOf (.ref t) >>= _) _ _ s
  refine wpAny_bind (tupleItemsOf_ ht ?_)
  refine wpAny_bind (wpAny_typeOf hTs ?_)
  rw [if_pos (by decide)]
  refine wpAny_bind (sliceApplied_back hs pl pu ps ?_)
  have hno : ¬ ((((items.size : Int) - 1) == 0 && (-1 : Int) == 1 && items.size == items.size) = true) := by
    intro q
    rw [Bool.and_eq_true, Bool.and_eq_true] at q
    exact absurd q.1.2 (by decide)
  show wpAny _ _ (if (((items.size : Int) - 1) == 0 && (-1 : Int) == 1 && items.size == items.size) = true then _ else _) _ _ s
  rw [if_neg hno, pick_back]
  first
    | exact wpAny_bind (m := Builtin.Tuple.tupleExact _) (wpAny_newObj_type (wpAny_pure ⟨_, rfl, wpAny_pure h⟩) htake)
    | exact wpAny_bind (m := Builtin.Tuple.tupleExact _) (wpAny_newObj_type (wpAny_bind (wpAny_pure (wpAny_pure ⟨_, rfl, wpAny_pure h⟩))) htake)
end
section
variable {X : Cx}
def tRevT (K : PySem.W.Frag) (te : TE) : TE := fun σ H Q => te σ H fun x H1 => ∃ a xs, x = .ref a ∧ SqT K H1 a xs ∧ ∀ p, H1 p = none → Q (.ref p) (upd H1 p (.tup xs.reverse))
theorem pe_revT {e : Expr} {te : TE} {k : Nat} {p1 p2 p3 pos : Pos} (he : PE X e te) : PE X (.Subscript e (.Slice none none (some (.UnaryOp .USub (.Constant (.int 1) k p1) p2)) p3) pos) (tRevT X.K te) := by
  refine ⟨fun pins s σ H Q I h => ?_⟩
  refine Subscript_ (thn (he.run pins s σ H _ I h) fun v s1 ⟨x, H1, I1, r1, q1⟩ => ?_)
  obtain ⟨a, xs, ex, hx, q⟩ := q1
  subst ex
  cases r1
  have hst : PO X (some (.UnaryOp .USub (.Constant (.int 1) k p1) p2)) (tPart (tUn (rU fun i => .int (-i)) (tC (.int 1)))) := po_some (pe_un un_neg pe_int)
  refine wpAny_Slice (thn (po_none.run pins s1 σ H1 (fun o H2 => o = none ∧ H2 = H1) I1 ⟨rfl, rfl⟩) fun vl s2 ⟨l, H2, I2, pl, el, e2⟩ => ?_)
  subst el e2
  refine thn (po_none.run pins s2 σ H2 (fun o H3 => o = none ∧ H3 = H2) I2 ⟨rfl, rfl⟩) fun vu s3 ⟨u, H3, I3, pu, eu, e3⟩ => ?_
  subst eu e3
  refine thn (hst.run pins s3 σ H3 (fun o H4 => o = some (-1) ∧ H4 = H3) I3 ⟨1, rfl, -1, rfl, rfl, rfl⟩) fun vs s4 ⟨o, H4, I4, ps, eo, e4⟩ => ?_
  subst eo e4
  have I5 : Inv X pins σ H4 { s4 with heap := s4.heap.push { cls := .type "slice", data := .fields #[vl, vu, vs] } } := I4.kept (t' := s4.toks) fun b ob q => Heap.get?_push_of_some _ q
  obtain ⟨its, r, ht, hz⟩ := I5.tuple hx
  have hlen := r.length
  show wpAny (model X.prog X.w) X.A (subscriptTail e (.Slice none none (some (.UnaryOp .USub (.Constant (.int 1) k p1) p2)) p3) (.ref a) (.ref s4.heap.objs.size)) (EP X pins σ Q) X.xe { s4 with heap := s4.heap.push { cls := .type "slice", data := .fields #[vl, vu, vs] } }
  refine tail_any (ops := [.ref a, .ref s4.heap.objs.size]) ht.typeIs (PyProof.Rows.slot_tuple_getitem.lookup) ?_ (by with_unfolding_all rfl)
  refine getItem_tuple_back ht (Heap.IsSliceOf.new _ vl vu vs) pl pu ps ?_ (by rw [List.size_toArray]; omega)
  refine ⟨.ref _, _, I5.laid (t' := s4.toks) (o := .tup xs.reverse) (fun b ob q => Heap.get?_push_of_some _ q) (Nat.le_refl _) ?_, rfl, q _ (I5.hok.fresh (Nat.le_refl _))⟩
  exact ⟨by rw [List.length_reverse]; exact hz, _, r.reverse, IsTup.new _ _⟩
end

theorem tuple_mulS (l : Addr) (items : Array Value) (n : Nat) (dd : Option Addr) (sl : Array (Option Value)) (x : Int) (u : Tok) (c0 : (decide (x < -(2 ^ 63)) || decide (x ≥ 2 ^ 63)) = false) (c1 : (items.isEmpty || x == 1) = true) :
    Meets (Builtin.«tuple.__mul__» ⟨[.ref l, .int x u], []⟩) (fun _ R s => s.heap.get? l = some { cls := .type "tuple", dict := dd, data := .seq items n, slots := sl } ∧
      R (.ok (.ret (Value.ref l))) { s with heap := s.heap, toks := s.toks }) :=
  .of_wp fun prog w A R s h => by
    obtain ⟨hp, g, d, tk, os⟩ := s
    obtain ⟨hl, h⟩ := h
    have f1 := AutoSeq1.idx_int
    wp_walk using wpAny_loadPart' hl
    repeat (first
      | (refine wpAny_ite_false (decide_eq_false (by rw [c0]; exact Bool.false_ne_true)) ?_; wp_walk using wpAny_loadPart' hl)
      | (refine wpAny_ite_true (decide_eq_true c1) ?_; wp_walk using wpAny_loadPart' hl)
      | (refine wpAny_ite_true c1 ?_; wp_walk using wpAny_loadPart' hl))
    exact ⟨_, rfl, h⟩
theorem tuple_mul0 (l : Addr) (items : Array Value) (n : Nat) (dd : Option Addr) (sl : Array (Option Value)) (x : Int) (u : Tok) (c0 : (decide (x < -(2 ^ 63)) || decide (x ≥ 2 ^ 63)) = false) (c1 : (items.isEmpty || x == 1) = false) (c2 : (decide (x ≤ 0) || items.isEmpty) = true) :
    Meets (Builtin.«tuple.__mul__» ⟨[.ref l, .int x u], []⟩) (fun _ R s => s.heap.get? l = some { cls := .type "tuple", dict := dd, data := .seq items n, slots := sl } ∧
      R (.ok (.ret (Value.ref s.heap.objs.size))) { s with heap := s.heap.push { cls := Value.type "tuple", data := Data.seq #[] }, toks := s.toks }) :=
  .of_wp fun prog w A R s h => by
    obtain ⟨hp, g, d, tk, os⟩ := s
    obtain ⟨hl, h⟩ := h
    have f1 := AutoSeq1.idx_int
    wp_walk using wpAny_loadPart' hl
    repeat (first
      | (refine wpAny_ite_false (decide_eq_false (by rw [c0]; exact Bool.false_ne_true)) ?_; wp_walk using wpAny_loadPart' hl)
      | (refine wpAny_ite_false (decide_eq_false (by rw [c1]; exact Bool.false_ne_true)) ?_; wp_walk using wpAny_loadPart' hl)
      | (refine wpAny_ite_true (decide_eq_true c2) ?_; wp_walk using wpAny_loadPart' hl))
    exact ⟨_, rfl, h⟩
/-- some tuple of these values, all else as it stood -/
def NewT (K : PySem.W.Frag) (H : Hp) (Q : VK) (xs : List V) : Prop := ∀ p H', Same H H' → SqT K H' p xs → Q (.ref p) H'
theorem same_upd {H : Hp} {p : Addr} {o : HO} (hp : H p = none) : Same H (upd H p o) := fun b u e => by
  rw [upd_ne (ne_of_none e hp)]
  exact e
theorem Same.seqT {K : PySem.W.Frag} {H H' : Hp} {a : Addr} {xs : List V} (e : Same H H') (h : SqT K H a xs) : SqT K H' a xs := by
  rcases h with h | h
  · left
    rcases h with h | ⟨o, h⟩
    · exact .inl (e _ _ h)
    · exact .inr ⟨o, e _ _ h⟩
  · exact .inr h
theorem NewT.self {K : PySem.W.Frag} {H : Hp} {Q : VK} {xs : List V} {a : Addr} (k : NewT K H Q xs) (h : SqT K H a xs) : Q (.ref a) H := k a H (Same.refl H) h
theorem NewT.new {K : PySem.W.Frag} {H : Hp} {Q : VK} {xs : List V} (k : NewT K H Q xs) {p : Addr} (hp : H p = none) : Q (.ref p) (upd H p (.tup xs)) := k p _ (same_upd hp) (SqT.of upd_same)
section
variable {X : Cx}
def rSlU (K : PySem.W.Frag) : V → Option Int → Option Int → Hp → VK → Prop := fun x lo hi H Q => ∃ a xs, x = .ref a ∧ SqT K H a xs ∧ NewT K H Q (cutV xs lo hi)
theorem sl_tupU : SlR X (rSlU X.K) := by
  intro pins s σ H x v vl vu lo hi sl Q I rx hs pl pu h
  obtain ⟨a, xs, rfl, hx, k⟩ := h
  refine sl_tupA pins s σ H _ v vl vu lo hi sl Q I rx hs pl pu ⟨a, xs, rfl, hx, fun e => ?_, fun _ p hp => k.new hp⟩
  refine k.self ?_
  have : cutV xs lo hi = xs := by
    unfold cutV
    rw [e.1, e.2, List.drop_zero, Nat.sub_zero, List.take_of_length_le (Nat.le_refl _)]
  rw [this]
  exact hx
def rCatU (K : PySem.W.Frag) : R2 := fun x y H Q => ∃ a b xs ys, x = .ref a ∧ y = .ref b ∧ SqT K H a xs ∧ SqT K H b ys ∧ xs.length + ys.length ≤ sizeLine ∧ NewT K H Q (xs ++ ys)
theorem op_catU : OpR X (binaryOp .Add) (rCatU X.K) := by
  intro pins s σ H x y v u Q I rx ry h
  obtain ⟨a, b, xs, ys, rfl, rfl, ha, hb, hz, k⟩ := h
  by_cases hx : xs = []
  · subst hx
    cases rx
    cases ry
    obtain ⟨its, r1, p1, _⟩ := I.tuple ha
    obtain ⟨its2, r2, p2, _⟩ := I.tuple hb
    cases r1
    obtain ⟨⟨cls, dd, data, sl⟩, ho, hc, n, hd⟩ := id p1
    obtain ⟨⟨cls2, dd2, data2, sl2⟩, ho2, hc2, n2, hd2⟩ := id p2
    simp only at hc hd hc2 hd2
    subst hc hd hc2 hd2
    exact concat_meets ⟨_, ho, rfl⟩ ⟨_, ho2, rfl⟩ noFill_tuple_add seq_tuple_add PySem.F.slot_tuple_add PySem.F.entry_tuple_add (PySem.F.args_tuple_add_2 _ _)
      (tuple_addW0 a b _ its2.toArray n n2 dd dd2 sl sl2 (by simp)) ⟨ho, ho2, ⟨.ref b, H, I, rfl, k.self hb⟩⟩
  · refine op_catT pins s σ H _ _ v u Q I rx ry ⟨a, b, xs, ys, rfl, rfl, ha, hb, hx, hz, fun e => ?_, fun _ p hp => k.new hp⟩
    subst e
    rw [List.append_nil] at k
    exact k.self ha
def rRepU (K : PySem.W.Frag) : R2 := fun x y H Q => ∃ l k xs, x = .ref l ∧ y = .int k ∧ SqT K H l xs ∧ 0 ≤ k ∧ k ≤ 1000 ∧ xs.length ≤ 1000 ∧ NewT K H Q (List.replicate k.toNat xs).flatten
theorem op_repU : OpR X (binaryOp .Mult) (rRepU X.K) := by
  intro pins s σ H x y v u Q I rx ry h
  obtain ⟨l, k, xs, rfl, rfl, hT, h1, h2, hz, kq⟩ := h
  by_cases hne : xs ≠ [] ∧ 2 ≤ k
  · exact op_repT pins s σ H _ _ v u Q I rx ry ⟨l, k, xs, rfl, rfl, hT, hne.1, hne.2, h2, hz, fun p hp => kq.new hp⟩
  cases rx
  obtain ⟨t, rfl⟩ := ry
  obtain ⟨its, r, ⟨⟨cls, dd, data, sl⟩, ho, hc, n, hd⟩, hs⟩ := I.tuple hT
  simp only at hc hd
  subst hc hd
  have c0 : (decide (k < -(2 ^ 63)) || decide (k ≥ 2 ^ 63)) = false := by
    rw [decide_eq_false (by omega), decide_eq_false (by omega)] <;> rfl
  by_cases hs1 : (its.toArray.isEmpty || k == 1) = true
  · refine wpAny_binaryOp_repeat_ref (T := "tuple") (U := "int") (by decide) ⟨_, ho, rfl⟩ (fun s' => typeIs_int s' k t) noFill_tuple_mul F.fills_int_mul F.slot_int_rmul repeat_tuple F.slot_int_index.lookup
      (call_meets F.slot_int_rmul (typeIs_int s k t) F.entry_int_rmul (F.args_int_rmul_2 _ _) (int_rmul_tuple k t l its.toArray n dd sl)
        ⟨ho, rfl, ⟨_, ho, rfl⟩, call_meets F.slot_tuple_mul ⟨_, ho, rfl⟩ F.entry_tuple_mul (F.args_tuple_mul_2 _ _) (tuple_mulS l its.toArray n dd sl k t c0 hs1) ⟨ho, ?_⟩⟩)
    refine ⟨.ref l, H, I, rfl, kq.self ?_⟩
    rw [Bool.or_eq_true] at hs1
    rcases hs1 with e | e
    · have ei : its = [] := by simpa using e
      have ex : xs = [] := by
        have := r.length
        rw [ei] at this
        exact List.eq_nil_of_length_eq_zero this
      subst ex
      have : (List.replicate k.toNat ([] : List V)).flatten = [] := by simp
      rw [this]
      exact hT
    · have : k = 1 := eq_of_beq e
      subst this
      have : (List.replicate (1 : Int).toNat xs).flatten = xs := by simp
      rw [this]
      exact hT
  · have hs1' : (its.toArray.isEmpty || k == 1) = false := by
      cases e : (its.toArray.isEmpty || k == 1) with
      | false => rfl
      | true => exact absurd e hs1
    have hxs : xs ≠ [] := fun e => by
      subst e
      cases r
      exact hs1 rfl
    have k1 : k ≠ 1 := fun e => by
      rw [e] at hs1'
      simp at hs1'
    have k0 : k = 0 := by
      have : ¬ 2 ≤ k := fun e => hne ⟨hxs, e⟩
      omega
    subst k0
    refine wpAny_binaryOp_repeat_ref (T := "tuple") (U := "int") (by decide) ⟨_, ho, rfl⟩ (fun s' => typeIs_int s' 0 t) noFill_tuple_mul F.fills_int_mul F.slot_int_rmul repeat_tuple F.slot_int_index.lookup
      (call_meets F.slot_int_rmul (typeIs_int s 0 t) F.entry_int_rmul (F.args_int_rmul_2 _ _) (int_rmul_tuple 0 t l its.toArray n dd sl)
        ⟨ho, rfl, ⟨_, ho, rfl⟩, call_meets F.slot_tuple_mul ⟨_, ho, rfl⟩ F.entry_tuple_mul (F.args_tuple_mul_2 _ _) (tuple_mul0 l its.toArray n dd sl 0 t c0 hs1' rfl) ⟨ho, ?_⟩⟩)
    refine ⟨.ref s.heap.objs.size, _, I.laid (t' := s.toks) (o := .tup []) (fun b ob q => Heap.get?_push_of_some _ q) (Nat.le_refl _) ?_, rfl, kq.new (xs := []) (I.hok.fresh (Nat.le_refl _))⟩
    exact ⟨Nat.zero_le _, [], .nil, IsTup.new _ _⟩
end
end WR
set_option Elab.async false
set_option linter.all false
set_option maxRecDepth 100000
set_option maxHeartbeats 1000000
/-! Tuples that have no dict of their own: a method of theirs can be called (t.count(x)). tuple(..), slices, + and * make such. -/
namespace WB
open PySem PySem.Spec PyProof PyProof.Rows L2 WR
/-- no dict of its own -/
def Bare (H : Hp) (a : Addr) : Prop := ∃ (o : Obj) (u : HO), H a = some (.frz o u) ∧ o.dict = none
structure SqB (K : PySem.W.Frag) (H : Hp) (a : Addr) (xs : List V) : Prop where
  sq : SqT K H a xs
  bare : xs ≠ [] → Bare H a
instance {K : PySem.W.Frag} {H : Hp} {a : Addr} {xs : List V} : Coe (SqB K H a xs) (SqT K H a xs) := ⟨SqB.sq⟩
theorem SqB.same {K : PySem.W.Frag} {H H' : Hp} {a : Addr} {xs : List V} (s : Same H H') (h : SqB K H a xs) : SqB K H' a xs := by
  obtain ⟨h1, h2⟩ := h
  refine ⟨WR.Same.seqT s h1, fun n => ?_⟩
  obtain ⟨o, u, e, d⟩ := h2 n
  exact ⟨o, u, s _ _ e, d⟩
theorem SqB.nil {K : PySem.W.Frag} {H : Hp} {a : Addr} (h : SqT K H a []) : SqB K H a [] := ⟨h, fun n => absurd rfl n⟩
/-- some such tuple of these values, all else as it stood -/
def NewB (K : PySem.W.Frag) (H : Hp) (Q : VK) (xs : List V) : Prop := ∀ p H', Same H H' → SqB K H' p xs → Q (.ref p) H'
theorem NewB.self {K : PySem.W.Frag} {H : Hp} {Q : VK} {xs : List V} {a : Addr} (k : NewB K H Q xs) (h : SqB K H a xs) : Q (.ref a) H := k a H (Same.refl H) h
theorem NewB.new {K : PySem.W.Frag} {H : Hp} {Q : VK} {xs : List V} (k : NewB K H Q xs) {p : Addr} (hp : H p = none) {o : Obj} (d : o.dict = none) : Q (.ref p) (upd H p (.frz o (.tup xs))) :=
  k p _ (same_upd hp) ⟨.inl (.inr ⟨o, upd_same⟩), fun _ => ⟨o, _, upd_same, d⟩⟩
section
variable {X : Cx} {pins : List (Addr × Obj)} {σ : L2.St} {H : Hp} {s : Shared} {Q : VK} {xs : List V} {its : List Value}
/-- a new tuple of these -/
theorem born (I : Inv X pins σ H s) {h1 : Heap} (kp : ∀ b o, s.heap.get? b = some o → h1.get? b = some o) (r : Vals xs its) (hz : xs.length ≤ sizeLine) (k : NewB X.K H Q xs) :
    ∃ (v : V) (H2 : Hp), Inv X pins σ H2 { s with heap := h1.push { cls := .type "tuple", data := .seq its.toArray } } ∧ RelV v (.ref h1.objs.size) ∧ Q v H2 := by
  have J : Inv X pins σ H { s with heap := h1 } := I.kept (t' := s.toks) kp
  have hn := J.hok.fresh (Nat.le_refl h1.objs.size)
  have new : (h1.push { cls := .type "tuple", data := .seq its.toArray }).get? h1.objs.size = some { cls := .type "tuple", data := .seq its.toArray } := Heap.get?_push_size _ rfl
  exact ⟨.ref _, _, J.laid (t' := s.toks) (o := .frz { cls := .type "tuple", data := .seq its.toArray } (.tup xs)) (fun _ _ e => Heap.get?_push_of_some _ e) (Nat.le_refl _) ⟨new, hz, its, r, IsTup.new _ _⟩, rfl, k.new hn rfl⟩
theorem call_tupB : CallR X (.type "tuple") (fun xs H Q => ∃ p ys, xs = [.ref p] ∧ ((SqL X.K H p ys ∧ NewB X.K H Q ys) ∨ (SqB X.K H p ys ∧ Q (.ref p) H))) := by
  intro pins s σ H vs us Q I r h
  obtain ⟨p, ys, rfl, h⟩ := h
  obtain ⟨u, rfl, rx⟩ := vals1 r
  cases rx
  rcases h with ⟨hq, q⟩ | ⟨hq, q⟩
  · obtain ⟨its, rv, pl, hz⟩ := I.list hq
    exact call_tuple_list pl.isList (fun h1 kp => born I kp rv hz q) (by rw [List.size_toArray, ← rv.length]; exact hz)
  · obtain ⟨its, rv, pl, _⟩ := I.tuple hq.sq
    exact call_tuple_same pl ⟨.ref p, H, I, rfl, q⟩
def rSlB (K : PySem.W.Frag) : V → Option Int → Option Int → Hp → VK → Prop := fun x lo hi H Q => ∃ a xs, x = .ref a ∧ SqB K H a xs ∧ NewB K H Q (cutV xs lo hi)
theorem sl_tupB : SlR X (rSlB X.K) := by
  intro pins s σ H x v vl vu lo hi sl Q I rx hs pl pu h
  obtain ⟨a, xs, rfl, hx, k⟩ := h
  cases rx
  obtain ⟨its, r, ht, hz⟩ := I.tuple hx.sq
  have hlen : its.toArray.size = xs.length := List.size_toArray.trans r.length.symm
  refine ⟨"tuple", _, PyProof.Rows.slot_tuple_getitem.lookup, ht.typeIs, ?_⟩
  by_cases hw : HT.sIx xs.length 0 lo = 0 ∧ HT.sIx xs.length xs.length hi = xs.length
  · have e : cutV xs lo hi = xs := by
      unfold cutV
      rw [hw.1, hw.2, List.drop_zero, Nat.sub_zero, List.take_of_length_le (Nat.le_refl _)]
    rw [e] at k
    exact getItem_tuple_whole ht hs pl pu (hlen.symm ▸ hw) ⟨.ref a, H, I, rfl, k.self hx⟩
  · refine HT.getItem_tuple_cut ht hs pl pu (hlen.symm ▸ hw) ?_ (hlen.symm ▸ hz)
    rw [hlen]
    exact born I (fun _ _ e => e) ((r.drop _).take _) (Nat.le_trans (cutV_length xs lo hi) hz) k
def rCatB (K : PySem.W.Frag) : R2 := fun x y H Q => ∃ a b xs ys, x = .ref a ∧ y = .ref b ∧ SqB K H a xs ∧ SqB K H b ys ∧ xs.length + ys.length ≤ sizeLine ∧ NewB K H Q (xs ++ ys)
theorem op_catB : OpR X (binaryOp .Add) (rCatB X.K) := by
  intro pins s σ H x y v u Q I rx ry h
  obtain ⟨a, b, xs, ys, rfl, rfl, ha, hb, hz, k⟩ := h
  by_cases hx : xs = []
  · subst hx
    exact op_catA pins s σ H _ _ v u Q I rx ry ⟨a, b, [], ys, rfl, rfl, ha.sq, hb.sq, hz, fun _ => k.self hb, fun z => absurd rfl z, fun z => absurd rfl z⟩
  cases rx
  cases ry
  obtain ⟨its, r1, p1, _⟩ := I.tuple ha.sq
  obtain ⟨its2, r2, p2, _⟩ := I.tuple hb.sq
  refine HT.cat_tup p1 p2 (fun z => hx (r1.nil_iff.mp z)) (fun z => ?_) (fun z => ?_) (r1.length ▸ r2.length ▸ hz)
  · have e := r2.nil_iff.mp z
    subst e
    rw [List.append_nil] at k
    exact ⟨.ref a, H, I, rfl, k.self ha⟩
  · exact born I (fun _ _ e => e) (r1.append r2) (by rw [List.length_append]; exact hz) k
def rRepB (K : PySem.W.Frag) : R2 := fun x y H Q => ∃ l k xs, x = .ref l ∧ y = .int k ∧ SqB K H l xs ∧ 0 ≤ k ∧ k ≤ 1000 ∧ xs.length ≤ 1000 ∧ NewB K H Q (List.replicate k.toNat xs).flatten
theorem op_repB : OpR X (binaryOp .Mult) (rRepB X.K) := by
  intro pins s σ H x y v u Q I rx ry h
  obtain ⟨l, k, xs, rfl, rfl, hT, h1, h2, hz, kq⟩ := h
  cases rx
  obtain ⟨t, rfl⟩ := ry
  obtain ⟨its, r, ⟨⟨cls, dd, data, sl⟩, ho, hc, n, hd⟩, hs⟩ := I.tuple hT.sq
  simp only at hc hd
  subst hc hd
  have c0 : (decide (k < -(2 ^ 63)) || decide (k ≥ 2 ^ 63)) = false := by
    rw [decide_eq_false (by omega), decide_eq_false (by omega)] <;> rfl
  have hle : its.length = xs.length := r.length.symm
  have big : k.toNat * xs.length ≤ 1000 * 1000 := Nat.mul_le_mul (by omega) hz
  have flat : (List.replicate k.toNat xs).flatten.length ≤ sizeLine := by
    rw [PyProof.Rows.lm_len_rep_flat, sizeLine_eq]
    omega
  -- what the slot says is what the operator says
  have slot : ∀ {E : Value → Shared → Prop} {Qv : Value → Shared → Prop}, wpAny (model X.prog X.w) X.A (call (.builtin "tuple.__mul__") [.ref l, .int k t]) Qv E s → wpAny (model X.prog X.w) X.A (binaryOp .Mult (.ref l) (.int k t)) Qv E s := fun hh =>
    wpAny_binaryOp_repeat_ref (T := "tuple") (U := "int") (by decide) ⟨_, ho, rfl⟩ (fun s' => typeIs_int s' k t) noFill_tuple_mul F.fills_int_mul F.slot_int_rmul repeat_tuple F.slot_int_index.lookup
      (call_meets F.slot_int_rmul (typeIs_int s k t) F.entry_int_rmul (F.args_int_rmul_2 _ _) (int_rmul_tuple k t l its.toArray n dd sl) ⟨ho, rfl, ⟨_, ho, rfl⟩, hh⟩)
  refine slot ?_
  by_cases hs1 : (its.toArray.isEmpty || k == 1) = true
  · refine call_meets F.slot_tuple_mul ⟨_, ho, rfl⟩ F.entry_tuple_mul (F.args_tuple_mul_2 _ _) (tuple_mulS l its.toArray n dd sl k t c0 hs1) ⟨ho, ?_⟩
    have e : (List.replicate k.toNat xs).flatten = xs := by
      rcases Bool.or_eq_true_iff.mp hs1 with e | e
      · have e0 : xs = [] := List.eq_nil_of_length_eq_zero (by rw [← hle]; simpa using e)
        rw [e0]
        simp
      · rw [show k = 1 from eq_of_beq e]
        simp
    rw [e] at kq
    exact ⟨.ref l, H, I, rfl, kq.self hT⟩
  · have hs2 := Bool.eq_false_iff.mpr hs1
    obtain ⟨n1, n2⟩ := Bool.or_eq_false_iff.mp hs2
    by_cases k0 : k = 0
    · subst k0
      refine call_meets F.slot_tuple_mul ⟨_, ho, rfl⟩ F.entry_tuple_mul (F.args_tuple_mul_2 _ _) (tuple_mul0 l its.toArray n dd sl 0 t c0 hs2 rfl) ⟨ho, ?_⟩
      exact born (its := []) I (fun _ _ e => e) .nil (Nat.zero_le _) kq
    · have c2 : (decide (k ≤ 0) || its.toArray.isEmpty) = false := by rw [n1, Bool.or_false, decide_eq_false (by omega)]
      have hsz : its.toArray.size = xs.length := List.size_toArray.trans hle
      have c3 : ((its.toArray.size : Nat) : Int) * k ≤ 1000000 := by
        rw [hsz]
        have : ((xs.length : Nat) : Int) * k ≤ 1000 * 1000 := Int.mul_le_mul (by omega) h2 h1 (by omega)
        omega
      have c4 : Builtin.Tuple.tupleTooMany (((its.toArray.size : Nat) : Int) * k) = false := by
        unfold Builtin.Tuple.tupleTooMany
        rw [sizeLine_eq, decide_eq_false (by omega)]
      have many : (List.replicate k.toNat its).flatten.length ≤ sizeLine := by rw [PyProof.Rows.lm_len_rep_flat, hle, sizeLine_eq]; omega
      refine call_meets F.slot_tuple_mul ⟨_, ho, rfl⟩ F.entry_tuple_mul (F.args_tuple_mul_2 _ _) (tuple_mulW l its.toArray n dd sl k t c0 hs2 c2 (by omega) c4 (by rw [size_rep, List.size_toArray]; exact many)) ⟨ho, ?_⟩
      rw [size_rep]
      exact born I (fun _ _ e => e) (r.rep k.toNat) flat kq
end
end WB
set_option Elab.async false
set_option linter.all false
set_option maxRecDepth 100000
set_option maxHeartbeats 2000000
/-! Words: rows of letters. -/
namespace W09
open PySem L2 PySem.Spec PyProof.Rows WR WB
def top (i : Nat) : Stmt := PySem.Challenge.pw_handlerims_k09_letters_and_words_put_for.main.body.getD i (.Pass ⟨0, 0, 0, 0⟩)
abbrev sCon : Stmt := top 19
abbrev sShr : Stmt := top 20
abbrev sRnd : Stmt := top 21

theorem gen_heap {P : Hp → Prop} {H : Hp} (h : ∀ H3, H3 = H → P H3) : P H := h H rfl
theorem yes_te {σ : L2.St} {H : Hp} {A B : Hp → Prop} (h : A H) : tYes σ H (fun b H3 => if b = true then A H3 else B H3) := by
  show (if (true : Bool) = true then A H else B H)
  exact iteT h
/-! ### a def that the module's name x holds, with its promise -/
structure Cal (P : Program) (w : World) (K : PySem.W.Frag) (mg : Str → Option Value) (base : Heap) (x : Str) (k : Nat) (ps : List Str) (sp : Sp) : Prop where
  ex : ∃ (f : Addr) (fd : FuncData), FnOk P w K mg base CX0 k f fd ps sp ∧ mg x = some (.ref f) ∧ PySem.W.keepIn K (.ref f) = true ∧ Binds K fd ps []
section
variable {X : Cx} {x : Str} {k j : Nat} {ps : List Str} {sp : Sp} {p pos : Pos} {e : Expr} {es : List Expr} {t : TA}
theorem pe_cal (C : Cal X.prog X.w X.K X.mg X.base x k ps sp) (hr : Room j X.A) (hkj : k ≤ j) (hg : Gl X x) (ha : PA X (e :: es) t) (hdb : (x == ("__debug__" : Str)) = false := by decide)
    (he : starEach (e :: es) X.env = (false, eval e X.env) :: starEach es X.env := by rfl) (hpl : (backTo pos (starEach es X.env)).any (·.1) = false := by rfl) :
    PE X (.Call (.Name x p) (e :: es) [] pos) (tCall sp [] E0 t) := by
  obtain ⟨f, fd, F, hm, hk, hb⟩ := C.ex
  exact pe_call F (hr.mono hkj) hg hm hk hb .nil pass0 ha hdb he hpl
end
/-! ### comprehensions that change nothing -/
theorem lc_in {wi : TI} {g : TG} {tt : TT} {te : TE} {vs : List Nat} {σ : L2.St} {H : Hp} {Q : VK} (h : wi σ H fun J H1 => tLc (fun _ H R => R J H) g tt te vs σ H1 Q) : tLc wi g tt te vs σ H Q := h
theorem lcp {J : It} {xs : List V} {G : Hp → Prop} (w : Walk J xs.length G (YAt xs)) {g : TG} {tt : TT} {te : TE} {vs : List Nat} {σ : L2.St} {H1 : Hp} {Q : VK} (f : V → Bool) (v : V → V) (hz : xs.length < 40000) (hG : ∀ H, Same H1 H → G H)
    (hs : ∀ x, x ∈ xs → ∀ H, Same H1 H → ∀ (Qy : V → Hp → Prop) (Qn : Hp → Prop), (f x = true → ∀ H', Same H H' → Qy (v x) H') → (f x = false → ∀ H', Same H H' → Qn H') →
      g x (wipe σ vs) H fun σ2 H2 => wipe σ2 vs = wipe σ vs ∧ tt σ2 H2 fun b H3 => if b = true then te σ2 H3 Qy else Qn H3)
    (hd : ∀ (D : Addr) H', H1 D = none → Same H1 H' → H' D = some (.lst ((xs.filter f).map v)) → Q (.ref D) H') : tLc (fun _ H R => R J H) g tt te vs σ H1 Q := by
  intro D hD
  refine lc_it w (fun i H => Same H1 H ∧ H D = some (.lst (((xs.take i).filter f).map v))) ⟨fun b o e => by rw [upd_ne (ne_of_none e hD)]; exact e, upd_same⟩ (fun i H _ q => hG H q.1) ?_ ?_
  · rintro i x H H' hi q ⟨rfl, hx⟩
    have hm : x ∈ xs := List.mem_of_getElem? hx
    have et : xs.take (i + 1) = xs.take i ++ [x] := by
      have hx2 : xs[i] = x := (List.getElem?_eq_some_iff.mp hx).2
      rw [List.take_succ_eq_append_getElem hi, hx2]
    refine hs x hm H' q.1 _ _ (fun hf H2 s2 => ⟨_, s2 _ _ q.2, ?_, ?_, ?_⟩) (fun hf H2 s2 => ⟨fun b o e => s2 b o (q.1 b o e), ?_⟩)
    · refine Evl.sz_lt ?_
      rw [List.length_map]
      have := List.length_filter_le f (xs.take i)
      rw [List.length_take] at this
      omega
    · intro b o e
      rw [upd_ne (ne_of_none e hD)]
      exact s2 b o (q.1 b o e)
    · rw [upd_same, et, List.filter_append, List.map_append, List.filter_cons, if_pos hf]
      rfl
    · rw [et, List.filter_append, List.filter_cons, if_neg (by rw [hf]; decide)]
      show H2 D = some (.lst (((xs.take i).filter f ++ []).map v))
      rw [List.append_nil]
      exact s2 _ _ q.2
  · intro H q
    have q2 := q.2
    rw [List.take_length] at q2
    exact hd D H hD q.1 q2

theorem ret_cb {r : List V → Hp → VK → Prop} {te : TE} {D : Ends} {σ : L2.St} {H : Hp} (h : te σ H fun x H1 => r [x] H1 D.rt) : tRet (tCB r (tCons te tNil)) D σ H := h
theorem ret_e {te : TE} {D : Ends} {σ : L2.St} {H : Hp} (h : te σ H D.rt) : tRet te D σ H := h
theorem iteT' {c : Bool} {A B : Prop} (hc : c = true) (h : A) : if c = true then A else B := by rw [if_pos hc]; exact h
abbrev iv (ns : List Int) : List V := ns.map V.int
def SqE (K : PySem.W.Frag) (H : Hp) (a : Addr) (xs : List V) : Prop := SqL K H a xs ∨ SqT K H a xs
theorem SqE.same {K : PySem.W.Frag} {H H' : Hp} {a : Addr} {xs : List V} (h : SqE K H a xs) (s : Same H H') : SqE K H' a xs := by
  rcases h with h | h
  · exact .inl (s.seq h)
  · exact .inr (WR.Same.seqT s h)
def SqW (K : PySem.W.Frag) (H : Hp) (a : Addr) (xs : List V) : Prop := SqL K H a xs ∨ SqB K H a xs
theorem SqW.same {K : PySem.W.Frag} {H H' : Hp} {a : Addr} {xs : List V} (h : SqW K H a xs) (s : Same H H') : SqW K H' a xs := by
  rcases h with h | h
  · exact .inl (s.seq h)
  · exact .inr (SqB.same s h)
theorem SqW.e {K : PySem.W.Frag} {H : Hp} {a : Addr} {xs : List V} (h : SqW K H a xs) : SqE K H a xs := h.imp id SqB.sq
def spCon (K : PySem.W.Frag) : Sp := fun vs H Q _ => ∃ (a : Addr) (ns : List Int), vs = [.ref a] ∧ SqT K H a (iv ns) ∧ ns.length ≤ 1000 ∧ NewB K H Q (iv (Fr.con ns))
def spShr (K : PySem.W.Frag) : Sp := fun vs H Q _ => ∃ (a : Addr) (ns : List Int), vs = [.ref a] ∧ SqE K H a (iv ns) ∧ ns.length ≤ 1000 ∧ NewB K H Q (iv (Fr.shr ns))
def spRnd (K : PySem.W.Frag) : Sp := fun vs H Q _ => ∃ (a : Addr) (ns : List Int), vs = [.ref a] ∧ SqE K H a (iv ns) ∧ ns.length ≤ 1000 ∧ Fr.NZ ns ∧ NewB K H Q (iv (Fr.rnd ns))
structure TxA (mg : Str → Option Value) : Prop where
  tuple : mg "tuple" = none
  len : mg "len" = none
section
variable {P : Program} {w : World} {K : PySem.W.Frag} {mg : Str → Option Value} {base : Heap}
theorem scCon : FnScope ["letters", "letter"] ["letters"] (defScope sCon) := ⟨rfl, rfl, rfl, by decide +kernel, rfl, by decide +kernel, by decide +kernel⟩
theorem ok_con {f : Addr} {fd : FuncData} (F : Fun K "contrary_letters" "contrary_letters" sCon f fd) (T : TxA mg) : FnOk P w K mg base CX0 1 f fd ["letters"] (spCon K) := by
  refine F.ok scCon (fun vs H Q E h => ?_) (fun cdv A outer s H vs Q E hr h => ?_)
  · obtain ⟨a, ns, rfl, _⟩ := h
    rfl
  · obtain ⟨a, ns, rfl, hS, hlen, k⟩ := h
    refine ⟨_, pss_one (ps_ret (pe_callTy call_tupB (by rfl) T.tuple (by decide +kernel) (pa_cons (pe_lc (own := [("letter", 1)]) (g := gName 1) (tt := tYes) rfl scCon.nd (pi_tup (pe_revT (pv 0)))
      (blkOk_by (N := ["letters", "letter"]) (sc := defScope sCon) (by decide +kernel)) (fun _ _ _ _ _ => pg_name (i := 1) scCon.nd rfl (Or.inl rfl)) (fun _ _ _ _ _ => pts_nil)
      (fun _ _ _ _ _ => pe_un un_neg (pv 1))) pa_nil))), ?_⟩
    refine ret_cb (lc_in ?_)
    refine ⟨_, rfl, a, iv ns, rfl, hS, fun p hp => ?_⟩
    refine ⟨p, rfl, ⟨_, SqT.of upd_same⟩, ?_⟩
    refine lcp (walk_tup (xs := (iv ns).reverse)) (fun _ => true) (fun x => match x with | .int i => .int (-i) | _ => .non) (by simp; omega) (fun H2 s2 => SqT.of (s2 _ _ upd_same)) ?_ ?_
    · intro x hx H2 s2 Qy Qn ky kn
      obtain ⟨i, rfl⟩ : ∃ i, x = V.int i := by
        simp at hx
        obtain ⟨i, _, rfl⟩ := hx
        exact ⟨i, rfl⟩
      refine ⟨rfl, yes_te ?_⟩
      exact ⟨_, rfl, i, rfl, ky rfl H2 (fun _ _ e => e)⟩
    · intro D H2 hD s2 h2
      refine ⟨D, _, rfl, .inl ⟨SqL.of h2, ?_⟩⟩
      have e : (((iv ns).reverse.filter fun _ => true).map fun x => match x with | .int i => V.int (-i) | _ => .non) = iv (Fr.con ns) := by
        rw [List.filter_eq_self.mpr (fun _ _ => rfl)]
        unfold Fr.con
        simp [iv, List.map_reverse, Function.comp_def]
      rw [e]
      exact fun l H3 s3 b3 => k l H3 ((same_upd hp).trans (s2.trans s3)) b3
theorem scShr : FnScope ["letters", "left", "letter"] ["letters"] (defScope sShr) := ⟨rfl, rfl, rfl, by decide +kernel, rfl, by decide +kernel, by decide +kernel⟩
theorem act_take {ns : List Int} {i : Nat} {x : Int} (h : ns[i]? = some x) : Fr.act [] (ns.take (i + 1)) = Fr.push (Fr.act [] (ns.take i)) x := by
  have hi : i < ns.length := (List.getElem?_eq_some_iff.mp h).1
  have hx : ns[i] = x := (List.getElem?_eq_some_iff.mp h).2
  rw [List.take_succ_eq_append_getElem hi, hx, Fr.act_snoc]
theorem act_len : ∀ (ns s : List Int), (Fr.act s ns).length ≤ s.length + ns.length
  | [], s => by simp [Fr.act]
  | a :: t, s => by
    rw [Fr.act_cons]
    have h1 := act_len t (Fr.push s a)
    have h2 : (Fr.push s a).length ≤ s.length + 1 := by
      cases s with
      | nil => simp [Fr.push]
      | cons b u =>
        show (if b = -a then u else a :: b :: u).length ≤ _
        split <;> simp <;> omega
    simp only [List.length_cons]
    omega
theorem shr_len (ns : List Int) : (Fr.shr ns).length ≤ ns.length := by
  unfold Fr.shr
  rw [List.length_reverse]
  simpa using act_len ns []
theorem ok_shr {f : Addr} {fd : FuncData} (F : Fun K "shortened_letters" "shortened_letters" sShr f fd) (T : TxA mg) : FnOk P w K mg base CX0 1 f fd ["letters"] (spShr K) := by
  refine F.ok scShr (fun vs H Q E h => ?_) (fun cdv A outer s H vs Q E hr h => ?_)
  · obtain ⟨a, ns, rfl, _⟩ := h
    rfl
  · obtain ⟨a, ns, rfl, hS, hlen, k⟩ := h
    rcases hS with hS | hS
    · refine ⟨_, pss_cons (ps_set (i := 1) scShr.nd rfl (Or.inl rfl) (pe_lst pa_nil))
        (pss_cons (ps_for PassesOwn.never rfl (pi_list (pv 0)) (pg_name (i := 2) scShr.nd rfl (Or.inl rfl))
          (pss_one (ps_if (PW.pt (pw_and (pt_truth (pv 1) (by intro _; rfl)) (pw_and1 (pt_cmpR op_eq (pe_ix ix_list (pv 1) (pe_un un_neg pe_int) (fun _ _ => rfl)) (pe_un un_neg (pv 2)) (nomark _)))))
            (pss_one (ps_expr (pe_bm0 PySem.F.plainAttrs_list PySem.F.slot_list_pop PySem.F.type_list_pop mt_pop (pv 1))))
            (pss_one (ps_expr (pe_bm PySem.F.plainAttrs_list PySem.F.slot_list_append PySem.F.type_list_append mt_append (pv 1) (pa_cons (pv 2) pa_nil)))))))
        (pss_one (ps_ret (pe_callTy call_tupB (by rfl) T.tuple (by decide +kernel) (pa_cons (pv 1) pa_nil))))), ?_⟩
      refine ⟨Nat.zero_le _, fun l hl => ?_⟩
      refine ⟨_, rfl, a, rfl, ⟨_, (by have s := same_upd (o := HO.lst []) hl; exact (s.seq hS))⟩, for_list (K := K) (a := a) (xs := iv ns) (fun i σ H1 => ∃ v, σ = [some (.ref a), some (.ref l), v] ∧ Same H H1 ∧ H1 l = some (.lst (iv (Fr.act [] (ns.take i)).reverse)))
        ⟨none, rfl, same_upd hl, by rw [upd_same]; rfl⟩ (fun i σ H1 _ ⟨_, _, s, _⟩ => (s.seq hS)) ?_ ?_⟩
      · rintro i y σ H1 hi ⟨v, rfl, sm, hL⟩
        obtain ⟨x, hx, rfl⟩ : ∃ x, ns[i]? = some x ∧ y = V.int x := by
          rw [List.getElem?_map] at hi
          cases e : ns[i]? with
          | none => rw [e] at hi; cases hi
          | some x => rw [e] at hi; exact ⟨x, rfl, (Option.some.inj hi).symm⟩
        have hi2 : i < ns.length := (List.getElem?_eq_some_iff.mp hx).1
        have nx := act_take hx
        have hsz : (Fr.act [] (ns.take i)).length ≤ 1000 := by
          have := act_len (ns.take i) []
          rw [List.length_take] at this
          simp at this
          omega
        have put : ∀ xs, Same H (L2.upd H1 l (.lst xs)) := fun xs b o e => by
          rw [upd_ne (ne_of_none e hl)]
          exact sm b o e
        refine ⟨_, rfl, _, .inl ⟨_, SqL.of hL, rfl⟩, ?_⟩
        cases est : Fr.act [] (ns.take i) with
        | nil =>
          rw [est] at hL nx
          refine iteF ?_
          refine iteF ?_
          refine ⟨_, rfl, .inl ⟨rfl, _, SqL.of hL⟩, _, rfl, l, _, _, rfl, rfl, hL, Evl.sz_lt (by simp), ?_⟩
          refine ⟨_, rfl, put _, ?_⟩
          rw [upd_same, nx]
          rfl
        | cons b t =>
          rw [est] at hL nx hsz
          have eL : iv (b :: t).reverse = iv t.reverse ++ [V.int b] := by simp [iv]
          refine iteT' (by simp [iv]) ?_
          refine ⟨_, rfl, _, rfl, l, _, _, _, rfl, rfl, SqL.of hL, (by rw [eL]; exact atI_last _ _), _, rfl, x, rfl, rfl, _, rfl, ?_⟩
          refine ite2 (fun hb => ?_) (fun hb => ?_)
          · have eb : b = -x := by
              have := of_decide_eq_true hb
              injection this
            refine ⟨_, rfl, .inl ⟨rfl, _, SqL.of hL⟩, l, _, V.int b, rfl, rfl, hL, (by rw [eL]; simp), ?_⟩
            refine ⟨_, rfl, put _, ?_⟩
            rw [upd_same, nx]
            have : Fr.push (b :: t) x = t := by simp [Fr.push, eb]
            rw [this, eL, List.dropLast_concat]
          · have eb : ¬ b = -x := fun e => hb (decide_eq_true (by rw [e]))
            refine ⟨_, rfl, .inl ⟨rfl, _, SqL.of hL⟩, _, rfl, l, _, _, rfl, rfl, hL, Evl.sz_lt (by simp [iv] at hsz ⊢; omega), ?_⟩
            refine ⟨_, rfl, put _, ?_⟩
            rw [upd_same, nx]
            have : Fr.push (b :: t) x = x :: b :: t := by simp [Fr.push, eb]
            rw [this]
            simp [iv]
      · rintro σ H1 ⟨v, rfl, sm, hL⟩
        rw [List.take_of_length_le (by simp)] at hL
        exact ⟨_, rfl, l, _, rfl, .inl ⟨SqL.of hL, fun p H3 s3 b3 => k p H3 (sm.trans s3) b3⟩⟩
    · refine ⟨_, pss_cons (ps_set (i := 1) scShr.nd rfl (Or.inl rfl) (pe_lst pa_nil))
        (pss_cons (ps_for PassesOwn.never rfl (pi_tup (pv 0)) (pg_name (i := 2) scShr.nd rfl (Or.inl rfl))
          (pss_one (ps_if (PW.pt (pw_and (pt_truth (pv 1) (by intro _; rfl)) (pw_and1 (pt_cmpR op_eq (pe_ix ix_list (pv 1) (pe_un un_neg pe_int) (fun _ _ => rfl)) (pe_un un_neg (pv 2)) (nomark _)))))
            (pss_one (ps_expr (pe_bm0 PySem.F.plainAttrs_list PySem.F.slot_list_pop PySem.F.type_list_pop mt_pop (pv 1))))
            (pss_one (ps_expr (pe_bm PySem.F.plainAttrs_list PySem.F.slot_list_append PySem.F.type_list_append mt_append (pv 1) (pa_cons (pv 2) pa_nil)))))))
        (pss_one (ps_ret (pe_callTy call_tupB (by rfl) T.tuple (by decide +kernel) (pa_cons (pv 1) pa_nil))))), ?_⟩
      refine ⟨Nat.zero_le _, fun l hl => ?_⟩
      refine ⟨_, rfl, a, rfl, ⟨_, (by have s := same_upd (o := HO.lst []) hl; exact (WR.Same.seqT s hS))⟩, for_tup (K := K) (a := a) (xs := iv ns) (fun i σ H1 => ∃ v, σ = [some (.ref a), some (.ref l), v] ∧ Same H H1 ∧ H1 l = some (.lst (iv (Fr.act [] (ns.take i)).reverse)))
        ⟨none, rfl, same_upd hl, by rw [upd_same]; rfl⟩ (fun i σ H1 _ ⟨_, _, s, _⟩ => (WR.Same.seqT s hS)) ?_ ?_⟩
      · rintro i y σ H1 hi ⟨v, rfl, sm, hL⟩
        obtain ⟨x, hx, rfl⟩ : ∃ x, ns[i]? = some x ∧ y = V.int x := by
          rw [List.getElem?_map] at hi
          cases e : ns[i]? with
          | none => rw [e] at hi; cases hi
          | some x => rw [e] at hi; exact ⟨x, rfl, (Option.some.inj hi).symm⟩
        have hi2 : i < ns.length := (List.getElem?_eq_some_iff.mp hx).1
        have nx := act_take hx
        have hsz : (Fr.act [] (ns.take i)).length ≤ 1000 := by
          have := act_len (ns.take i) []
          rw [List.length_take] at this
          simp at this
          omega
        have put : ∀ xs, Same H (L2.upd H1 l (.lst xs)) := fun xs b o e => by
          rw [upd_ne (ne_of_none e hl)]
          exact sm b o e
        refine ⟨_, rfl, _, .inl ⟨_, SqL.of hL, rfl⟩, ?_⟩
        cases est : Fr.act [] (ns.take i) with
        | nil =>
          rw [est] at hL nx
          refine iteF ?_
          refine iteF ?_
          refine ⟨_, rfl, .inl ⟨rfl, _, SqL.of hL⟩, _, rfl, l, _, _, rfl, rfl, hL, Evl.sz_lt (by simp), ?_⟩
          refine ⟨_, rfl, put _, ?_⟩
          rw [upd_same, nx]
          rfl
        | cons b t =>
          rw [est] at hL nx hsz
          have eL : iv (b :: t).reverse = iv t.reverse ++ [V.int b] := by simp [iv]
          refine iteT' (by simp [iv]) ?_
          refine ⟨_, rfl, _, rfl, l, _, _, _, rfl, rfl, SqL.of hL, (by rw [eL]; exact atI_last _ _), _, rfl, x, rfl, rfl, _, rfl, ?_⟩
          refine ite2 (fun hb => ?_) (fun hb => ?_)
          · have eb : b = -x := by
              have := of_decide_eq_true hb
              injection this
            refine ⟨_, rfl, .inl ⟨rfl, _, SqL.of hL⟩, l, _, V.int b, rfl, rfl, hL, (by rw [eL]; simp), ?_⟩
            refine ⟨_, rfl, put _, ?_⟩
            rw [upd_same, nx]
            have : Fr.push (b :: t) x = t := by simp [Fr.push, eb]
            rw [this, eL, List.dropLast_concat]
          · have eb : ¬ b = -x := fun e => hb (decide_eq_true (by rw [e]))
            refine ⟨_, rfl, .inl ⟨rfl, _, SqL.of hL⟩, _, rfl, l, _, _, rfl, rfl, hL, Evl.sz_lt (by simp [iv] at hsz ⊢; omega), ?_⟩
            refine ⟨_, rfl, put _, ?_⟩
            rw [upd_same, nx]
            have : Fr.push (b :: t) x = x :: b :: t := by simp [Fr.push, eb]
            rw [this]
            simp [iv]
      · rintro σ H1 ⟨v, rfl, sm, hL⟩
        rw [List.take_of_length_le (by simp)] at hL
        exact ⟨_, rfl, l, _, rfl, .inl ⟨SqL.of hL, fun p H3 s3 b3 => k p H3 (sm.trans s3) b3⟩⟩
end
end W09
set_option Elab.async false
set_option linter.all false
set_option maxRecDepth 100000
set_option maxHeartbeats 2000000
namespace W09
open PySem L2 PySem.Spec PyProof.Rows WR WB
section
variable {P : Program} {w : World} {K : PySem.W.Frag} {mg : Str → Option Value} {base : Heap}
theorem iteF' {c : Bool} {A B : Prop} (hc : c = false) (h : B) : if c = true then A else B := by rw [if_neg (by rw [hc]; exact Bool.false_ne_true)]; exact h
theorem iv_get {ns : List Int} {i : Nat} {x : Int} (h : ns[i]? = some x) : (iv ns)[i]? = some (V.int x) := by
  rw [List.getElem?_map, h]
  rfl
theorem con_get {u : List Int} {j : Nat} (h : j < u.length) : (Fr.con u)[u.length - 1 - j]? = some (-u[j]) := by
  unfold Fr.con
  rw [List.getElem?_map, List.getElem?_reverse (by omega)]
  have e : u.length - 1 - (u.length - 1 - j) = j := by omega
  rw [e, List.getElem?_eq_getElem h]
  rfl
theorem whole_len (u w : List Int) : (u ++ w ++ Fr.con u).length = 2 * u.length + w.length := by
  rw [List.length_append, List.length_append, Fr.con_length]
  omega
theorem whole_lo {u w : List Int} {j : Nat} (h : j < u.length) : (u ++ w ++ Fr.con u)[j]? = some u[j] := by
  rw [List.append_assoc, List.getElem?_append_left h, List.getElem?_eq_getElem h]
theorem whole_hi {u w : List Int} {j : Nat} (h : j < u.length) : (u ++ w ++ Fr.con u)[2 * u.length + w.length - 1 - j]? = some (-u[j]) := by
  rw [List.getElem?_append_right (by rw [List.length_append]; omega), List.length_append]
  have e : 2 * u.length + w.length - 1 - j - (u.length + w.length) = u.length - 1 - j := by omega
  rw [e, con_get h]
theorem mid_lo {u w : List Int} (hw : w ≠ []) : (u ++ w ++ Fr.con u)[u.length]? = w.head? := by
  have : 0 < w.length := List.length_pos_iff.mpr hw
  rw [List.append_assoc, List.getElem?_append_right (Nat.le_refl _), Nat.sub_self, List.getElem?_append_left this, List.head?_eq_getElem?]
theorem mid_hi {u w : List Int} (hw : w ≠ []) : (u ++ w ++ Fr.con u)[2 * u.length + w.length - 1 - u.length]? = w.getLast? := by
  have : 0 < w.length := List.length_pos_iff.mpr hw
  rw [List.append_assoc, List.getElem?_append_right (by omega)]
  have e : 2 * u.length + w.length - 1 - u.length - u.length = w.length - 1 := by omega
  rw [e, List.getElem?_append_left (by omega), List.getLast?_eq_getElem?]
theorem whole_cut (u w : List Int) : ((u ++ w ++ Fr.con u).drop u.length).take w.length = w := by
  rw [List.append_assoc, List.drop_left, List.take_left]
theorem scRnd : FnScope ["letters", "left", "skipped"] ["letters"] (defScope sRnd) := ⟨rfl, rfl, rfl, by decide +kernel, rfl, by decide +kernel, by decide +kernel⟩
theorem cut_nat {xs : List V} {i j : Nat} (hi : i ≤ xs.length) (hj : j ≤ xs.length) : cutV xs (some (i : Int)) (some (j : Int)) = (xs.drop i).take (j - i) := by
  unfold cutV
  rw [HT.sIx_nat, HT.sIx_nat, Nat.min_eq_left hi, Nat.min_eq_left hj]
theorem ok_rnd {f : Addr} {fd : FuncData} (F : Fun K "rounded_letters" "rounded_letters" sRnd f fd) (GS : Cal P w K mg base "shortened_letters" 1 ["letters"] (spShr K)) (T : TxA mg) : FnOk P w K mg base CX0 2 f fd ["letters"] (spRnd K) := by
  refine F.ok scRnd (fun vs H Q E h => ?_) (fun cdv A outer s H vs Q E hr h => ?_)
  · obtain ⟨a, ns, rfl, _⟩ := h
    rfl
  · obtain ⟨a, ns, rfl, hS, hlen, nz, k⟩ := h
    refine ⟨_, pss_cons (ps_set (i := 1) scRnd.nd rfl (Or.inl rfl) (pe_cal GS hr (by decide) (by rfl) (pa_cons (pv 0) pa_nil)))
      (pss_cons (ps_set (i := 2) scRnd.nd rfl (Or.inl rfl) pe_int)
      (pss_cons (ps_while PassesOwn.never (PW.pt (pw_and (pt_cmpR op_lt (pe_op op_mul pe_int (pv 2)) (pe_callB call_len_seq (by rfl) T.len PySem.boot_len (pa_cons (pv 1) pa_nil)) (nomark _))
          (pw_and1 (pt_cmpR op_eq (pe_ix ix_tup (pv 1) (pv 2) (fun _ _ => rfl)) (pe_un un_neg (pe_ix ix_tup (pv 1) (pe_op op_sub (pe_op op_sub (pe_callB call_len_seq (by rfl) T.len PySem.boot_len (pa_cons (pv 1) pa_nil)) pe_int) (pv 2)) (fun _ _ => rfl))) (nomark _)))))
        (pss_one (ps_aug (i := 2) scRnd.nd rfl (Or.inl rfl) pe_int ip_add)))
      (pss_one (ps_ret (pe_slice sl_tupB (pv 1) (po_some (pv 2)) (po_some (pe_op op_sub (pe_callB call_len_seq (by rfl) T.len PySem.boot_len (pa_cons (pv 1) pa_nil)) (pv 2)))))))), ?_⟩
    refine ⟨_, rfl, a, ns, rfl, hS, hlen, fun p H1 sm hPB => ?_⟩
    obtain ⟨u, m, e, c, z⟩ := Fr.parted (Fr.shr ns) nz.shr (Fr.rd_shr ns)
    have er : Fr.rnd ns = m := by
      unfold Fr.rnd
      rw [e, Fr.ends_eq c z]
    rw [er] at k
    have hl := shr_len ns
    rw [e] at hPB hl
    have hP := hPB.sq
    rw [whole_len] at hl
    have L : (iv (u ++ m ++ Fr.con u)).length = 2 * u.length + m.length := by rw [List.length_map, whole_len]
    refine ⟨fun n σ H' => ∃ j, n = u.length - j ∧ j ≤ u.length ∧ σ = [some (.ref a), some (.ref p), some (.int ((j : Nat) : Int))] ∧ H' = H1, ⟨_, 0, rfl, Nat.zero_le _, rfl, rfl⟩, ?_⟩
    rintro n σ H' ⟨j, rfl, hj, rfl, rfl⟩
    refine ⟨_, rfl, _, _, rfl, rfl, .inl ⟨by decide, by decide⟩, _, rfl, p, _, rfl, .inr hP, _, _, rfl, rfl, _, rfl, ?_⟩
    have hback : ((iv (u ++ m ++ Fr.con u)).length : Int) - 1 - (j : Int) = ((2 * u.length + m.length - 1 - j : Nat) : Int) ∨ 2 * u.length + m.length = 0 := by
      rw [L]
      by_cases h0 : 2 * u.length + m.length = 0
      · exact .inr h0
      · left; omega
    by_cases hlt : j < u.length
    · refine iteT' (decide_eq_true (by rw [L]; omega)) ?_
      have hb := hback.resolve_right (by omega)
      refine ⟨_, rfl, _, rfl, p, _, _, _, rfl, rfl, hP, atI_nat (iv_get (whole_lo hlt)), ?_⟩
      refine ⟨_, rfl, _, rfl, p, _, rfl, .inr hP, _, _, rfl, rfl, _, rfl, _, _, rfl, rfl, p, _, _, _, rfl, rfl, hP, (by rw [hb]; exact atI_nat (iv_get (whole_hi hlt))), _, rfl, rfl, _, rfl, ?_⟩
      refine iteT' (decide_eq_true (by show V.int _ = V.int (- -_); rw [Int.neg_neg])) ?_
      refine ⟨fun σ' H'' => ∃ j', u.length - (j + 1) = u.length - j' ∧ j' ≤ u.length ∧ σ' = [some (.ref a), some (.ref p), some (.int ((j' : Nat) : Int))] ∧ H'' = H', fun σ' H'' ⟨j', q1, q2, q3, q4⟩ => ⟨_, by omega, j', q1, q2, q3, q4⟩, ?_⟩
      refine ⟨_, rfl, _, _, rfl, rfl, ?_⟩
      exact ⟨j + 1, rfl, hlt, by rfl, rfl⟩
    · have hj2 : j = u.length := by omega
      subst hj2
      have fin : NewB K H' Q (cutV (iv (u ++ m ++ Fr.con u)) (some ((u.length : Nat) : Int)) (some (((iv (u ++ m ++ Fr.con u)).length : Int) - ((u.length : Nat) : Int)))) := by
        have e1 : ((iv (u ++ m ++ Fr.con u)).length : Int) - ((u.length : Nat) : Int) = ((u.length + m.length : Nat) : Int) := by rw [L]; omega
        rw [e1, cut_nat (by rw [L]; omega) (by rw [L]; omega)]
        have e2 : u.length + m.length - u.length = m.length := by omega
        rw [e2]
        have e3 : ((iv (u ++ m ++ Fr.con u)).drop u.length).take m.length = iv m := by
          rw [← List.map_drop, ← List.map_take, whole_cut]
        rw [e3]
        exact fun q H2 s2 h2 => k q H2 (sm.trans s2) h2
      by_cases hm : m = []
      · have hu := z hm
        refine iteF' (decide_eq_false (by rw [L, hm, hu]; simp)) ?_
        refine iteF ?_
        exact ⟨_, rfl, _, rfl, _, rfl, _, rfl, p, _, rfl, .inr hP, _, rfl, _, _, rfl, rfl, _, rfl, p, _, rfl, hPB, fin⟩
      · refine iteT' (decide_eq_true (by have := List.length_pos_iff.mpr hm; rw [L]; omega)) ?_
        have hb := hback.resolve_right (by have := List.length_pos_iff.mpr hm; omega)
        obtain ⟨x, hx⟩ : ∃ x, m.head? = some x := by
          cases m with
          | nil => exact absurd rfl hm
          | cons x t => exact ⟨x, rfl⟩
        obtain ⟨y, hy⟩ : ∃ y, m.getLast? = some y := ⟨_, List.getLast?_eq_some_getLast hm⟩
        have lo := (mid_lo (u := u) hm).trans hx
        have hi := (mid_hi (u := u) hm).trans hy
        refine ⟨_, rfl, _, rfl, p, _, _, _, rfl, rfl, hP, atI_nat (iv_get lo), ?_⟩
        refine ⟨_, rfl, _, rfl, p, _, rfl, .inr hP, _, _, rfl, rfl, _, rfl, _, _, rfl, rfl, p, _, _, _, rfl, rfl, hP, (by rw [hb]; exact atI_nat (iv_get hi)), _, rfl, rfl, _, rfl, ?_⟩
        refine iteF' (decide_eq_false fun q => ?_) ?_
        · have q2 : V.int x = V.int (-y) := q
          injection q2 with q3
          exact c.2 x y hx hy q3
        exact ⟨_, rfl, _, rfl, _, rfl, _, rfl, p, _, rfl, .inr hP, _, rfl, _, _, rfl, rfl, _, rfl, p, _, rfl, hPB, fin⟩
end
end W09
set_option Elab.async false
set_option linter.all false
set_option maxRecDepth 100000
set_option maxHeartbeats 2000000
namespace W09
open PySem L2 PySem.Spec PyProof.Rows WR WS WR WB
abbrev sKinds : Stmt := top 26
theorem pigeon : ∀ (m : Nat) (L : List Int), L.Nodup → (∀ k ∈ L, 1 ≤ k ∧ k ≤ (m : Int)) → L.length ≤ m
  | 0, L, _, h => by
    cases L with
    | nil => simp
    | cons a t =>
      have := h a (by simp)
      omega
  | m + 1, L, nd, h => by
    by_cases hm : ((m + 1 : Nat) : Int) ∈ L
    · have ih := pigeon m (L.erase ((m + 1 : Nat) : Int)) (nd.erase _) fun k hk => by
        have h1 := (nd.mem_erase_iff).mp hk
        have h2 := h k h1.2
        have h3 := h1.1
        omega
      rw [List.length_erase_of_mem hm] at ih
      omega
    · have ih := pigeon m L nd fun k hk => by
        have h2 := h k hk
        have : k ≠ ((m + 1 : Nat) : Int) := fun e => hm (e ▸ hk)
        omega
      omega
theorem sci {w : World} {J : It} {xs : List V} {G : Hp → Prop} (wk : Walk J xs.length G (YAt xs)) {g : TG} {tt : TT} {te : TE} {vs : List Nat} {σ : L2.St} {H1 : Hp} {Q : VK} (v : V → Int)
    (hv : ∀ x ∈ xs, 1 ≤ v x ∧ v x ≤ 26) (hG : ∀ H, Same H1 H → G H)
    (hs : ∀ x, x ∈ xs → ∀ H, Same H1 H → ∀ (Qy : V → Hp → Prop) (Qn : Hp → Prop), Qy (.int (v x)) H →
      g x (wipe σ vs) H fun σ2 H2 => wipe σ2 vs = wipe σ vs ∧ tt σ2 H2 fun b H3 => if b = true then te σ2 H3 Qy else Qn H3)
    (hd : ∀ (D : Addr) (S : Int → Bool) (n : Nat) H', H1 D = none → Same H1 H' → H' D = some (SetO w D S n) → n ≤ 26 → (∀ k, S k = true ↔ ∃ x ∈ xs, k = v x) → Q (.ref D) H') : tSetI w (fun _ H R => R J H) g tt te vs σ H1 Q := by
  intro D hD
  refine ⟨fun i m H => m = xs.length - i ∧ i ≤ xs.length ∧ Same H1 H ∧ ∃ (S : Int → Bool) (L : List Int), H D = some (SetO w D S L.length) ∧ L.Nodup ∧ (∀ k, S k = true ↔ k ∈ L) ∧ ∀ k, k ∈ L ↔ ∃ x ∈ xs.take i, k = v x, ?_, ?_⟩
  · refine ⟨_, rfl, Nat.zero_le _, same_upd hD, fun _ => false, [], by rw [upd_same]; rfl, List.nodup_nil, fun k => by simp, fun k => by simp⟩
  · rintro i m H ⟨rfl, hi, sm, S, L, hS, nd, hL, hm⟩
    have bound : L.length ≤ 26 := pigeon 26 L nd fun k hk => by
      obtain ⟨x, hx, e⟩ := (hm k).mp hk
      have := hv x (List.mem_of_mem_take hx)
      omega
    by_cases hlt : i < xs.length
    · right
      refine ⟨wk.goes i H hlt (hG H sm), fun H' => Same H1 H' ∧ ∃ (S : Int → Bool) (L : List Int), H' D = some (SetO w D S L.length) ∧ L.Nodup ∧ (∀ k, S k = true ↔ k ∈ L) ∧ ∀ k, k ∈ L ↔ ∃ x ∈ xs.take (i + 1), k = v x, ?_, ?_⟩
      · rintro H' ⟨s2, q⟩
        exact ⟨xs.length - (i + 1), by omega, rfl, hlt, s2, q⟩
      · intro x H' hy
        obtain ⟨rfl, hx⟩ := wk.yields i H x H' hlt (hG H sm) hy
        have hmem : x ∈ xs := List.mem_of_getElem? hx
        have et : xs.take (i + 1) = xs.take i ++ [x] := by
          have hx2 : xs[i] = x := (List.getElem?_eq_some_iff.mp hx).2
          rw [List.take_succ_eq_append_getElem hlt, hx2]
        refine hs x hmem H' sm _ _ ?_
        refine ⟨D, v x, S, L.length, rfl, rfl, hS, ?_, ?_⟩
        · have : scanBound = 40000 ∨ 64 < scanBound := by right; decide
          have h64 : 64 < scanBound := by decide
          omega
        refine ⟨fun b o e => by rw [upd_ne (ne_of_none e hD)]; exact sm b o e, fun j => S j || decide (j = v x), if S (v x) = true then L else v x :: L, ?_, ?_, ?_, ?_⟩
        · rw [upd_same]
          by_cases c : S (v x) = true
          · rw [if_pos c, if_pos c]
          · rw [if_neg c, if_neg c]; rfl
        · by_cases c : S (v x) = true
          · rw [if_pos c]; exact nd
          · rw [if_neg c]
            exact List.nodup_cons.mpr ⟨fun h => c ((hL _).mpr h), nd⟩
        · intro k
          rw [Bool.or_eq_true, decide_eq_true_eq]
          by_cases c : S (v x) = true
          · rw [if_pos c, ← hL]
            constructor
            · rintro (h | rfl)
              · exact h
              · exact c
            · exact .inl
          · rw [if_neg c, List.mem_cons, ← hL]
            exact or_comm
        · intro k
          have e : (k ∈ if S (v x) = true then L else v x :: L) ↔ (k = v x ∨ k ∈ L) := by
            by_cases c : S (v x) = true
            · rw [if_pos c]
              constructor
              · exact .inr
              · rintro (rfl | h)
                · exact (hL _).mp c
                · exact h
            · rw [if_neg c, List.mem_cons]
          rw [e, hm, et]
          constructor
          · rintro (rfl | ⟨y, hy, rfl⟩)
            · exact ⟨x, by simp, rfl⟩
            · exact ⟨y, by simp [hy], rfl⟩
          · rintro ⟨y, hy, rfl⟩
            rw [List.mem_append, List.mem_singleton] at hy
            rcases hy with hy | rfl
            · exact .inr ⟨y, hy, rfl⟩
            · exact .inl rfl
    · left
      have hi2 : i = xs.length := by omega
      subst hi2
      rw [List.take_length] at hm
      exact ⟨wk.stops H (hG H sm), hd D S L.length H hD sm hS bound fun k => (hL k).trans (hm k)⟩
def kindsOk (ns ks : List Int) : Prop := ks.Pairwise (· < ·) ∧ ∀ k : Int, k ∈ ks ↔ ∃ x ∈ ns, k = (x.natAbs : Int)
/-- every letter of a kind from 1 to 26 -/
def Lts (ns : List Int) : Prop := ∀ x ∈ ns, 1 ≤ x.natAbs ∧ x.natAbs ≤ 26
def spKinds (K : PySem.W.Frag) : Sp := fun vs H Q _ => ∃ (a : Addr) (ns : List Int), vs = [.ref a] ∧ SqE K H a (iv ns) ∧ ns.length ≤ 1000 ∧ Lts ns ∧ ∀ ks, kindsOk ns ks → NewT K H Q (iv ks)
structure TxB (mg : Str → Option Value) : Prop where
  sorted : mg "sorted" = none
  abs : mg "abs" = none
section
variable {P : Program} {w : World} {K : PySem.W.Frag} {mg : Str → Option Value} {base : Heap}
theorem scKinds : FnScope ["letters", "letter"] ["letters"] (defScope sKinds) := ⟨rfl, rfl, rfl, by decide +kernel, rfl, by decide +kernel, by decide +kernel⟩
theorem ok_kinds {f : Addr} {fd : FuncData} (F : Fun K "kinds_of" "kinds_of" sKinds f fd) (T : TxA mg) (T2 : TxB mg) : FnOk P w K mg base CX0 1 f fd ["letters"] (spKinds K) := by
  refine F.ok scKinds (fun vs H Q E h => ?_) (fun cdv A outer s H vs Q E hr h => ?_)
  · obtain ⟨a, ns, rfl, _⟩ := h
    rfl
  · obtain ⟨a, ns, rfl, hS, hlen, hk, k⟩ := h
    have fin : ∀ (D : Addr) (S : Int → Bool) (n : Nat) H', H D = none → Same H H' → H' D = some (SetO w D S n) → n ≤ 26 → (∀ k, S k = true ↔ ∃ x ∈ iv ns, k = (match x with | .int i => (i.natAbs : Int) | _ => 0)) →
        rSortedSet w [.ref D] H' fun x H2 => ∃ p ys, [x] = [V.ref p] ∧ ((SqL K H2 p ys ∧ ∀ l, H2 l = none → Q (.ref l) (L2.upd H2 l (.tup ys))) ∨ (SqT K H2 p ys ∧ Q (.ref p) H2)) := by
      intro D S n H' hD sm hS hn hm
      refine ⟨D, S, n, rfl, hS, by omega, fun ks p up mem _ hp => ?_⟩
      refine ⟨p, _, rfl, .inl ⟨SqL.of upd_same, fun l hl => ?_⟩⟩
      refine k ks ⟨up, fun j => ?_⟩ l _ ((sm.trans (same_upd hp)).trans (same_upd hl)) (SqT.of upd_same)
      rw [mem, hm]
      constructor
      · rintro ⟨x, hx, e⟩
        obtain ⟨i, hi, rfl⟩ := List.mem_map.mp hx
        exact ⟨i, hi, e⟩
      · rintro ⟨i, hi, e⟩
        exact ⟨_, List.mem_map_of_mem hi, e⟩
    have turn : ∀ x, x ∈ iv ns → ∀ H2, Same H H2 → ∀ (Qy : V → Hp → Prop) (Qn : Hp → Prop), Qy (.int (match x with | .int i => (i.natAbs : Int) | _ => 0)) H2 →
        gName 1 x (wipe [some (.ref a), none] [1]) H2 fun σ2 H2 => wipe σ2 [1] = wipe [some (.ref a), none] [1] ∧ tYes σ2 H2 fun b H3 => if b = true then tCB (fun xs H Q => ∃ i, xs = [.int i] ∧ Q (.int (if i < 0 then -i else i)) H) (tCons (tVar 1) tNil) σ2 H3 Qy else Qn H3 := by
      intro x hx H2 s2 Qy Qn ky
      obtain ⟨i, hi, rfl⟩ := List.mem_map.mp hx
      refine ⟨rfl, yes_te ⟨_, rfl, i, rfl, ?_⟩⟩
      have e : (if i < 0 then -i else i) = (i.natAbs : Int) := by split <;> omega
      rw [e]
      exact ky
    have bd : ∀ x ∈ iv ns, 1 ≤ (match x with | .int i => (i.natAbs : Int) | _ => 0) ∧ (match x with | .int i => (i.natAbs : Int) | _ => 0) ≤ 26 := by
      intro x hx
      obtain ⟨i, hi, rfl⟩ := List.mem_map.mp hx
      have := hk i hi
      show 1 ≤ (i.natAbs : Int) ∧ (i.natAbs : Int) ≤ 26
      omega
    rcases hS with hS | hS
    · refine ⟨_, pss_one (ps_ret (pe_callTy call_tuple_of (by rfl) T.tuple (by decide +kernel) (pa_cons (pe_callB (cr_sortedSet rfl) (by rfl) T2.sorted (by decide +kernel) (pa_cons (pe_setI (own := [("letter", 1)]) (g := gName 1) (tt := tYes) rfl scKinds.nd (pi_list (pv 0))
        (blkOk_by (N := ["letters", "letter"]) (sc := defScope sKinds) (by decide +kernel)) (fun _ _ _ _ _ => pg_name (i := 1) scKinds.nd rfl (Or.inl rfl)) (fun _ _ _ _ _ => pts_nil)
        (fun _ _ _ _ _ => pe_callB call_abs (by rfl) T2.abs (by decide +kernel) (pa_cons (pv 1) pa_nil))) pa_nil)) pa_nil))), ?_⟩
      refine ⟨_, rfl, a, rfl, ⟨_, hS⟩, ?_⟩
      exact sci (walk_list (xs := iv ns)) _ bd (fun H2 s2 => s2.seq hS) turn fin
    · refine ⟨_, pss_one (ps_ret (pe_callTy call_tuple_of (by rfl) T.tuple (by decide +kernel) (pa_cons (pe_callB (cr_sortedSet rfl) (by rfl) T2.sorted (by decide +kernel) (pa_cons (pe_setI (own := [("letter", 1)]) (g := gName 1) (tt := tYes) rfl scKinds.nd (pi_tup (pv 0))
        (blkOk_by (N := ["letters", "letter"]) (sc := defScope sKinds) (by decide +kernel)) (fun _ _ _ _ _ => pg_name (i := 1) scKinds.nd rfl (Or.inl rfl)) (fun _ _ _ _ _ => pts_nil)
        (fun _ _ _ _ _ => pe_callB call_abs (by rfl) T2.abs (by decide +kernel) (pa_cons (pv 1) pa_nil))) pa_nil)) pa_nil))), ?_⟩
      refine ⟨_, rfl, a, rfl, ⟨_, hS⟩, ?_⟩
      exact sci (walk_tup (xs := iv ns)) _ bd (fun H2 s2 => WR.Same.seqT s2 hS) turn fin
end
end W09
set_option Elab.async false
set_option linter.all false
set_option maxRecDepth 100000
set_option maxHeartbeats 2000000
namespace W09
open PySem L2 PySem.Spec PyProof.Rows WR WB
abbrev sIsInt : Stmt := top 13
abbrev sWithin : Stmt := top 14
abbrev sLetter : Stmt := top 15
abbrev sListed : Stmt := top 16
abbrev sNeedW : Stmt := top 40
abbrev sFew : Stmt := top 41
/-! ### values and their classes -/
inductive Typ (H : Hp) : V → String → Prop
  | int (i : Int) : Typ H (.int i) "int"
  | bl (b : Bool) : Typ H (.bl b) "bool"
  | str (z : Str) : Typ H (.str z) "str"
  | non : Typ H .non "NoneType"
  | lst {p : Addr} {xs : List V} (e : H p = some (.lst xs)) : Typ H (.ref p) "list"
  | tup {p : Addr} {xs : List V} (e : H p = some (.tup xs)) : Typ H (.ref p) "tuple"
  | dct {p : Addr} {kvs : List (Key × V)} (e : H p = some (.dK kvs)) : Typ H (.ref p) "dict"
def isI : V → Bool
  | .int _ => true
  | _ => false
def isB : V → Bool
  | .bl _ => true
  | _ => false
def isS : V → Bool
  | .str _ => true
  | _ => false
theorem Typ.same {H H' : Hp} {x : V} {t : String} (h : Typ H x t) (s : Same H H') : Typ H' x t := by
  cases h with
  | int i => exact .int i
  | bl b => exact .bl b
  | str z => exact .str z
  | non => exact .non
  | lst e => exact .lst (s _ _ e)
  | tup e => exact .tup (s _ _ e)
  | dct e => exact .dct (s _ _ e)
theorem Typ.ty {K : PySem.W.Frag} {H : Hp} {x : V} {t : String} (h : Typ H x t) : TyX K H x (.type t) := by
  cases h with
  | int i => exact .base (.int i)
  | bl b => exact .base (.bl b)
  | str z => exact .base (.str z)
  | non => exact .base .non
  | lst e => exact .base (.lst e)
  | tup e => exact .base (.tup e)
  | dct e => exact .base (.dK e)
theorem Typ.kInt {K : PySem.W.Frag} {H : Hp} {x : V} {t : String} (h : Typ H x t) : PySem.W.kitOne K (.type t) (.type "int") = some (isI x || isB x) := by
  cases h <;> first | exact kit_ty (show kitB _ _ = some true by decide +kernel) | exact kit_ty (show kitB _ _ = some false by decide +kernel)
theorem Typ.kBool {K : PySem.W.Frag} {H : Hp} {x : V} {t : String} (h : Typ H x t) : PySem.W.kitOne K (.type t) (.type "bool") = some (isB x) := by
  cases h <;> first | exact kit_ty (show kitB _ _ = some true by decide +kernel) | exact kit_ty (show kitB _ _ = some false by decide +kernel)
theorem Typ.kStr {K : PySem.W.Frag} {H : Hp} {x : V} {t : String} (h : Typ H x t) : PySem.W.kitOne K (.type t) (.type "str") = some (isS x) := by
  cases h <;> first | exact kit_ty (show kitB _ _ = some true by decide +kernel) | exact kit_ty (show kitB _ _ = some false by decide +kernel)
theorem Typ.kTup {K : PySem.W.Frag} {H : Hp} {x : V} {t : String} (h : Typ H x t) : PySem.W.kitOne K (.type t) (.type "tuple") = some (t == "tuple") := by
  cases h <;> first | exact kit_ty (show kitB _ _ = some true by decide +kernel) | exact kit_ty (show kitB _ _ = some false by decide +kernel)
theorem Typ.kList {K : PySem.W.Frag} {H : Hp} {x : V} {t : String} (h : Typ H x t) : PySem.W.kitOne K (.type t) (.type "list") = some (t == "list") := by
  cases h <;> first | exact kit_ty (show kitB _ _ = some true by decide +kernel) | exact kit_ty (show kitB _ _ = some false by decide +kernel)
theorem Typ.kSeq {K : PySem.W.Frag} {H : Hp} {x : V} {t : String} (h : Typ H x t) : PySem.W.kitAny K (.type t) [.type "list", .type "tuple"] = some (t == "list" || t == "tuple") := by
  refine kitAny_cons h.kList (fun e => ?_) (fun e => by rw [e]; rfl)
  refine kitAny_cons h.kTup (fun e2 => ?_) (fun e2 => by rw [e2]; simp)
  rw [kitAny_nil, e, e2]
  rfl

def spIsInt : Sp := fun vs H Q _ => ∃ (x : V) (t : String), vs = [x] ∧ Typ H x t ∧ Q (.bl (isI x)) H
structure TxI (mg : Str → Option Value) : Prop where
  isin : mg "isinstance" = none
  int : mg "int" = none
  bool : mg "bool" = none
  str : mg "str" = none
  list : mg "list" = none
  tuple : mg "tuple" = none
section
variable {P : Program} {w : World} {K : PySem.W.Frag} {mg : Str → Option Value} {base : Heap}
theorem scIsInt : FnScope ["value"] ["value"] (defScope sIsInt) := ⟨rfl, rfl, rfl, by decide +kernel, rfl, by decide +kernel, by decide +kernel⟩
theorem ok_isInt {f : Addr} {fd : FuncData} (F : Fun K "is_integer" "is_integer" sIsInt f fd) (T : TxI mg) : FnOk P w K mg base CX0 1 f fd ["value"] spIsInt := by
  refine F.ok scIsInt (fun vs H Q E h => ?_) (fun cdv A outer s H vs Q E hr h => ?_)
  · obtain ⟨x, t, rfl, _⟩ := h
    rfl
  · obtain ⟨x, t, rfl, ht, k⟩ := h
    refine ⟨_, pss_one (ps_ret (pe_and (pe_callB call_isi (by rfl) T.isin (by decide +kernel) (pa_cons (pv 0) (pa_cons (pe_bltn (v := .ty "int") (by rfl) T.int (by decide +kernel) rfl) pa_nil)))
      (pe_one (pe_not (pe_callB call_isi (by rfl) T.isin (by decide +kernel) (pa_cons (pv 0) (pa_cons (pe_bltn (v := .ty "bool") (by rfl) T.bool (by decide +kernel) rfl) pa_nil))))))), ?_⟩
    refine ⟨_, rfl, x, _, _, _, _, rfl, .ty _, ht.ty, ht.kInt, _, rfl, ?_⟩
    refine ite2 (fun hi => ?_) (fun hn => ?_)
    · refine ⟨_, rfl, x, _, _, _, _, rfl, .ty _, ht.ty, ht.kBool, _, rfl, ?_⟩
      have e : (!isB x) = isI x := by cases ht <;> first | rfl | exact absurd hi Bool.false_ne_true
      show Q (.bl (!isB x)) H
      rw [e]
      exact k
    · have e : isI x = false := by cases ht <;> first | rfl | exact absurd rfl hn
      show Q (.bl false) H
      rw [← e]
      exact k
end
def Bnd (v : V) : Prop := v = .non ∨ ∃ i, v = .int i
def geB (i : Int) : V → Bool
  | .int a => decide (a ≤ i)
  | _ => true
def leB (i : Int) : V → Bool
  | .int b => decide (i ≤ b)
  | _ => true
def within : V → V → V → Bool
  | .int i, l, m => geB i l && leB i m
  | _, _, _ => false
def spWithin : Sp := fun vs H Q _ => ∃ (x l m : V) (t : String), vs = [x, l, m] ∧ Typ H x t ∧ Bnd l ∧ Bnd m ∧ Q (.bl (within x l m)) H
def letterB : V → Bool
  | .int i => (decide (-26 ≤ i) && decide (i ≤ 26)) && !decide (i = 0)
  | _ => false
def spLetter : Sp := fun vs H Q _ => ∃ (x : V) (t : String), vs = [x] ∧ Typ H x t ∧ Q (.bl (letterB x)) H
def spListed : Sp := fun vs H Q _ => ∃ (x : V) (t : String), vs = [x] ∧ Typ H x t ∧ ∀ H', Same H H' → Q (.bl (t == "list" || t == "tuple")) H'
structure TxC (mg : Str → Option Value) : Prop where
  kind : ∃ t, mg "MOST_KIND" = some (.int 26 t)
  all : mg "all" = none
section
variable {P : Program} {w : World} {K : PySem.W.Frag} {mg : Str → Option Value} {base : Heap}
theorem scWithin : FnScope ["value", "least", "most"] ["value", "least", "most"] (defScope sWithin) := ⟨rfl, rfl, rfl, by decide +kernel, rfl, by decide +kernel, by decide +kernel⟩
theorem ok_within {f : Addr} {fd : FuncData} (F : Fun K "is_within" "is_within" sWithin f fd) (GI : Cal P w K mg base "is_integer" 1 ["value"] spIsInt) : FnOk P w K mg base CX0 2 f fd ["value", "least", "most"] spWithin := by
  refine F.ok scWithin (fun vs H Q E h => ?_) (fun cdv A outer s H vs Q E hr h => ?_)
  · obtain ⟨x, l, m, t, rfl, _⟩ := h
    rfl
  · obtain ⟨x, l, m, t, rfl, ht, hl, hm, k⟩ := h
    refine ⟨_, pss_cons (ps_if (pt_not (pt_val (pe_cal GI hr (by decide) (by rfl) (pa_cons (pv 0) pa_nil)))) (pss_one (ps_ret pe_bl)) pss_nil)
      (pss_one (ps_ret (pe_and (pe_or (pe_cmpR op_isN (pv 1) pe_non (nomark _)) (pe_one (pe_cmpR op_ge (pv 0) (pv 1) (nomark _)))) (pe_one (pe_or (pe_cmpR op_isN (pv 2) pe_non (nomark _)) (pe_one (pe_cmpR op_le (pv 0) (pv 2) (nomark _)))))))), ?_⟩
    refine ⟨_, rfl, x, t, rfl, ht, _, rfl, ?_⟩
    refine ite2 (fun hn => ?_) (fun hi => ?_)
    · have e : within x l m = false := by cases ht <;> first | rfl | exact absurd hn Bool.false_ne_true
      rw [e] at k
      exact k
    · obtain ⟨i, rfl⟩ : ∃ i, x = .int i := by cases ht <;> first | exact ⟨_, rfl⟩ | exact absurd rfl hi
      -- the second half, whatever the first one says
      have half : ∀ H1 : Hp, H1 = H → ∀ Q1 : VK, Q1 (.bl (leB i m)) H1 → tOrV (tOp (fun x y H Q => y = .non ∧ Q (.bl (decide (x = .non))) H) (tVar 2) (tC .non)) (tOp (rI0 fun i j => .bl (decide (i ≤ j))) (tVar 0) (tVar 2)) [some (.int i), some l, some m] H1 Q1 := by
        intro H1 _ Q1 q
        rcases hm with rfl | ⟨b, rfl⟩
        · exact ⟨_, rfl, rfl, _, rfl, iteT q⟩
        · exact ⟨_, rfl, rfl, _, rfl, iteF ⟨_, rfl, _, rfl, _, _, rfl, rfl, q⟩⟩
      rcases hl with rfl | ⟨a, rfl⟩
      · refine ⟨_, rfl, rfl, _, rfl, iteT ⟨_, rfl, iteT (half H rfl _ ?_)⟩⟩
        exact k
      · refine ⟨_, rfl, rfl, _, rfl, iteF ⟨_, rfl, _, rfl, _, _, rfl, rfl, _, rfl, ?_⟩⟩
        refine ite2 (fun hg => half H rfl _ ?_) (fun hg => ?_)
        · have e : within (.int i) (.int a) m = leB i m := by
            show (decide (a ≤ i) && leB i m) = leB i m
            rw [hg]
            rfl
          rw [e] at k
          exact k
        · have e : within (.int i) (.int a) m = false := by
            show (decide (a ≤ i) && leB i m) = false
            rw [Bool.eq_false_iff.mpr hg]
            rfl
          rw [e] at k
          exact k
theorem scLetter : FnScope ["value"] ["value"] (defScope sLetter) := ⟨rfl, rfl, rfl, by decide +kernel, rfl, by decide +kernel, by decide +kernel⟩
theorem ok_letter {f : Addr} {fd : FuncData} (F : Fun K "is_letter" "is_letter" sLetter f fd) (GW : Cal P w K mg base "is_within" 2 ["value", "least", "most"] spWithin) (T : TxC mg) : FnOk P w K mg base CX0 3 f fd ["value"] spLetter := by
  refine F.ok scLetter (fun vs H Q E h => ?_) (fun cdv A outer s H vs Q E hr h => ?_)
  · obtain ⟨x, t, rfl, _⟩ := h
    rfl
  · obtain ⟨x, t, rfl, ht, k⟩ := h
    obtain ⟨tk, mK⟩ := T.kind
    refine ⟨_, pss_one (ps_ret (pe_and (pe_cal GW hr (by decide) (by rfl) (pa_cons (pv 0) (pa_cons (pe_un un_neg (pe_glob (v := .int 26) (by rfl) mK ⟨_, rfl⟩)) (pa_cons (pe_glob (v := .int 26) (by rfl) mK ⟨_, rfl⟩) pa_nil)))) (pe_one (pe_cmpR op_ne (pv 0) pe_int (nomark _))))), ?_⟩
    refine ⟨_, rfl, _, rfl, x, _, _, t, rfl, ht, .inr ⟨_, rfl⟩, .inr ⟨_, rfl⟩, _, rfl, ?_⟩
    refine ite2 (fun hi => ?_) (fun hn => ?_)
    · obtain ⟨i, rfl⟩ : ∃ i, x = .int i := by cases ht <;> first | exact ⟨_, rfl⟩ | exact absurd hi Bool.false_ne_true
      refine ⟨_, rfl, rfl, ?_⟩
      have e : letterB (.int i) = !decide (V.int i = V.int 0) := by
        have h2 : (decide (-26 ≤ i) && decide (i ≤ 26)) = true := hi
        show ((decide (-26 ≤ i) && decide (i ≤ 26)) && !decide (i = 0)) = _
        rw [h2, Bool.true_and]
        congr 1
        by_cases h0 : i = 0
        · subst h0; rfl
        · rw [decide_eq_false h0, decide_eq_false (fun q => h0 (by injection q))]
      rw [e] at k
      exact k
    · have e : letterB x = false := by
        cases ht with
        | int i =>
          have h2 : (decide (-26 ≤ i) && decide (i ≤ 26)) = false := Bool.eq_false_iff.mpr hn
          show ((decide (-26 ≤ i) && decide (i ≤ 26)) && !decide (i = 0)) = false
          rw [h2]
          rfl
        | _ => rfl
      rw [e] at k
      exact k
theorem scListed : FnScope ["value"] ["value"] (defScope sListed) := ⟨rfl, rfl, rfl, by decide +kernel, rfl, by decide +kernel, by decide +kernel⟩
theorem ok_listed {f : Addr} {fd : FuncData} (F : Fun K "is_listed" "is_listed" sListed f fd) (T : TxI mg) : FnOk P w K mg base CX0 1 f fd ["value"] spListed := by
  refine F.ok scListed (fun vs H Q E h => ?_) (fun cdv A outer s H vs Q E hr h => ?_)
  · obtain ⟨x, t, rfl, _⟩ := h
    rfl
  · obtain ⟨x, t, rfl, ht, k⟩ := h
    refine ⟨_, pss_one (ps_ret (pe_callB call_isiT (by rfl) T.isin (by decide +kernel) (pa_cons (pv 0) (pa_cons (pe_tup (pa_cons (pe_bltn (v := .ty "list") (by rfl) T.list (by decide +kernel) rfl) (pa_cons (pe_bltn (v := .ty "tuple") (by rfl) T.tuple (by decide +kernel) rfl) pa_nil))) pa_nil)))), ?_⟩
    refine ⟨_, rfl, (by show 2 ≤ sizeLine; decide), fun p hp => ?_⟩
    have sm : Same H (upd H p (.tup [.ty "list", .ty "tuple"])) := fun b o e => by rw [upd_ne (ne_of_none e hp)]; exact e
    exact ⟨x, p, _, _, _, _, rfl, upd_same, .cons (.ty _) (.cons (.ty _) .nil), (ht.same sm).ty, (ht.same sm).kSeq, k _ sm⟩
end
end W09
set_option Elab.async false
set_option linter.all false
set_option maxRecDepth 100000
set_option maxHeartbeats 2000000
namespace W09
open PySem L2 PySem.Spec PyProof.Rows WR WB
abbrev sInit : Stmt := inClass (top 42) 0
theorem SqL.tyx {K : PySem.W.Frag} {H : Hp} {a : Addr} {xs : List V} (h : SqL K H a xs) : TyX K H (.ref a) (.type "list") := by
  rcases h with h | ⟨o, its, n, e, c, _⟩
  · rcases h with h | ⟨o, h⟩
    · exact .base (.lst h)
    · exact .base (.frz h)
  · exact .kList e c
theorem SqT.tyx {K : PySem.W.Frag} {H : Hp} {a : Addr} {xs : List V} (h : SqT K H a xs) : TyX K H (.ref a) (.type "tuple") := by
  rcases h with h | ⟨o, its, n, e, c, _⟩
  · rcases h with h | ⟨o, h⟩
    · exact .base (.tup h)
    · exact .fTuple h
  · exact .kTuple e c
def spListE (K : PySem.W.Frag) : Sp := fun vs H Q _ => ∃ (a : Addr) (xs : List V), vs = [.ref a] ∧ SqE K H a xs ∧ ∀ H', Same H H' → Q (.bl true) H'
def spFew : Sp := fun vs H Q _ => ∃ n : Int, vs = [.int n] ∧ n ≤ 500 ∧ Q .non H
structure TxW (K : PySem.W.Frag) (mg : Str → Option Value) (C : Addr) : Prop where
  cl : Cls K C
  nL : NoAttr K C "letters"
  nN : NoAttr K C "length"
  nK : NoAttr K C "kinds"
  nS : NoAttr K C "is_short"
  nR : NoAttr K C "is_short_round"
  ca : PySem.W.findIn K (.ref C) "__class__" = some (some (.builtin "object.__class__"))
  cn : PySem.W.specialIn K (.builtin "object.__class__") "__get__" = some (some (.builtin "getset_descriptor.__get__"))
  ct : PySem.W.takesIn K (.builtin "object.__class__") = some true
  cm : PySem.W.mroIn K C (.type "object") = some true
  mgW : mg "Word" = some (.ref C)
  most : ∃ t, mg "MOST_LETTERS" = some (.int 500 t)
  isin : mg "isinstance" = none
  all : mg "all" = none
/-! ### a word -/
def wf (tl : Addr) (n : Nat) (tk : Addr) (b1 b2 : Bool) : List (Str × V) := [("letters", .ref tl), ("length", .int (n : Int)), ("kinds", .ref tk), ("is_short", .bl b1), ("is_short_round", .bl b2)]
theorem ne1 : ¬ (("letters" : Str) = "length") := by decide +kernel
theorem ne2 : ¬ (("letters" : Str) = "kinds") := by decide +kernel
theorem ne3 : ¬ (("letters" : Str) = "is_short") := by decide +kernel
theorem ne4 : ¬ (("letters" : Str) = "is_short_round") := by decide +kernel
theorem ne5 : ¬ (("length" : Str) = "kinds") := by decide +kernel
theorem ne6 : ¬ (("length" : Str) = "is_short") := by decide +kernel
theorem ne7 : ¬ (("length" : Str) = "is_short_round") := by decide +kernel
theorem ne8 : ¬ (("kinds" : Str) = "is_short") := by decide +kernel
theorem ne9 : ¬ (("kinds" : Str) = "is_short_round") := by decide +kernel
theorem ne10 : ¬ (("is_short" : Str) = "is_short_round") := by decide +kernel
theorem lk_eq {k : Str} {v : V} {t : List (Str × V)} : List.lookup k ((k, v) :: t) = some v := by
  rw [List.lookup_cons, beq_self_eq_true k]
theorem lk_ne {k g : Str} {v : V} {t : List (Str × V)} (h : ¬ k = g) : List.lookup k ((g, v) :: t) = List.lookup k t := by
  rw [List.lookup_cons, show (k == g) = false from beq_eq_false_iff_ne.mpr h]
theorem pf_ne {k g : Str} {v x : V} {t : List (Str × V)} (h : ¬ g = k) : putF k v ((g, x) :: t) = (g, x) :: putF k v t := by
  show (if g = k then _ else _) = _
  rw [if_neg h]
theorem wf_letters {tl tk n b1 b2} : (wf tl n tk b1 b2).lookup ("letters" : Str) = some (.ref tl) := lk_eq
theorem wf_length {tl tk n b1 b2} : (wf tl n tk b1 b2).lookup ("length" : Str) = some (.int (n : Int)) := by
  unfold wf
  rw [lk_ne fun e => ne1 e.symm, lk_eq]
theorem wf_kinds {tl tk n b1 b2} : (wf tl n tk b1 b2).lookup ("kinds" : Str) = some (.ref tk) := by
  unfold wf
  rw [lk_ne fun e => ne2 e.symm, lk_ne fun e => ne5 e.symm, lk_eq]
theorem wf_short {tl tk n b1 b2} : (wf tl n tk b1 b2).lookup ("is_short" : Str) = some (.bl b1) := by
  unfold wf
  rw [lk_ne fun e => ne3 e.symm, lk_ne fun e => ne6 e.symm, lk_ne fun e => ne8 e.symm, lk_eq]
theorem wf_round {tl tk n b1 b2} : (wf tl n tk b1 b2).lookup ("is_short_round" : Str) = some (.bl b2) := by
  unfold wf
  rw [lk_ne fun e => ne4 e.symm, lk_ne fun e => ne7 e.symm, lk_ne fun e => ne9 e.symm, lk_ne fun e => ne10 e.symm, lk_eq]
theorem wf_no {tl tk n b1 b2} {m : Str} (h1 : ¬ m = "letters") (h2 : ¬ m = "length") (h3 : ¬ m = "kinds") (h4 : ¬ m = "is_short") (h5 : ¬ m = "is_short_round") : (wf tl n tk b1 b2).lookup m = none := by
  unfold wf
  rw [lk_ne h1, lk_ne h2, lk_ne h3, lk_ne h4, lk_ne h5]
  rfl
def WordAt (K : PySem.W.Frag) (C : Addr) (H : Hp) (p : Addr) (ns : List Int) : Prop :=
  ∃ (dx tl tk : Addr) (ks : List Int), H p = some (.ins C dx (wf tl ns.length tk (decide (Fr.shr ns = ns)) (decide (Fr.rnd ns = ns)))) ∧ SqB K H tl (iv ns) ∧ SqT K H tk (iv ks) ∧ kindsOk ns ks
theorem WordAt.same {K : PySem.W.Frag} {C : Addr} {H H' : Hp} {p : Addr} {ns : List Int} (h : WordAt K C H p ns) (s : Same H H') : WordAt K C H' p ns := by
  obtain ⟨dx, tl, tk, ks, h1, h2, h3, h4⟩ := h
  exact ⟨dx, tl, tk, ks, s _ _ h1, SqB.same s h2, WR.Same.seqT s h3, h4⟩
theorem Lts.nz {ns : List Int} (h : Lts ns) : Fr.NZ ns := fun a ha => by
  have := h a ha
  omega
def spInit (K : PySem.W.Frag) (C : Addr) : Sp := fun vs H Q _ => ∃ (H0 : Hp) (p dx a : Addr) (ns : List Int), vs = [.ref p, .ref a] ∧ Same H0 H ∧ H0 p = none ∧ H p = some (.ins C dx []) ∧ SqW K H0 a (iv ns) ∧ ns.length ≤ 500 ∧ Lts ns ∧
  ∀ H', Same H0 H' → WordAt K C H' p ns → Q .non H'
/-! ### tuples of ints held against one another -/
theorem dp_iv {K : PySem.W.Frag} {H : Hp} : ∀ ns : List Int, DpAll K H (iv ns) (ns.map PyData.int)
  | [] => .nil
  | n :: r => .cons (.int n) (dp_iv r)
theorem eqvAll_ints : ∀ ns ms : List Int, PyData.eqvAll (ns.map PyData.int) (ms.map PyData.int) = decide (ns = ms)
  | [], [] => rfl
  | [], b :: r => rfl
  | a :: r, [] => rfl
  | a :: r, b :: q => by
    have ih := eqvAll_ints r q
    show (PyData.eqv (.int a) (.int b) && PyData.eqvAll (r.map PyData.int) (q.map PyData.int)) = _
    rw [ih]
    have : PyData.eqv (.int a) (.int b) = decide (a = b) := by
      simp only [PyData.eqv]
      exact Bool.eq_iff_iff.mpr (by simp)
    rw [this]
    by_cases e1 : a = b <;> by_cases e2 : r = q <;> simp [e1, e2]
theorem eqv_ints (ns ms : List Int) : PyData.eqv (.tuple (ns.map .int)) (.tuple (ms.map .int)) = decide (ns = ms) := by
  show PyData.eqvAll _ _ = _
  exact eqvAll_ints ns ms
theorem lay_ints : ∀ ns : List Int, PyData.canLayAll0 (ns.map PyData.int) = true ∧ PyData.depthAll (ns.map PyData.int) = 0
  | [] => ⟨rfl, rfl⟩
  | n :: r => by
    obtain ⟨h1, h2⟩ := lay_ints r
    exact ⟨by simp [PyData.canLayAll0, PyData.canLay0, h1], by simp [PyData.depthAll, PyData.depth, h2]⟩
theorem shaped_ints (ns : List Int) : SeqAt.shaped (.tuple (ns.map .int)) = true := by
  obtain ⟨h1, h2⟩ := lay_ints ns
  simp [SeqAt.shaped, PyData.canLay0, PyData.depth, h1, h2]
section
variable {P : Program} {w : World} {K : PySem.W.Frag} {mg : Str → Option Value} {base : Heap}
theorem ok_listE {f : Addr} {fd : FuncData} (F : Fun K "is_listed" "is_listed" sListed f fd) (T : TxI mg) : FnOk P w K mg base CX0 1 f fd ["value"] (spListE K) := by
  refine F.ok scListed (fun vs H Q E h => ?_) (fun cdv A outer s H vs Q E hr h => ?_)
  · obtain ⟨a, xs, rfl, _⟩ := h
    rfl
  · obtain ⟨a, xs, rfl, hS, k⟩ := h
    refine ⟨_, pss_one (ps_ret (pe_callB call_isiT (by rfl) T.isin (by decide +kernel) (pa_cons (pv 0) (pa_cons (pe_tup (pa_cons (pe_bltn (v := .ty "list") (by rfl) T.list (by decide +kernel) rfl) (pa_cons (pe_bltn (v := .ty "tuple") (by rfl) T.tuple (by decide +kernel) rfl) pa_nil))) pa_nil)))), ?_⟩
    refine ⟨_, rfl, (by show 2 ≤ sizeLine; decide), fun p hp => ?_⟩
    have sm : Same H (upd H p (.tup [.ty "list", .ty "tuple"])) := same_upd hp
    rcases hS.same sm with hS | hS
    · exact ⟨_, p, _, _, _, _, rfl, upd_same, .cons (.ty _) (.cons (.ty _) .nil), SqL.tyx hS, (by rfl), k _ sm⟩
    · exact ⟨_, p, _, _, _, _, rfl, upd_same, .cons (.ty _) (.cons (.ty _) .nil), SqT.tyx hS, (Typ.tup (H := fun _ => some (.tup [])) (p := a) (xs := []) rfl).kSeq, k _ sm⟩
theorem scFew : FnScope ["many"] ["many"] (defScope sFew) := ⟨rfl, rfl, rfl, by decide +kernel, rfl, by decide +kernel, by decide +kernel⟩
theorem ok_few {C : Addr} {f : Addr} {fd : FuncData} (F : Fun K "need_few_letters" "need_few_letters" sFew f fd) (T : TxW K mg C) : FnOk P w K mg base CX0 1 f fd ["many"] spFew := by
  refine F.ok scFew (fun vs H Q E h => ?_) (fun cdv A outer s H vs Q E hr h => ?_)
  · obtain ⟨n, rfl, _⟩ := h
    rfl
  · obtain ⟨n, rfl, hn, k⟩ := h
    obtain ⟨tk, mM⟩ := T.most
    refine ⟨_, pss_one (ps_if (pt_cmpR op_gt (pv 0) (pe_glob (v := .int 500) (by rfl) mM ⟨_, rfl⟩) (nomark _)) (pss_one ps_never) pss_nil), ?_⟩
    refine ⟨_, rfl, _, _, rfl, rfl, _, rfl, ?_⟩
    exact iteF' (decide_eq_false (by omega)) k
end
end W09
set_option Elab.async false
set_option linter.all false
set_option maxRecDepth 100000
set_option maxHeartbeats 2000000
namespace W09
open PySem L2 PySem.Spec PyProof.Rows WR WB
theorem SqT.put {K : PySem.W.Frag} {H : Hp} {a p C dx : Addr} {fs : List (Str × V)} {o : HO} {xs : List V} (h : SqT K H a xs) (hp : H p = some (.ins C dx fs)) : SqT K (L2.upd H p o) a xs := by
  rcases h with h | h
  · left
    have ne : ∀ u, H a = some u → (∀ C dx fs, u ≠ .ins C dx fs) → a ≠ p := fun u e q z => by
      rw [z, hp] at e
      exact q _ _ _ (Option.some.inj e).symm
    rcases h with h | ⟨o', h⟩
    · exact .inl (by rw [upd_ne (ne _ h fun _ _ _ => by intro z; cases z)]; exact h)
    · exact .inr ⟨o', by rw [upd_ne (ne _ h fun _ _ _ => by intro z; cases z)]; exact h⟩
  · exact .inr h
theorem SqB.put {K : PySem.W.Frag} {H : Hp} {a p C dx : Addr} {fs : List (Str × V)} {o : HO} {xs : List V} (h : SqB K H a xs) (hp : H p = some (.ins C dx fs)) : SqB K (L2.upd H p o) a xs := by
  obtain ⟨h1, h2⟩ := h
  refine ⟨SqT.put h1 hp, fun n => ?_⟩
  obtain ⟨o', u, e, d⟩ := h2 n
  exact ⟨o', u, by rw [upd_ne (fun z => by rw [z, hp] at e; cases e)]; exact e, d⟩
theorem same_put {H0 H : Hp} {p : Addr} {o : HO} (s : Same H0 H) (hp : H0 p = none) : Same H0 (L2.upd H p o) := fun b u e => by
  have : b ≠ p := fun z => by rw [z, hp] at e; cases e
  rw [upd_ne this]
  exact s _ _ e
theorem letter_ok {i : Int} (h : 1 ≤ i.natAbs ∧ i.natAbs ≤ 26) : letterB (.int i) = true := by
  show ((decide (-26 ≤ i) && decide (i ≤ 26)) && !decide (i = 0)) = true
  rw [decide_eq_true (by omega), decide_eq_true (by omega), decide_eq_false (by omega)]
  rfl
theorem all_ok {ns : List Int} (h : Lts ns) : ((ns.map fun i => letterB (.int i)).all id) = true := by
  rw [List.all_eq_true]
  intro b hb
  obtain ⟨i, hi, rfl⟩ := List.mem_map.mp hb
  exact letter_ok (h i hi)
theorem bl_of {b c : Bool} (h : b = c) : V.bl b = V.bl c := by rw [h]
theorem kindsOk_ex (ns : List Int) : True := trivial
theorem not_lc {r : List V → Hp → VK → Prop} {wi : TI} {g : TG} {tt : TT} {te : TE} {vs : List Nat} {σ : L2.St} {H : Hp} {Q : Bool → Hp → Prop}
    (h : wi σ H fun J H1 => tLc (fun _ H R => R J H) g tt te vs σ H1 fun x H2 => r [x] H2 fun v H3 => ∃ c, v = .bl c ∧ Q (!c) H3) :
    tNot (fun σ H Q => tCB r (tCons (tLc wi g tt te vs) tNil) σ H fun x H1 => ∃ c, x = .bl c ∧ Q c H1) σ H Q := h
abbrev nInit : List Str := ["self", "letters", "letter"]
section
variable {P : Program} {w : World} {K : PySem.W.Frag} {mg : Str → Option Value} {base : Heap}
theorem scInit : FnScope nInit ["self", "letters"] (defScope sInit) := ⟨rfl, rfl, rfl, by decide +kernel, rfl, by decide +kernel, by decide +kernel⟩
theorem ok_init {C f : Addr} {fd : FuncData} (F : Fun K "__init__" "Word.__init__" sInit f fd) (T : TxW K mg C) (TA : TxA mg) (GL : Cal P w K mg base "is_listed" 1 ["value"] (spListE K)) (GX : Cal P w K mg base "is_letter" 3 ["value"] spLetter)
    (GF : Cal P w K mg base "need_few_letters" 1 ["many"] spFew) (GK : Cal P w K mg base "kinds_of" 1 ["letters"] (spKinds K)) (GS : Cal P w K mg base "shortened_letters" 1 ["letters"] (spShr K)) (GR : Cal P w K mg base "rounded_letters" 2 ["letters"] (spRnd K)) :
    FnOk P w K mg base CX0 4 f fd ["self", "letters"] (spInit K C) := by
  refine F.ok scInit (fun vs H Q E h => ?_) (fun cdv A outer s H vs Q E hr h => ?_)
  · obtain ⟨H0, p, dx, a, ns, rfl, _⟩ := h
    rfl
  · obtain ⟨H0, p, dx, a, ns, rfl, s0, p0, hp, hS, hlen, hl, k⟩ := h
    rcases hS with hS | hS
    · refine ⟨_, pss_cons (ps_if (PW.pt (pw_or (pt_not (pt_val (pe_cal GL hr (by decide) (by rfl) (pa_cons (pv 1) pa_nil)))) (pw_or1 (pt_not (pt_val (pe_callB (cr_all rfl) (by rfl) T.all (by decide +kernel) (pa_cons (pe_lc (own := [("letter", 2)]) (g := gName 2) (tt := tYes) rfl scInit.nd (pi_list (pv 1))
          (blkOk_by (N := nInit) (sc := defScope sInit) (by decide +kernel)) (fun _ _ _ _ _ => pg_name (i := 2) scInit.nd rfl (Or.inl rfl)) (fun _ _ _ _ _ => pts_nil)
          (fun _ _ _ _ _ => pe_cal GX hr (by decide) (by rfl) (pa_cons (pv 2) pa_nil))) pa_nil))))))) (pss_one ps_never) pss_nil)
        (pss_cons (ps_expr (pe_cal GF hr (by decide) (by rfl) (pa_cons (pe_callB call_len_seq (by rfl) TA.len PySem.boot_len (pa_cons (pv 1) pa_nil)) pa_nil)))
        (pss_cons (ps_fld (pv 0) (pe_callTy call_tupB (by rfl) TA.tuple (by decide +kernel) (pa_cons (pv 1) pa_nil)) rfl)
        (pss_cons (ps_fld (pv 0) (pe_callB call_len_seq (by rfl) TA.len PySem.boot_len (pa_cons (pv 1) pa_nil)) rfl)
        (pss_cons (ps_fld (pv 0) (pe_cal GK hr (by decide) (by rfl) (pa_cons (pv 1) pa_nil)) rfl)
        (pss_cons (ps_fld (pv 0) (pe_cmpR (op_eqD hr.units) (pe_cal GS hr (by decide) (by rfl) (pa_cons (pv 1) pa_nil)) (pe_fld (pv 0) rfl) (nomark _)) rfl)
        (pss_one (ps_fld (pv 0) (pe_cmpR (op_eqD hr.units) (pe_cal GR hr (by decide) (by rfl) (pa_cons (pv 1) pa_nil)) (pe_fld (pv 0) rfl) (nomark _)) rfl))))))), ?_⟩
      have E0 : SqE K H0 a (iv ns) := .inl hS
      refine ⟨_, rfl, a, _, rfl, E0.same s0, fun H1 s1 => ⟨_, rfl, ?_⟩⟩
      have s01 := s0.trans s1
      refine iteF ?_
      refine not_lc ?_
      refine ⟨_, rfl, a, rfl, ⟨_, (s01.seq hS)⟩, ?_⟩
      refine lcp (walk_list (xs := iv ns)) (fun _ => true) (fun x => .bl (letterB x)) (by simp; omega) (fun H2 s2 => (s01.trans s2).seq hS) ?_ ?_
      · intro x hx H2 s2 Qy Qn ky kn
        obtain ⟨i, hi, rfl⟩ := List.mem_map.mp hx
        exact ⟨rfl, yes_te ⟨_, rfl, .int i, _, rfl, .int i, ky rfl H2 (fun _ _ e => e)⟩⟩
      intro D H2 hD s2 h2
      have s02 := s01.trans s2
      refine ⟨D, ns.map fun i => letterB (.int i), rfl, SqL.of (by
        rw [h2, List.filter_eq_self.mpr (fun _ _ => rfl), List.map_map, List.map_map]
        rfl), ?_⟩
      rw [all_ok hl]
      refine ⟨_, rfl, iteF ?_⟩
      -- not too many
      refine ⟨_, rfl, a, _, rfl, E0.same s02, ((iv ns).length : Int), rfl, by rw [List.length_map]; omega, ?_⟩
      have hp2 : H2 p = some (.ins C dx []) := s2 _ _ (s1 _ _ hp)
      -- its letters
      refine ⟨_, rfl, a, _, rfl, .inl ⟨s02.seq hS, fun tl H3 s23 t3 => ?_⟩⟩
      have s3 := s02.trans s23
      have hp3 := s23 _ _ hp2
      refine ⟨_, rfl, p, C, dx, _, rfl, hp3, T.cl, T.nL, (by show 0 < 1000; decide), ?_⟩
      have hp4 : L2.upd H3 p (.ins C dx (putF "letters" (.ref tl) [])) p = some (.ins C dx [("letters", .ref tl)]) := by rw [upd_same]; rfl
      have s4 := same_put (o := .ins C dx (putF "letters" (.ref tl) [])) s3 p0
      have t4 := SqB.put (o := .ins C dx (putF "letters" (.ref tl) [])) t3 hp3
      refine gen_heap fun H4 e4 => ?_
      rw [← e4] at hp4 s4 t4
      -- how many
      refine ⟨_, rfl, a, _, rfl, E0.same s4, _, rfl, p, C, dx, _, rfl, hp4, T.cl, T.nN, (by show 1 < 1000; decide), ?_⟩
      have hp5 : L2.upd H4 p (.ins C dx (putF "length" (.int ((iv ns).length : Nat)) [("letters", .ref tl)])) p = some (.ins C dx [("letters", .ref tl), ("length", .int (ns.length : Nat))]) := by
        rw [upd_same, pf_ne ne1, List.length_map]
        rfl
      have s5 := same_put (o := .ins C dx (putF "length" (.int ((iv ns).length : Nat)) [("letters", .ref tl)])) s4 p0
      have t5 := SqB.put (o := .ins C dx (putF "length" (.int ((iv ns).length : Nat)) [("letters", .ref tl)])) t4 hp4
      refine gen_heap fun H5 e5 => ?_
      rw [← e5] at hp5 s5 t5
      -- its kinds
      refine ⟨_, rfl, a, ns, rfl, E0.same s5, by omega, hl, fun ks hk tk H6 s6 tk6 => ?_⟩
      have hp6 := s6 _ _ hp5
      have s06 := s5.trans s6
      have t6 := SqB.same s6 t5
      refine ⟨_, rfl, p, C, dx, _, rfl, hp6, T.cl, T.nK, (by show 2 < 1000; decide), ?_⟩
      have hp7 : L2.upd H6 p (.ins C dx (putF "kinds" (.ref tk) [("letters", .ref tl), ("length", .int (ns.length : Nat))])) p = some (.ins C dx [("letters", .ref tl), ("length", .int (ns.length : Nat)), ("kinds", .ref tk)]) := by
        rw [upd_same, pf_ne ne2, pf_ne ne5]
        rfl
      have s7 := same_put (o := .ins C dx (putF "kinds" (.ref tk) [("letters", .ref tl), ("length", .int (ns.length : Nat))])) s06 p0
      have t7 := SqB.put (o := .ins C dx (putF "kinds" (.ref tk) [("letters", .ref tl), ("length", .int (ns.length : Nat))])) t6 hp6
      have k7 := SqT.put (o := .ins C dx (putF "kinds" (.ref tk) [("letters", .ref tl), ("length", .int (ns.length : Nat))])) tk6 hp6
      refine gen_heap fun H7 e7 => ?_
      rw [← e7] at hp7 s7 t7 k7
      -- short
      refine ⟨_, rfl, a, ns, rfl, E0.same s7, by omega, fun q H8 s8 q8 => ?_⟩
      have hp8 := s8 _ _ hp7
      have s08 := s7.trans s8
      have t8 := SqB.same s8 t7
      have k8 := WR.Same.seqT s8 k7
      refine ⟨_, rfl, p, C, dx, _, _, rfl, hp8, T.cl, T.nL, lk_eq, ?_⟩
      refine ⟨_, _, .tup q8.sq (dp_iv _), .tup t8.sq (dp_iv _), shaped_ints _, shaped_ints _, ?_⟩
      rw [eqv_ints]
      refine ⟨_, rfl, p, C, dx, _, rfl, hp8, T.cl, T.nS, (by show 3 < 1000; decide), ?_⟩
      have hp9 : L2.upd H8 p (.ins C dx (putF "is_short" (.bl (decide (Fr.shr ns = ns))) [("letters", .ref tl), ("length", .int (ns.length : Nat)), ("kinds", .ref tk)])) p = some (.ins C dx [("letters", .ref tl), ("length", .int (ns.length : Nat)), ("kinds", .ref tk), ("is_short", .bl (decide (Fr.shr ns = ns)))]) := by
        rw [upd_same, pf_ne ne3, pf_ne ne6, pf_ne ne8]
        rfl
      have s9 := same_put (o := .ins C dx (putF "is_short" (.bl (decide (Fr.shr ns = ns))) [("letters", .ref tl), ("length", .int (ns.length : Nat)), ("kinds", .ref tk)])) s08 p0
      have t9 := SqB.put (o := .ins C dx (putF "is_short" (.bl (decide (Fr.shr ns = ns))) [("letters", .ref tl), ("length", .int (ns.length : Nat)), ("kinds", .ref tk)])) t8 hp8
      have k9 := SqT.put (o := .ins C dx (putF "is_short" (.bl (decide (Fr.shr ns = ns))) [("letters", .ref tl), ("length", .int (ns.length : Nat)), ("kinds", .ref tk)])) k8 hp8
      refine gen_heap fun H9 e9 => ?_
      rw [← e9] at hp9 s9 t9 k9
      -- short round
      refine ⟨_, rfl, a, ns, rfl, E0.same s9, by omega, hl.nz, fun q2 Ha sa qa => ?_⟩
      have hpa := sa _ _ hp9
      have s0a := s9.trans sa
      have ta := SqB.same sa t9
      have ka := WR.Same.seqT sa k9
      refine ⟨_, rfl, p, C, dx, _, _, rfl, hpa, T.cl, T.nL, lk_eq, ?_⟩
      refine ⟨_, _, .tup qa.sq (dp_iv _), .tup ta.sq (dp_iv _), shaped_ints _, shaped_ints _, ?_⟩
      rw [eqv_ints]
      refine ⟨_, rfl, p, C, dx, _, rfl, hpa, T.cl, T.nR, (by show 4 < 1000; decide), ?_⟩
      refine k _ (same_put s0a p0) ⟨dx, tl, tk, ks, ?_, SqB.put ta hpa, SqT.put ka hpa, hk⟩
      rw [upd_same, pf_ne ne4, pf_ne ne7, pf_ne ne9, pf_ne ne10]
      rfl
    · refine ⟨_, pss_cons (ps_if (PW.pt (pw_or (pt_not (pt_val (pe_cal GL hr (by decide) (by rfl) (pa_cons (pv 1) pa_nil)))) (pw_or1 (pt_not (pt_val (pe_callB (cr_all rfl) (by rfl) T.all (by decide +kernel) (pa_cons (pe_lc (own := [("letter", 2)]) (g := gName 2) (tt := tYes) rfl scInit.nd (pi_tup (pv 1))
          (blkOk_by (N := nInit) (sc := defScope sInit) (by decide +kernel)) (fun _ _ _ _ _ => pg_name (i := 2) scInit.nd rfl (Or.inl rfl)) (fun _ _ _ _ _ => pts_nil)
          (fun _ _ _ _ _ => pe_cal GX hr (by decide) (by rfl) (pa_cons (pv 2) pa_nil))) pa_nil))))))) (pss_one ps_never) pss_nil)
        (pss_cons (ps_expr (pe_cal GF hr (by decide) (by rfl) (pa_cons (pe_callB call_len_seq (by rfl) TA.len PySem.boot_len (pa_cons (pv 1) pa_nil)) pa_nil)))
        (pss_cons (ps_fld (pv 0) (pe_callTy call_tupB (by rfl) TA.tuple (by decide +kernel) (pa_cons (pv 1) pa_nil)) rfl)
        (pss_cons (ps_fld (pv 0) (pe_callB call_len_seq (by rfl) TA.len PySem.boot_len (pa_cons (pv 1) pa_nil)) rfl)
        (pss_cons (ps_fld (pv 0) (pe_cal GK hr (by decide) (by rfl) (pa_cons (pv 1) pa_nil)) rfl)
        (pss_cons (ps_fld (pv 0) (pe_cmpR (op_eqD hr.units) (pe_cal GS hr (by decide) (by rfl) (pa_cons (pv 1) pa_nil)) (pe_fld (pv 0) rfl) (nomark _)) rfl)
        (pss_one (ps_fld (pv 0) (pe_cmpR (op_eqD hr.units) (pe_cal GR hr (by decide) (by rfl) (pa_cons (pv 1) pa_nil)) (pe_fld (pv 0) rfl) (nomark _)) rfl))))))), ?_⟩
      have E0 : SqE K H0 a (iv ns) := .inr hS
      refine ⟨_, rfl, a, _, rfl, E0.same s0, fun H1 s1 => ⟨_, rfl, ?_⟩⟩
      have s01 := s0.trans s1
      refine iteF ?_
      refine not_lc ?_
      refine ⟨_, rfl, a, rfl, ⟨_, (WR.Same.seqT s01 hS.sq)⟩, ?_⟩
      refine lcp (walk_tup (xs := iv ns)) (fun _ => true) (fun x => .bl (letterB x)) (by simp; omega) (fun H2 s2 => WR.Same.seqT (s01.trans s2) hS.sq) ?_ ?_
      · intro x hx H2 s2 Qy Qn ky kn
        obtain ⟨i, hi, rfl⟩ := List.mem_map.mp hx
        exact ⟨rfl, yes_te ⟨_, rfl, .int i, _, rfl, .int i, ky rfl H2 (fun _ _ e => e)⟩⟩
      intro D H2 hD s2 h2
      have s02 := s01.trans s2
      refine ⟨D, ns.map fun i => letterB (.int i), rfl, SqL.of (by
        rw [h2, List.filter_eq_self.mpr (fun _ _ => rfl), List.map_map, List.map_map]
        rfl), ?_⟩
      rw [all_ok hl]
      refine ⟨_, rfl, iteF ?_⟩
      -- not too many
      refine ⟨_, rfl, a, _, rfl, E0.same s02, ((iv ns).length : Int), rfl, by rw [List.length_map]; omega, ?_⟩
      have hp2 : H2 p = some (.ins C dx []) := s2 _ _ (s1 _ _ hp)
      -- its letters
      refine ⟨_, rfl, a, _, rfl, .inr ⟨SqB.same s02 hS, ?_⟩⟩
      have s3 := s02
      have hp3 := hp2
      have t3 : SqB K H2 a (iv ns) := SqB.same s02 hS
      refine gen_heap fun H3 e3 => ?_
      rw [← e3] at s3 hp3 t3
      refine ⟨_, rfl, p, C, dx, _, rfl, hp3, T.cl, T.nL, (by show 0 < 1000; decide), ?_⟩
      have hp4 : L2.upd H3 p (.ins C dx (putF "letters" (.ref a) [])) p = some (.ins C dx [("letters", .ref a)]) := by rw [upd_same]; rfl
      have s4 := same_put (o := .ins C dx (putF "letters" (.ref a) [])) s3 p0
      have t4 := SqB.put (o := .ins C dx (putF "letters" (.ref a) [])) t3 hp3
      refine gen_heap fun H4 e4 => ?_
      rw [← e4] at hp4 s4 t4
      -- how many
      refine ⟨_, rfl, a, _, rfl, E0.same s4, _, rfl, p, C, dx, _, rfl, hp4, T.cl, T.nN, (by show 1 < 1000; decide), ?_⟩
      have hp5 : L2.upd H4 p (.ins C dx (putF "length" (.int ((iv ns).length : Nat)) [("letters", .ref a)])) p = some (.ins C dx [("letters", .ref a), ("length", .int (ns.length : Nat))]) := by
        rw [upd_same, pf_ne ne1, List.length_map]
        rfl
      have s5 := same_put (o := .ins C dx (putF "length" (.int ((iv ns).length : Nat)) [("letters", .ref a)])) s4 p0
      have t5 := SqB.put (o := .ins C dx (putF "length" (.int ((iv ns).length : Nat)) [("letters", .ref a)])) t4 hp4
      refine gen_heap fun H5 e5 => ?_
      rw [← e5] at hp5 s5 t5
      -- its kinds
      refine ⟨_, rfl, a, ns, rfl, E0.same s5, by omega, hl, fun ks hk tk H6 s6 tk6 => ?_⟩
      have hp6 := s6 _ _ hp5
      have s06 := s5.trans s6
      have t6 := SqB.same s6 t5
      refine ⟨_, rfl, p, C, dx, _, rfl, hp6, T.cl, T.nK, (by show 2 < 1000; decide), ?_⟩
      have hp7 : L2.upd H6 p (.ins C dx (putF "kinds" (.ref tk) [("letters", .ref a), ("length", .int (ns.length : Nat))])) p = some (.ins C dx [("letters", .ref a), ("length", .int (ns.length : Nat)), ("kinds", .ref tk)]) := by
        rw [upd_same, pf_ne ne2, pf_ne ne5]
        rfl
      have s7 := same_put (o := .ins C dx (putF "kinds" (.ref tk) [("letters", .ref a), ("length", .int (ns.length : Nat))])) s06 p0
      have t7 := SqB.put (o := .ins C dx (putF "kinds" (.ref tk) [("letters", .ref a), ("length", .int (ns.length : Nat))])) t6 hp6
      have k7 := SqT.put (o := .ins C dx (putF "kinds" (.ref tk) [("letters", .ref a), ("length", .int (ns.length : Nat))])) tk6 hp6
      refine gen_heap fun H7 e7 => ?_
      rw [← e7] at hp7 s7 t7 k7
      -- short
      refine ⟨_, rfl, a, ns, rfl, E0.same s7, by omega, fun q H8 s8 q8 => ?_⟩
      have hp8 := s8 _ _ hp7
      have s08 := s7.trans s8
      have t8 := SqB.same s8 t7
      have k8 := WR.Same.seqT s8 k7
      refine ⟨_, rfl, p, C, dx, _, _, rfl, hp8, T.cl, T.nL, lk_eq, ?_⟩
      refine ⟨_, _, .tup q8.sq (dp_iv _), .tup t8.sq (dp_iv _), shaped_ints _, shaped_ints _, ?_⟩
      rw [eqv_ints]
      refine ⟨_, rfl, p, C, dx, _, rfl, hp8, T.cl, T.nS, (by show 3 < 1000; decide), ?_⟩
      have hp9 : L2.upd H8 p (.ins C dx (putF "is_short" (.bl (decide (Fr.shr ns = ns))) [("letters", .ref a), ("length", .int (ns.length : Nat)), ("kinds", .ref tk)])) p = some (.ins C dx [("letters", .ref a), ("length", .int (ns.length : Nat)), ("kinds", .ref tk), ("is_short", .bl (decide (Fr.shr ns = ns)))]) := by
        rw [upd_same, pf_ne ne3, pf_ne ne6, pf_ne ne8]
        rfl
      have s9 := same_put (o := .ins C dx (putF "is_short" (.bl (decide (Fr.shr ns = ns))) [("letters", .ref a), ("length", .int (ns.length : Nat)), ("kinds", .ref tk)])) s08 p0
      have t9 := SqB.put (o := .ins C dx (putF "is_short" (.bl (decide (Fr.shr ns = ns))) [("letters", .ref a), ("length", .int (ns.length : Nat)), ("kinds", .ref tk)])) t8 hp8
      have k9 := SqT.put (o := .ins C dx (putF "is_short" (.bl (decide (Fr.shr ns = ns))) [("letters", .ref a), ("length", .int (ns.length : Nat)), ("kinds", .ref tk)])) k8 hp8
      refine gen_heap fun H9 e9 => ?_
      rw [← e9] at hp9 s9 t9 k9
      -- short round
      refine ⟨_, rfl, a, ns, rfl, E0.same s9, by omega, hl.nz, fun q2 Ha sa qa => ?_⟩
      have hpa := sa _ _ hp9
      have s0a := s9.trans sa
      have ta := SqB.same sa t9
      have ka := WR.Same.seqT sa k9
      refine ⟨_, rfl, p, C, dx, _, _, rfl, hpa, T.cl, T.nL, lk_eq, ?_⟩
      refine ⟨_, _, .tup qa.sq (dp_iv _), .tup ta.sq (dp_iv _), shaped_ints _, shaped_ints _, ?_⟩
      rw [eqv_ints]
      refine ⟨_, rfl, p, C, dx, _, rfl, hpa, T.cl, T.nR, (by show 4 < 1000; decide), ?_⟩
      refine k _ (same_put s0a p0) ⟨dx, a, tk, ks, ?_, SqB.put ta hpa, SqT.put ka hpa, hk⟩
      rw [upd_same, pf_ne ne4, pf_ne ne7, pf_ne ne9, pf_ne ne10]
      rfl
end
end W09
set_option Elab.async false
set_option linter.all false
set_option maxRecDepth 100000
set_option maxHeartbeats 2000000
namespace W09
open PySem L2 PySem.Spec PyProof.Rows WR WB
abbrev sEq : Stmt := inClass (top 42) 1
abbrev sContrary : Stmt := inClass (top 42) 4
abbrev sShort : Stmt := inClass (top 42) 5
abbrev sRound : Stmt := inClass (top 42) 6
abbrev sThen : Stmt := inClass (top 42) 8
abbrev sTimes : Stmt := inClass (top 42) 9
abbrev sNeedI : Stmt := top 29
/-- some word of these letters, all else as it stood -/
def NewW (K : PySem.W.Frag) (C : Addr) (H : Hp) (Q : VK) (ns : List Int) : Prop := ∀ p H', Same H H' → WordAt K C H' p ns → Q (.ref p) H'
theorem make_word {K : PySem.W.Frag} {C : Addr} {H1 : Hp} {q : Addr} {ms : List Int} {Q : VK} {E : XK} (hq : SqW K H1 q (iv ms)) (hlen : ms.length ≤ 500) (hl : Lts ms) (k : NewW K C H1 Q ms) :
    ∀ x dx, H1 x = none → H1 dx = none → dx ≠ x → spInit K C [.ref x, .ref q] (L2.upd (L2.upd H1 dx (.own x)) x (.ins C dx [])) (fun v H2 => v = .non ∧ Q (.ref x) H2) E := by
  intro x dx nx ndx nex
  have s0 : Same H1 (L2.upd (L2.upd H1 dx (.own x)) x (.ins C dx [])) := fun b o e => by
    rw [upd_ne (ne_of_none e nx), upd_ne (ne_of_none e ndx)]
    exact e
  exact ⟨H1, x, dx, q, ms, rfl, s0, nx, upd_same, hq, hlen, hl, fun H' s' W' => ⟨rfl, k x H' s' W'⟩⟩
def spOne (K : PySem.W.Frag) (C : Addr) (fn : List Int → List Int) : Sp := fun vs H Q _ => ∃ (p : Addr) (ns : List Int), vs = [.ref p] ∧ WordAt K C H p ns ∧ ns.length ≤ 500 ∧ Lts ns ∧ NewW K C H Q (fn ns)
def spEq (K : PySem.W.Frag) (C : Addr) : Sp := fun vs H Q _ => ∃ (p q : Addr) (ns ms : List Int), vs = [.ref p, .ref q] ∧ WordAt K C H p ns ∧ WordAt K C H q ms ∧ Q (.bl (decide (ns = ms))) H
def spThen (K : PySem.W.Frag) (C : Addr) : Sp := fun vs H Q _ => ∃ (p q : Addr) (ns ms : List Int), vs = [.ref p, .ref q] ∧ WordAt K C H p ns ∧ WordAt K C H q ms ∧ ns.length + ms.length ≤ 500 ∧ Lts ns ∧ Lts ms ∧ NewW K C H Q (ns ++ ms)
/-- so many times, for a number below 0 the contrary so many times -/
def tms (n : Int) (ns : List Int) : List Int := if 0 < n then Fr.rep n.natAbs ns else Fr.rep n.natAbs (Fr.con ns)
def spTimes (K : PySem.W.Frag) (C : Addr) : Sp := fun vs H Q _ => ∃ (p : Addr) (n : Int) (ns : List Int), vs = [.ref p, .int n] ∧ WordAt K C H p ns ∧ ns.length ≤ 500 ∧ ns.length * n.natAbs ≤ 500 ∧ Lts ns ∧ NewW K C H Q (tms n ns)
def spNeedW (K : PySem.W.Frag) (C : Addr) : Sp := fun vs H Q _ => ∃ (q : Addr) (z : V) (ms : List Int), vs = [.ref q, z] ∧ WordAt K C H q ms ∧ Q .non H
def spNeedI : Sp := fun vs H Q _ => ∃ (n : Int) (z : V), vs = [.int n, z] ∧ Q .non H
theorem Lts.con {ns : List Int} (h : Lts ns) : Lts (Fr.con ns) := fun x hx => by
  unfold Fr.con at hx
  obtain ⟨y, hy, rfl⟩ := List.mem_map.mp hx
  have := h y (List.mem_reverse.mp hy)
  rw [Int.natAbs_neg]
  exact this
theorem Lts.app {ns ms : List Int} (h : Lts ns) (k : Lts ms) : Lts (ns ++ ms) := fun x hx => by
  rcases List.mem_append.mp hx with e | e
  · exact h x e
  · exact k x e
theorem Lts.shr {ns : List Int} (h : Lts ns) : Lts (Fr.shr ns) := fun x hx => h x (Fr.shr_mem hx)
theorem Lts.rep {ns : List Int} (h : Lts ns) : ∀ n, Lts (Fr.rep n ns)
  | 0 => fun x hx => nomatch hx
  | n + 1 => h.app (Lts.rep h n)
theorem rnd_sub {ns : List Int} (nz : Fr.NZ ns) : ∃ u, Fr.shr ns = u ++ Fr.rnd ns ++ Fr.con u := by
  obtain ⟨u, m, e, c, z⟩ := Fr.parted (Fr.shr ns) nz.shr (Fr.rd_shr ns)
  refine ⟨u, ?_⟩
  have er : Fr.rnd ns = m := by
    unfold Fr.rnd
    rw [e, Fr.ends_eq c z]
  rw [er]
  exact e
theorem Lts.rnd {ns : List Int} (h : Lts ns) : Lts (Fr.rnd ns) := fun x hx => by
  obtain ⟨u, e⟩ := rnd_sub h.nz
  refine h.shr x ?_
  rw [e]
  simp [hx]
theorem rnd_len {ns : List Int} (h : Lts ns) : (Fr.rnd ns).length ≤ ns.length := by
  obtain ⟨u, e⟩ := rnd_sub h.nz
  have h1 := shr_len ns
  rw [e] at h1
  rw [whole_len] at h1
  omega
theorem rep_flat (n : Nat) (ns : List Int) : (List.replicate n (iv ns)).flatten = iv (Fr.rep n ns) := by
  induction n with
  | zero => rfl
  | succ n ih => 
    rw [List.replicate_succ, List.flatten_cons, ih, Fr.rep_succ]
    exact List.map_append.symm
theorem WordAt.tyx {K : PySem.W.Frag} {mg : Str → Option Value} {C : Addr} {H : Hp} {p : Addr} {ns : List Int} (h : WordAt K C H p ns) (T : TxW K mg C) : TyX K H (.ref p) (.ref C) := by
  obtain ⟨dx, tl, tk, ks, h1, _⟩ := h
  exact .base (.ins h1 T.cl T.ca T.cn T.ct T.cm)
theorem kit_self {K : PySem.W.Frag} (C : Addr) : PySem.W.kitOne K (.ref C) (.ref C) = some true := by
  unfold PySem.W.kitOne
  rw [if_pos (by simp)]
structure MkW (P : Program) (w : World) (K : PySem.W.Frag) (mg : Str → Option Value) (base : Heap) (C : Addr) : Prop where
  ex : ∃ (f : Addr) (fd : FuncData), Mk K C f ∧ FnOk P w K mg base CX0 4 f fd ["self", "letters"] (spInit K C) ∧ Binds K fd ["self", "letters"] []
section
variable {X : Cx} {C : Addr} {p pos : Pos} {e : Expr} {es : List Expr} {t : TA} {j : Nat}
theorem pe_word (M : MkW X.prog X.w X.K X.mg X.base C) (T : TxW X.K X.mg C) (hr : Room j X.A) (hkj : 5 ≤ j) (hg : Gl X "Word") (ha : PA X (e :: es) t)
    (he : starEach (e :: es) X.env = (false, eval e X.env) :: starEach es X.env := by rfl) (hpl : (backTo pos (starEach es X.env)).any (·.1) = false := by rfl) :
    PE X (.Call (.Name "Word" p) (e :: es) [] pos) (tMake C (spInit X.K C) [] E0 t) := by
  obtain ⟨f, fd, M, F, hb⟩ := M.ex
  exact pe_make M F (hr.mono hkj) hg T.mgW hb .nil pass0 ha (by decide) he hpl
end
section
variable {P : Program} {w : World} {K : PySem.W.Frag} {mg : Str → Option Value} {base : Heap}
theorem scEq : FnScope ["self", "other"] ["self", "other"] (defScope sEq) := ⟨rfl, rfl, rfl, by decide +kernel, rfl, by decide +kernel, by decide +kernel⟩
theorem ok_eq {C f : Addr} {fd : FuncData} (F : Fun K "__eq__" "Word.__eq__" sEq f fd) (T : TxW K mg C) : FnOk P w K mg base CX0 1 f fd ["self", "other"] (spEq K C) := by
  refine F.ok scEq (fun vs H Q E h => ?_) (fun cdv A outer s H vs Q E hr h => ?_)
  · obtain ⟨p, q, ns, ms, rfl, _⟩ := h
    rfl
  · obtain ⟨p, q, ns, ms, rfl, W1, W2, k⟩ := h
    refine ⟨_, pss_one (ps_ret (pe_and (pe_callB call_isi (by rfl) T.isin (by decide +kernel) (pa_cons (pv 1) (pa_cons (pe_glob (v := .ref C) (by rfl) T.mgW rfl) pa_nil)))
      (pe_one (pe_cmpR (op_eqD hr.units) (pe_fld (pv 0) rfl) (pe_fld (pv 1) rfl) (nomark _))))), ?_⟩
    refine ⟨_, rfl, _, _, _, _, _, rfl, .own C, W2.tyx T, kit_self C, _, rfl, ?_⟩
    refine iteT ?_
    obtain ⟨dx, tl, tk, ks, h1, h2, h3, h4⟩ := W1
    obtain ⟨dx', tl', tk', ks', h1', h2', h3', h4'⟩ := W2
    refine ⟨_, rfl, p, C, dx, _, _, rfl, h1, T.cl, T.nL, wf_letters, _, rfl, q, C, dx', _, _, rfl, h1', T.cl, T.nL, wf_letters, ?_⟩
    refine ⟨_, _, .tup h2.sq (dp_iv _), .tup h2'.sq (dp_iv _), shaped_ints _, shaped_ints _, ?_⟩
    rw [eqv_ints]
    exact k
theorem scNeedW : FnScope ["value", "part"] ["value", "part"] (defScope sNeedW) := ⟨rfl, rfl, rfl, by decide +kernel, rfl, by decide +kernel, by decide +kernel⟩
theorem ok_needW {C f : Addr} {fd : FuncData} (F : Fun K "need_word" "need_word" sNeedW f fd) (T : TxW K mg C) : FnOk P w K mg base CX0 1 f fd ["value", "part"] (spNeedW K C) := by
  refine F.ok scNeedW (fun vs H Q E h => ?_) (fun cdv A outer s H vs Q E hr h => ?_)
  · obtain ⟨q, z, ms, rfl, _⟩ := h
    rfl
  · obtain ⟨q, z, ms, rfl, W2, k⟩ := h
    refine ⟨_, pss_one (ps_if (pt_not (pt_val (pe_callB call_isi (by rfl) T.isin (by decide +kernel) (pa_cons (pv 0) (pa_cons (pe_glob (v := .ref C) (by rfl) T.mgW rfl) pa_nil))))) (pss_one ps_never) pss_nil), ?_⟩
    exact ⟨_, rfl, _, _, _, _, _, rfl, .own C, W2.tyx T, kit_self C, _, rfl, iteF k⟩
theorem scNeedI : FnScope ["value", "part"] ["value", "part"] (defScope sNeedI) := ⟨rfl, rfl, rfl, by decide +kernel, rfl, by decide +kernel, by decide +kernel⟩
theorem ok_needI {f : Addr} {fd : FuncData} (F : Fun K "need_integer" "need_integer" sNeedI f fd) (GI : Cal P w K mg base "is_integer" 1 ["value"] spIsInt) : FnOk P w K mg base CX0 2 f fd ["value", "part"] spNeedI := by
  refine F.ok scNeedI (fun vs H Q E h => ?_) (fun cdv A outer s H vs Q E hr h => ?_)
  · obtain ⟨n, z, rfl, _⟩ := h
    rfl
  · obtain ⟨n, z, rfl, k⟩ := h
    refine ⟨_, pss_one (ps_if (pt_not (pt_val (pe_cal GI hr (by decide) (by rfl) (pa_cons (pv 0) pa_nil)))) (pss_one ps_never) pss_nil), ?_⟩
    exact ⟨_, rfl, .int n, _, rfl, .int n, _, rfl, iteF k⟩
theorem scContrary : FnScope ["self"] ["self"] (defScope sContrary) := ⟨rfl, rfl, rfl, by decide +kernel, rfl, by decide +kernel, by decide +kernel⟩
theorem ok_contrary {C f : Addr} {fd : FuncData} (F : Fun K "contrary" "Word.contrary" sContrary f fd) (T : TxW K mg C) (M : MkW P w K mg base C) (GC : Cal P w K mg base "contrary_letters" 1 ["letters"] (spCon K)) :
    FnOk P w K mg base CX0 6 f fd ["self"] (spOne K C Fr.con) := by
  refine F.ok scContrary (fun vs H Q E h => ?_) (fun cdv A outer s H vs Q E hr h => ?_)
  · obtain ⟨p, ns, rfl, _⟩ := h
    rfl
  · obtain ⟨p, ns, rfl, ⟨dx, tl, tk, ks, h1, h2, h3, h4⟩, hlen, hl, k⟩ := h
    refine ⟨_, pss_one (ps_ret (pe_word M T hr (by decide) (by rfl) (pa_cons (pe_cal GC hr (by decide) (by rfl) (pa_cons (pe_fld (pv 0) rfl) pa_nil)) pa_nil))), ?_⟩
    refine ⟨_, rfl, p, C, dx, _, _, rfl, h1, T.cl, T.nL, wf_letters, tl, ns, rfl, h2, by omega, fun q H1 s1 hq => ?_⟩
    exact make_word (.inr hq) (by rw [Fr.con_length]; exact hlen) hl.con fun x H' s' W => k x H' (s1.trans s') W
theorem scShort : FnScope ["self"] ["self"] (defScope sShort) := ⟨rfl, rfl, rfl, by decide +kernel, rfl, by decide +kernel, by decide +kernel⟩
theorem ok_shortened {C f : Addr} {fd : FuncData} (F : Fun K "shortened" "Word.shortened" sShort f fd) (T : TxW K mg C) (M : MkW P w K mg base C) (GS : Cal P w K mg base "shortened_letters" 1 ["letters"] (spShr K)) :
    FnOk P w K mg base CX0 6 f fd ["self"] (spOne K C Fr.shr) := by
  refine F.ok scShort (fun vs H Q E h => ?_) (fun cdv A outer s H vs Q E hr h => ?_)
  · obtain ⟨p, ns, rfl, _⟩ := h
    rfl
  · obtain ⟨p, ns, rfl, ⟨dx, tl, tk, ks, h1, h2, h3, h4⟩, hlen, hl, k⟩ := h
    refine ⟨_, pss_one (ps_ret (pe_word M T hr (by decide) (by rfl) (pa_cons (pe_cal GS hr (by decide) (by rfl) (pa_cons (pe_fld (pv 0) rfl) pa_nil)) pa_nil))), ?_⟩
    refine ⟨_, rfl, p, C, dx, _, _, rfl, h1, T.cl, T.nL, wf_letters, tl, ns, rfl, .inr h2, by omega, fun q H1 s1 hq => ?_⟩
    exact make_word (.inr hq) (Nat.le_trans (shr_len ns) hlen) hl.shr fun x H' s' W => k x H' (s1.trans s') W
theorem scRound : FnScope ["self"] ["self"] (defScope sRound) := ⟨rfl, rfl, rfl, by decide +kernel, rfl, by decide +kernel, by decide +kernel⟩
theorem ok_round {C f : Addr} {fd : FuncData} (F : Fun K "shortened_round" "Word.shortened_round" sRound f fd) (T : TxW K mg C) (M : MkW P w K mg base C) (GR : Cal P w K mg base "rounded_letters" 2 ["letters"] (spRnd K)) :
    FnOk P w K mg base CX0 6 f fd ["self"] (spOne K C Fr.rnd) := by
  refine F.ok scRound (fun vs H Q E h => ?_) (fun cdv A outer s H vs Q E hr h => ?_)
  · obtain ⟨p, ns, rfl, _⟩ := h
    rfl
  · obtain ⟨p, ns, rfl, ⟨dx, tl, tk, ks, h1, h2, h3, h4⟩, hlen, hl, k⟩ := h
    refine ⟨_, pss_one (ps_ret (pe_word M T hr (by decide) (by rfl) (pa_cons (pe_cal GR hr (by decide) (by rfl) (pa_cons (pe_fld (pv 0) rfl) pa_nil)) pa_nil))), ?_⟩
    refine ⟨_, rfl, p, C, dx, _, _, rfl, h1, T.cl, T.nL, wf_letters, tl, ns, rfl, .inr h2, by omega, hl.nz, fun q H1 s1 hq => ?_⟩
    exact make_word (.inr hq) (Nat.le_trans (rnd_len hl) hlen) hl.rnd fun x H' s' W => k x H' (s1.trans s') W
theorem scThen : FnScope ["self", "other"] ["self", "other"] (defScope sThen) := ⟨rfl, rfl, rfl, by decide +kernel, rfl, by decide +kernel, by decide +kernel⟩
theorem ok_then {C f : Addr} {fd : FuncData} (F : Fun K "then" "Word.then" sThen f fd) (T : TxW K mg C) (M : MkW P w K mg base C) (GN : Cal P w K mg base "need_word" 1 ["value", "part"] (spNeedW K C)) :
    FnOk P w K mg base CX0 6 f fd ["self", "other"] (spThen K C) := by
  refine F.ok scThen (fun vs H Q E h => ?_) (fun cdv A outer s H vs Q E hr h => ?_)
  · obtain ⟨p, q, ns, ms, rfl, _⟩ := h
    rfl
  · obtain ⟨p, q, ns, ms, rfl, W1, W2, hlen, hl, hl2, k⟩ := h
    refine ⟨_, pss_cons (ps_expr (pe_cal GN hr (by decide) (by rfl) (pa_cons (pv 1) (pa_cons pe_str pa_nil))))
      (pss_one (ps_ret (pe_word M T hr (by decide) (by rfl) (pa_cons (pe_op op_catB (pe_fld (pv 0) rfl) (pe_fld (pv 1) rfl)) pa_nil)))), ?_⟩
    refine ⟨_, rfl, q, _, ms, rfl, W2, ?_⟩
    obtain ⟨dx, tl, tk, ks, h1, h2, h3, h4⟩ := W1
    obtain ⟨dx', tl', tk', ks', h1', h2', h3', h4'⟩ := W2
    refine ⟨_, rfl, p, C, dx, _, _, rfl, h1, T.cl, T.nL, wf_letters, _, rfl, q, C, dx', _, _, rfl, h1', T.cl, T.nL, wf_letters, ?_⟩
    refine ⟨tl, tl', _, _, rfl, rfl, h2, h2', Evl.sz_of (by simp; omega), fun r H1 s1 hr1 => ?_⟩
    rw [← List.map_append] at hr1
    exact make_word (.inr hr1) (by rw [List.length_append]; exact hlen) (hl.app hl2) fun x H' s' W => k x H' (s1.trans s') W
theorem scTimes : FnScope ["self", "number", "once"] ["self", "number"] (defScope sTimes) := ⟨rfl, rfl, rfl, by decide +kernel, rfl, by decide +kernel, by decide +kernel⟩
theorem abs_eq (n : Int) : (if n < 0 then -n else n) = (n.natAbs : Int) := by split <;> omega
theorem ok_times {C f : Addr} {fd : FuncData} (F : Fun K "times" "Word.times" sTimes f fd) (T : TxW K mg C) (T2 : TxB mg) (M : MkW P w K mg base C) (GN : Cal P w K mg base "need_integer" 2 ["value", "part"] spNeedI)
    (GF : Cal P w K mg base "need_few_letters" 1 ["many"] spFew) (GC : Cal P w K mg base "contrary_letters" 1 ["letters"] (spCon K)) :
    FnOk P w K mg base CX0 6 f fd ["self", "number"] (spTimes K C) := by
  refine F.ok scTimes (fun vs H Q E h => ?_) (fun cdv A outer s H vs Q E hr h => ?_)
  · obtain ⟨p, n, ns, rfl, _⟩ := h
    rfl
  · obtain ⟨p, n, ns, rfl, ⟨dx, tl, tk, ks, h1, h2, h3, h4⟩, hns, hlen, hl, k⟩ := h
    refine ⟨_, pss_cons (ps_expr (pe_cal GN hr (by decide) (by rfl) (pa_cons (pv 1) (pa_cons pe_str pa_nil))))
      (pss_cons (ps_if (pt_cmpR op_eq (pe_fld (pv 0) rfl) pe_int (nomark _)) (pss_one (ps_ret (pe_word M T hr (by decide) (by rfl) (pa_cons (pe_lst pa_nil) pa_nil)))) pss_nil)
      (pss_cons (ps_expr (pe_cal GF hr (by decide) (by rfl) (pa_cons (pe_op op_mul (pe_fld (pv 0) rfl) (pe_callB call_abs (by rfl) T2.abs (by decide +kernel) (pa_cons (pv 1) pa_nil))) pa_nil)))
      (pss_cons (ps_set (i := 2) scTimes.nd rfl (Or.inl rfl) (pe_ifExp (pt_cmpR op_gt (pv 1) pe_int (nomark _)) (pe_fld (pv 0) rfl) (pe_cal GC hr (by decide) (by rfl) (pa_cons (pe_fld (pv 0) rfl) pa_nil))))
      (pss_one (ps_ret (pe_word M T hr (by decide) (by rfl) (pa_cons (pe_op op_repB (pv 2) (pe_callB call_abs (by rfl) T2.abs (by decide +kernel) (pa_cons (pv 1) pa_nil))) pa_nil))))))), ?_⟩
    refine ⟨_, rfl, n, _, rfl, ?_⟩
    refine ⟨_, rfl, p, C, dx, _, _, rfl, h1, T.cl, T.nN, wf_length, rfl, _, rfl, ?_⟩
    by_cases hz : ns = []
    · subst hz
      have e : tms n [] = [] := by
        unfold tms
        split
        · exact Fr.rep_nil _
        · exact Fr.rep_nil _
      rw [e] at k
      refine iteT' (decide_eq_true rfl) ?_
      refine ⟨Nat.zero_le _, fun q hq => ?_⟩
      exact make_word (q := q) (ms := []) (.inl (SqL.of upd_same)) (by simp) (fun x hx => nomatch hx) fun x H' s' W => k x H' ((same_upd hq).trans s') W
    · have hpos : 0 < ns.length := List.length_pos_iff.mpr hz
      have hn : n.natAbs ≤ 500 := Nat.le_trans (Nat.le_mul_of_pos_left _ hpos) hlen
      refine iteF' (decide_eq_false fun e => ?_) ?_
      · have e2 : V.int (ns.length : Int) = V.int 0 := e
        injection e2 with e3
        omega
      refine ⟨_, rfl, p, C, dx, _, _, rfl, h1, T.cl, T.nN, wf_length, _, rfl, n, rfl, _, _, rfl, rfl, .inl ⟨by omega, by omega⟩, _, rfl, ?_, ?_⟩
      · rw [abs_eq, ← Int.natCast_mul]
        omega
      have fin : ∀ (q : Addr) (ms : List Int) (H1 : Hp), Same H H1 → SqB K H1 q (iv ms) → ms.length = ns.length → Lts ms → Fr.rep n.natAbs ms = tms n ns →
          rRepB K (.ref q) (.int (if n < 0 then -n else n)) H1 fun v H2 => ∀ x dx, H2 x = none → H2 dx = none → dx ≠ x → spInit K C [.ref x, v] (L2.upd (L2.upd H2 dx (.own x)) x (.ins C dx [])) (fun v H3 => v = .non ∧ Q (.ref x) H3) L2.E0 := by
        intro q ms H1 s1 hq hm hlm e
        refine ⟨q, _, iv ms, rfl, rfl, hq, by rw [abs_eq]; omega, by rw [abs_eq]; omega, by rw [List.length_map]; omega, fun r H2 s2 hr2 => ?_⟩
        rw [abs_eq, Int.toNat_natCast, rep_flat, e] at hr2
        have el : (tms n ns).length ≤ 500 := by
          rw [← e, Fr.rep_length, hm, Nat.mul_comm]
          exact hlen
        exact make_word (.inr hr2) el (by rw [← e]; exact hlm.rep _) fun x H' s' W => k x H' ((s1.trans s2).trans s') W
      refine ⟨_, rfl, _, _, rfl, rfl, _, rfl, ?_⟩
      refine ite2 (fun hpn => ?_) (fun hpn => ?_)
      · have hpn' : 0 < n := of_decide_eq_true hpn
        refine ⟨_, rfl, p, C, dx, _, _, rfl, h1, T.cl, T.nL, wf_letters, ?_⟩
        exact ⟨_, rfl, _, rfl, n, rfl, fin tl ns H (Same.refl H) h2 rfl hl (by unfold tms; rw [if_pos hpn'])⟩
      · have hpn' : ¬ 0 < n := fun z => hpn (decide_eq_true z)
        refine ⟨_, rfl, p, C, dx, _, _, rfl, h1, T.cl, T.nL, wf_letters, tl, ns, rfl, h2, by omega, fun q H1 s1 hq => ?_⟩
        exact ⟨_, rfl, _, rfl, n, rfl, fin q (Fr.con ns) H1 s1 hq (Fr.con_length ns) hl.con (by unfold tms; rw [if_neg hpn'])⟩
end
end W09
set_option Elab.async false
set_option linter.all false
set_option maxRecDepth 100000
set_option maxHeartbeats 2000000
namespace W09
open PySem L2 WR WB
abbrev sJar : Stmt := top 51
abbrev sDraw : Stmt := top 52
/-! ### the hand that draws -/
/-- at a: a hand, of which at most n cells were begun -/
def HandAt (H : Hp) (a c : Addr) (n : Nat) : Prop := ∃ (ns : List Int) (i r : Int), H a = some (.lst [.ref c, .int i, .int r]) ∧ H c = some (.lst (ns.map V.int)) ∧ c ≠ a ∧ ns.length ≤ 1000 ∧ 0 ≤ i ∧ i ≤ (n : Int) ∧ 0 ≤ r
/-- all but what is at a stands as it did -/
def Kept (a : Addr) (H H' : Hp) : Prop := ∀ b o, b ≠ a → H b = some o → H' b = some o
theorem Kept.refl {a : Addr} {H : Hp} : Kept a H H := fun _ _ _ e => e
theorem Kept.trans {a : Addr} {H H1 H2 : Hp} (h1 : Kept a H H1) (h2 : Kept a H1 H2) : Kept a H H2 := fun b o n e => h2 b o n (h1 b o n e)
theorem Kept.upd {a : Addr} {H : Hp} {o : HO} : Kept a H (upd H a o) := fun b u n e => by rw [upd_ne n]; exact e
theorem Kept.new {a p : Addr} {H H' : Hp} {o : HO} (k : Kept a H H') (hp : H' p = none) : Kept a H (L2.upd H' p o) := fun b u n e => by
  rw [upd_ne (ne_of_none (k b u n e) hp)]
  exact k b u n e

theorem HandAt.put {H : Hp} {a c : Addr} {ns : List Int} {i r : Int} {n : Nat} (hC : H c = some (.lst (ns.map V.int))) (hca : c ≠ a) (hl : ns.length ≤ 1000) (i0 : 0 ≤ i) (hi : i ≤ (n : Int)) (r0 : 0 ≤ r) :
    HandAt (L2.upd H a (.lst [.ref c, .int i, .int r])) a c n := ⟨ns, i, r, upd_same, by rw [upd_ne hca]; exact hC, hca, hl, i0, hi, r0⟩
def spHand (K : PySem.W.Frag) : Sp := fun vs H Q _ => ∃ (a : Addr) (ns : List Int), vs = [.ref a] ∧ SqL K H a (ns.map V.int) ∧ ns.length ≤ 1000 ∧
  ∀ (H' : Hp) (p c : Addr), Same H H' → H p = none → H c = none → HandAt H' p c 0 → Q (.ref p) H'
def spTake : Sp := fun vs H Q _ => ∃ (a c : Addr) (m : Int) (n : Nat), vs = [.ref a, .int m] ∧ HandAt H a c n ∧ n ≤ 10000 ∧ 0 < m ∧ m.natAbs < 2 ^ 200 ∧
  ∀ (H' : Hp) (q : Int), 0 ≤ q → q < m → HandAt H' a c (n + 1) → Kept a H H' → Q (.int q) H'

theorem dpInts {K : PySem.W.Frag} {H : Hp} : ∀ ns : List Int, DpAll K H (ns.map V.int) (ns.map PyData.int)
  | [] => .nil
  | n :: r => .cons (.int n) (dpInts r)
structure TxL (mg : Str → Option Value) : Prop where
  int : mg "int" = none
  len : mg "len" = none
  abs : mg "abs" = none
section
variable {P : Program} {w : World} {K : PySem.W.Frag} {mg : Str → Option Value} {base : Heap}
theorem scHand : FnScope ["_law_script", "_law_cell"] ["_law_script"] (defScope sJar) := ⟨rfl, rfl, rfl, by decide +kernel, rfl, by decide +kernel, by decide +kernel⟩
theorem ok_hand {f : Addr} {fd : FuncData} (F : Fun K "_law_jar" "_law_jar" sJar f fd) (T : TxL mg) : FnOk P w K mg base CX0 1 f fd ["_law_script"] (spHand K) := by
  refine F.ok scHand (fun vs H Q E h => ?_) (fun cdv A outer s H vs Q E hr h => ?_)
  · obtain ⟨a, ns, rfl, _⟩ := h
    rfl
  · obtain ⟨a, ns, rfl, hS, hlen, k⟩ := h
    refine ⟨_, pss_one (ps_ret (pe_lst (pa_cons (pe_lc (own := [("_law_cell", 1)]) (g := gName 1) (tt := tYes) rfl scHand.nd (pi_list (pe_slice sl_list (pv 0) po_none (po_some pe_int)))
      (blkOk_by (N := ["_law_script", "_law_cell"]) (sc := defScope sJar) (by decide +kernel)) (fun _ _ _ _ _ => pg_name (i := 1) scHand.nd rfl (Or.inl rfl)) (fun _ _ _ _ _ => pts_nil)
      (fun _ _ _ _ _ => pe_callTy call_int1 (by rfl) T.int (by decide +kernel) (pa_cons (pv 1) pa_nil))) (pa_cons pe_int (pa_cons pe_int pa_nil))))), ?_⟩
    refine ⟨_, rfl, 61, rfl, a, ns.map V.int, rfl, hS, fun p hp => ?_⟩
    refine ⟨p, rfl, ⟨_, SqL.of upd_same⟩, fun D hD => ?_⟩
    have hDp : D ≠ p := fun e => by
      rw [e, upd_same] at hD
      cases hD
    have hD0 : H D = none := by
      rw [upd_ne hDp] at hD
      exact hD
    have hc : cutV (ns.map V.int) none (some 61) = (ns.take 61).map V.int := by
      unfold cutV
      rw [List.map_take, List.length_map]
      have e0 : HT.sIx ns.length 0 none = 0 := rfl
      rw [e0, List.drop_zero]
      have e1 : HT.sIx ns.length ns.length (some 61) = min 61 ns.length := by
        unfold HT.sIx
        simp
        try omega
      rw [e1, Nat.sub_zero]
      by_cases h : 61 ≤ ns.length
      · rw [Nat.min_eq_left h]
      · rw [Nat.min_eq_right (by omega), List.take_of_length_le (by simp), List.take_of_length_le (by simp; omega)]
    refine lc_list (K := K) (a := p) (xs := (ns.take 61).map V.int) (fun i H' => H' D = some (.lst (((ns.take 61).take i).map V.int)) ∧ H' p = some (.lst ((ns.take 61).map V.int)) ∧ Same H H') ⟨upd_same, ?_, ?_⟩ (fun i H' _ q => SqL.of q.2.1) ?_ ?_
    · rw [upd_ne hDp.symm, upd_same, hc]
    · intro b o e
      rw [upd_ne (ne_of_none e hD0), upd_ne (ne_of_none e hp)]
      exact e
    · intro i x H' hi q
      obtain ⟨z, hz, rfl⟩ : ∃ z, (ns.take 61)[i]? = some z ∧ x = V.int z := by
        rw [List.getElem?_map] at hi
        cases e : (ns.take 61)[i]? with
        | none =>
          rw [e] at hi
          cases hi
        | some z =>
          rw [e] at hi
          exact ⟨z, rfl, (Option.some.inj hi).symm⟩
      have hli : i < (ns.take 61).length := (List.getElem?_eq_some_iff.mp hz).1
      have hl60 : (ns.take 61).length ≤ 61 := by rw [List.length_take]; omega
      refine ⟨rfl, ?_⟩
      refine yes_te ?_
      refine ⟨_, rfl, .inl ⟨z, rfl, _, q.1, Evl.sz_lt (by rw [List.length_map, List.length_take]; omega), ?_⟩⟩
      refine ⟨?_, ?_, ?_⟩
      · rw [upd_same]
        congr 2
        have ez : (ns.take 61)[i] = z := (List.getElem?_eq_some_iff.mp hz).2
        rw [List.take_succ_eq_append_getElem hli, ez, List.map_append]
        rfl
      · rw [upd_ne hDp.symm]
        exact q.2.1
      · intro b o e
        rw [upd_ne (ne_of_none e hD0)]
        exact q.2.2 b o e
    · intro H' q
      refine ⟨by show 3 ≤ sizeLine; decide, fun l hl => ?_⟩
      have hlD : D ≠ l := ne_of_none q.1 hl
      have hl0 : H l = none := by
        cases e : H l with
        | none => rfl
        | some o => rw [q.2.2 l o e] at hl; cases hl
      refine k _ l D (fun b o e => by rw [upd_ne (ne_of_none e hl0)]; exact q.2.2 b o e) hl0 hD0 ?_
      have q1 := q.1
      rw [List.length_map, List.take_length] at q1
      exact ⟨ns.take 61, 0, 0, upd_same, by rw [upd_ne hlD]; exact q1, hlD, by rw [List.length_take]; omega, Int.le_refl _, Int.le_refl _, Int.le_refl _⟩

theorem scTake : FnScope ["_law_jar_here", "_law_many", "_law_rest", "_law_at", "_law_cell", "_law_mixed_here"] ["_law_jar_here", "_law_many"] (defScope sDraw) := ⟨rfl, rfl, rfl, by decide +kernel, rfl, by decide +kernel, by decide +kernel⟩
theorem ok_take {f : Addr} {fd : FuncData} (F : Fun K "_law_draw" "_law_draw" sDraw f fd) (T : TxL mg) : FnOk P w K mg base CX0 1 f fd ["_law_jar_here", "_law_many"] spTake := by
  refine F.ok scTake (fun vs H Q E h => ?_) (fun cdv A outer s H vs Q E hr h => ?_)
  · obtain ⟨a, c, m, n, rfl, _⟩ := h
    rfl
  · obtain ⟨a, c, m, n, rfl, ⟨ns, i, r, hA, hC, hca, hlen, i0, hi, r0⟩, hn, m0, hm, k⟩ := h
    refine ⟨_, pss_cons (ps_if (pt_cmpR op_gt (pe_ix ix_list (pv 0) pe_int (fun _ _ => rfl)) pe_int (nomark _))
        (pss_cons (ps_set (i := 2) scTake.nd rfl (Or.inl rfl) (pe_callTy call_int1 (by rfl) T.int (by decide +kernel) (pa_cons (pe_ix ix_list (pv 0) pe_int (fun _ _ => rfl)) pa_nil)))
        (pss_cons (ps_asg (pe_op op_fdivW (pv 2) (pv 1)) (pg_sub (pv 0) pe_int set_list))
        (pss_one (ps_ret (pe_op op_mod (pe_callTy call_int1 (by rfl) T.int (by decide +kernel) (pa_cons (pv 2) pa_nil)) (pv 1)))))) pss_nil)
      (pss_cons (ps_set (i := 3) scTake.nd rfl (Or.inl rfl) (pe_ix ix_list (pv 0) pe_int (fun _ _ => rfl)))
      (pss_cons (ps_asg (pe_op op_add (pv 3) pe_int) (pg_sub (pv 0) pe_int set_list))
      (pss_cons (ps_set (i := 4) scTake.nd rfl (Or.inl rfl) (pe_op op_add (pe_op op_mul pe_int (pv 3)) pe_int))
      (Evl.pss_cut (ps_if (pt_cmpR (op_neD hr.units) (pe_ix ix_list (pv 0) pe_int (fun _ _ => rfl)) (pe_lst pa_nil) (nomark _))
        (pss_one (ps_set (i := 4) scTake.nd rfl (Or.inl rfl) (pe_ix ix_list (pe_ix ix_list (pv 0) pe_int (fun _ _ => rfl)) (pe_op op_mod (pe_callTy call_int1 (by rfl) T.int (by decide +kernel) (pa_cons (pv 3) pa_nil)) (pe_callB call_len_seq (by rfl) T.len PySem.boot_len (pa_cons (pe_ix ix_list (pv 0) pe_int (fun _ _ => rfl)) pa_nil))) (fun _ _ => rfl)))) pss_nil)
      (Evl.pss_cut (ps_if (PW.pt (pw_and (pt_cmpR op_lt (pv 3) (pe_callB call_len_seq (by rfl) T.len PySem.boot_len (pa_cons (pe_ix ix_list (pv 0) pe_int (fun _ _ => rfl)) pa_nil)) (nomark _)) (pw_and1 (pt_cmpR op_ge (pe_callB call_abs (by rfl) T.abs (by decide +kernel) (pa_cons (pv 4) pa_nil)) (pe_op op_pow pe_int pe_int) (nomark _)))))
        (pss_cons (ps_set (i := 2) scTake.nd rfl (Or.inl rfl) (pe_op op_add (pe_op op_mul pe_int (pe_op op_sub (pe_callB call_abs (by rfl) T.abs (by decide +kernel) (pa_cons (pv 4) pa_nil)) (pe_op op_pow pe_int pe_int))) (pe_callTy call_int1 (by rfl) T.int (by decide +kernel) (pa_cons (pe_cmpR op_lt (pv 4) pe_int (nomark _)) pa_nil))))
        (pss_cons (ps_asg (pe_op op_fdivW (pe_callTy call_int1 (by rfl) T.int (by decide +kernel) (pa_cons (pv 2) pa_nil)) (pv 1)) (pg_sub (pv 0) pe_int set_list))
        (pss_one (ps_ret (pe_op op_mod (pe_callTy call_int1 (by rfl) T.int (by decide +kernel) (pa_cons (pv 2) pa_nil)) (pv 1)))))) pss_nil)
      (pss_cons (ps_set (i := 5) scTake.nd rfl (Or.inl rfl) (pe_op op_mod (pe_callTy call_int1 (by rfl) T.int (by decide +kernel) (pa_cons (pe_op op_pow (pe_op op_add (pe_op op_add (pe_op op_mod (pe_callTy call_int1 (by rfl) T.int (by decide +kernel) (pa_cons (pv 4) pa_nil)) pe_int) (pe_op op_mul pe_int (pv 3))) pe_int) pe_int) pa_nil)) pe_int))
      (pss_cons (ps_set (i := 5) scTake.nd rfl (Or.inl rfl) (pe_op op_mod (pe_callTy call_int1 (by rfl) T.int (by decide +kernel) (pa_cons (pe_op op_pow (pe_op op_add (pe_op op_add (pe_op op_mul (pv 5) (pe_op op_add (pe_op op_mul pe_int (pv 3)) pe_int)) (pe_op op_mul (pe_op op_mul pe_int (pv 3)) (pv 3))) pe_int) pe_int) pa_nil)) pe_int))
      (pss_one (ps_ret (pe_op op_mod (pe_callTy call_int1 (by rfl) T.int (by decide +kernel) (pa_cons (pe_op op_fdiv (pv 5) pe_int) pa_nil)) (pv 1)))))))))))
      , ?_⟩
    have hdv : ∀ x : Int, CDivW x m := fun x => wide_div m0 hm (by decide) (by decide)
    -- if hand[2] > 0
    refine ⟨_, rfl, a, _, 2, _, rfl, rfl, SqL.of hA, rfl, _, _, rfl, rfl, _, rfl, ?_⟩
    refine ite2 (fun hp => ?_) (fun _ => ?_)
    · refine ⟨_, rfl, a, _, 2, _, rfl, rfl, SqL.of hA, rfl, .inl ⟨_, rfl, ?_⟩⟩
      refine ⟨_, rfl, _, rfl, _, _, rfl, rfl, hdv _, _, rfl, a, _, 2, 2, rfl, rfl, hA, rfl, ?_⟩
      refine ⟨_, rfl, .inl ⟨_, rfl, _, rfl, _, _, rfl, rfl, m0, ?_⟩⟩
      exact k _ (r % m) (Int.emod_nonneg _ (by omega)) (Int.emod_lt_of_pos _ m0) (HandAt.put hC hca hlen i0 (by omega) (Int.ediv_nonneg r0 (by omega))) Kept.upd
    -- at = hand[1]; hand[1] = at + 1; cell = ..
    refine ⟨_, rfl, a, _, 1, _, rfl, rfl, SqL.of hA, rfl, ?_⟩
    refine ⟨_, rfl, _, _, rfl, rfl, _, rfl, a, _, 1, 1, rfl, rfl, hA, rfl, ?_⟩
    refine ⟨_, rfl, _, _, rfl, rfl, .inl ⟨by decide, by decide⟩, _, _, rfl, rfl, ?_⟩
    -- H1: the heap behind this
    obtain ⟨H1, eH1⟩ : ∃ H1, H1 = upd H a (.lst [.ref c, .int (i + 1), .int r]) := ⟨_, rfl⟩
    have kH : Kept a H H1 := by rw [eH1]; exact Kept.upd
    have hA1 : H1 a = some (.lst [.ref c, .int (i + 1), .int r]) := by rw [eH1]; exact upd_same
    have hC1 : H1 c = some (.lst (ns.map V.int)) := by rw [eH1, upd_ne hca]; exact hC
    show Evl.tCut _ _ _ _ (upd H a (.lst [.ref c, .int (i + 1), .int r]))
    rw [← eH1]
    refine ⟨fun σ' H' => Same H1 H' ∧ ∃ cell : Int, σ' = [some (.ref a), some (.int m), none, some (.int i), some (.int cell), none], ?_, ?_⟩
    · refine ⟨_, rfl, a, _, 0, _, rfl, rfl, SqL.of hA1, rfl, Nat.zero_le _, fun p hp => ?_⟩
      have hcp : c ≠ p := ne_of_none hC1 hp
      have hap : a ≠ p := ne_of_none hA1 hp
      have sm : Same H1 (upd H1 p (.lst [])) := fun b o e => by rw [upd_ne (ne_of_none e hp)]; exact e
      refine ⟨.list (ns.map PyData.int), .list [], .lst (SqL.of (sm _ _ hC1)) (dpInts ns), .lst (SqL.of upd_same) .nil, PySem.W.ke_shaped_ints ns, rfl, _, rfl, ?_⟩
      refine ite2 (fun hne => ?_) (fun _ => ?_)
      · have hn0 : 0 < ns.length := by
          cases ns with
          | nil => exact absurd hne (by decide)
          | cons x xs => exact Nat.succ_pos _
        have hl0 : (0 : Int) < (((ns.map V.int).length : Nat) : Int) := by rw [List.length_map]; omega
        have hj0 : 0 ≤ i % (((ns.map V.int).length : Nat) : Int) := Int.emod_nonneg _ (by omega)
        have hj1 : i % (((ns.map V.int).length : Nat) : Int) < (((ns.map V.int).length : Nat) : Int) := Int.emod_lt_of_pos _ hl0
        obtain ⟨j, hj⟩ : ∃ j : Nat, i % (((ns.map V.int).length : Nat) : Int) = (j : Int) := ⟨(i % (((ns.map V.int).length : Nat) : Int)).toNat, by omega⟩
        have hjl : j < ns.length := by rw [List.length_map] at hj1 hj; omega
        refine ⟨_, rfl, a, _, 0, _, rfl, rfl, SqL.of (sm _ _ hA1), rfl, _, rfl, .inl ⟨_, rfl, ?_⟩⟩
        refine ⟨_, rfl, a, _, 0, _, rfl, rfl, SqL.of (sm _ _ hA1), rfl, c, _, rfl, .inl (SqL.of (sm _ _ hC1)), _, _, rfl, rfl, hl0, c, _, _, .int ns[j], rfl, rfl, SqL.of (sm _ _ hC1), ?_, ?_⟩
        · rw [hj]
          exact atI_nat (by rw [List.getElem?_map, List.getElem?_eq_getElem hjl]; rfl)
        · exact ⟨sm, ns[j], rfl⟩
      · exact ⟨sm, _, rfl⟩
    · rintro σ' H2 ⟨sm, cell, rfl⟩
      have hA2 := sm _ _ hA1
      have hC2 := sm _ _ hC1
      have kH2 : Kept a H H2 := fun b o e q => sm b o (kH b o e q)
      -- a great cell: what is left of it
      refine ⟨fun σ' H' => σ' = [some (.ref a), some (.int m), none, some (.int i), some (.int cell), none] ∧ H' = H2, ?_, ?_⟩
      · refine ⟨_, rfl, _, rfl, a, _, 0, _, rfl, rfl, SqL.of hA2, rfl, c, _, rfl, .inl (SqL.of hC2), _, _, rfl, rfl, _, rfl, ?_⟩
        refine ite2 (fun _ => ?_) (fun _ => ?_)
        · refine ⟨_, rfl, cell, rfl, _, _, rfl, rfl, ⟨by decide, by decide, by decide⟩, _, _, rfl, rfl, _, rfl, ?_⟩
          refine ite2 (fun hge => ?_) (fun _ => ⟨rfl, rfl⟩)
          have hge' := of_decide_eq_true hge
          refine ⟨_, rfl, cell, rfl, _, _, rfl, rfl, ⟨by decide, by decide, by decide⟩, _, _, rfl, rfl, _, _, rfl, rfl, .inl ⟨by decide, by decide⟩, _, rfl, _, _, rfl, rfl, .inr ⟨_, rfl, _, _, rfl, rfl, ?_⟩⟩
          have hr2 : ∀ b : Bool, 0 ≤ 2 * ((if cell < 0 then -cell else cell) - (10 : Int) ^ Int.toNat 18) + (if b = true then 1 else 0) := by
            intro b
            have e1 : (if b = true then (1 : Int) else 0) ≥ 0 := by cases b <;> decide
            have e2 : (10 : Int) ^ Int.toNat 18 ≤ (if cell < 0 then -cell else cell) := hge'
            omega
          refine ⟨_, rfl, .inl ⟨_, rfl, _, rfl, _, _, rfl, rfl, hdv _, _, rfl, a, _, 2, 2, rfl, rfl, hA2, rfl, ?_⟩⟩
          refine ⟨_, rfl, .inl ⟨_, rfl, _, rfl, _, _, rfl, rfl, m0, ?_⟩⟩
          exact k _ _ (Int.emod_nonneg _ (by omega)) (Int.emod_lt_of_pos _ m0) (HandAt.put hC2 hca hlen (by omega) (by omega) (Int.ediv_nonneg (hr2 _) (by omega))) (kH2.trans Kept.upd)
        · exact ⟨rfl, rfl⟩
      · rintro σ' H3 ⟨rfl, rfl⟩
        have hin : i ≤ 10000 := by omega
        have b1 : 0 ≤ cell % 2147483497 := Int.emod_nonneg _ (by decide)
        have b2 : cell % 2147483497 < 2147483497 := Int.emod_lt_of_pos _ (by decide)
        refine ⟨_, rfl, .inl ⟨_, rfl, _, _, rfl, rfl, (by decide : (0 : Int) < 2147483497), _, rfl, _, _, rfl, rfl, .inl ⟨by decide, by decide⟩, _, _, rfl, rfl, _, _, rfl, rfl, _, _, rfl, rfl, ⟨by decide, by decide, ?_⟩, ?_⟩⟩
        · show (cell % 2147483497 + 33343 * i + 6053).natAbs < 2 ^ 64
          have e : (2 : Nat) ^ 64 = 18446744073709551616 := by decide
          rw [e]
          omega
        have hb : ∀ x : Int, ((x % 2147483629) * (2 * i + 1867) + 51157 * i * i + 44159).natAbs < 2 ^ 64 := by
          intro x
          have b3 : 0 ≤ x % 2147483629 := Int.emod_nonneg _ (by decide)
          have b4 : x % 2147483629 < 2147483629 := Int.emod_lt_of_pos _ (by decide)
          have e : (2 : Nat) ^ 64 = 18446744073709551616 := by decide
          have c1 : 0 ≤ (x % 2147483629) * (2 * i + 1867) := Int.mul_nonneg b3 (by omega)
          have c2 : (x % 2147483629) * (2 * i + 1867) ≤ 2147483629 * 21867 := Int.mul_le_mul (by omega) (by omega) (by omega) (by omega)
          have c3 : 0 ≤ 51157 * i * i := Int.mul_nonneg (by omega) i0
          have c4 : 51157 * i * i ≤ 511570000 * 10000 := Int.mul_le_mul (by omega) hin i0 (by omega)
          rw [e]
          omega
        have hc : ∀ x : Int, CMul (x % 2147483629) (2 * i + 1867) := by
          intro x
          have b3 : 0 ≤ x % 2147483629 := Int.emod_nonneg _ (by decide)
          have b4 : x % 2147483629 < 2147483629 := Int.emod_lt_of_pos _ (by decide)
          exact .inl ⟨by omega, by omega⟩
        refine .inl ⟨_, rfl, _, _, rfl, rfl, (by decide : (0 : Int) < 2147483629), ?_⟩
        refine ⟨_, rfl, _, rfl, _, _, rfl, rfl, .inl ⟨by decide, by decide⟩, _, _, rfl, rfl, _, _, rfl, rfl, hc _, _, rfl, _, _, rfl, rfl, .inl ⟨by decide, by decide⟩, _, rfl, _, _, rfl, rfl, .inl ⟨by omega, by omega⟩, _, _, rfl, rfl, _, _, rfl, rfl, _, _, rfl, rfl, ⟨by decide, by decide, hb _⟩, ?_⟩
        refine .inl ⟨_, rfl, _, _, rfl, rfl, (by decide : (0 : Int) < 2147483587), ?_⟩
        refine ⟨_, rfl, _, _, rfl, rfl, ⟨by decide, by decide⟩, .inl ⟨_, rfl, _, rfl, _, _, rfl, rfl, m0, ?_⟩⟩
        exact k _ _ (Int.emod_nonneg _ (by omega)) (Int.emod_lt_of_pos _ m0) ⟨ns, i + 1, r, hA2, hC2, hca, hlen, by omega, by omega, r0⟩ kH2
end
end W09
set_option Elab.async false
set_option linter.all false
set_option maxRecDepth 100000
set_option maxHeartbeats 2000000
namespace W09
open PySem L2 PySem.Spec PyProof.Rows WR WB
structure EqW (P : Program) (w : World) (K : PySem.W.Frag) (mg : Str → Option Value) (base : Heap) (C : Addr) : Prop where
  ex : ∃ (f : Addr) (fd : FuncData), FnOk P w K mg base CX0 1 f fd ["self", "other"] (spEq K C) ∧ PySem.W.findIn K (.ref C) "__eq__" = some (some (.ref f)) ∧ PySem.W.isFn K (.ref f) = true ∧ Binds K fd ["self", "other"] []
/-- two words, held against one another -/
def rEqW (K : PySem.W.Frag) (C : Addr) : R2 := fun x y H Q => ∃ (p q : Addr) (ns ms : List Int), x = .ref p ∧ y = .ref q ∧ WordAt K C H p ns ∧ WordAt K C H q ms ∧ Q (.bl (decide (ns = ms))) H
section
variable {X : Cx} {C : Addr}
theorem op_eqW (M : EqW X.prog X.w X.K X.mg X.base C) {j : Nat} (hr : Room j X.A) (hj : 1 ≤ j) : OpR X (compareOp .Eq) (rEqW X.K C) := by
  intro pins s σ H x y u v Q I rx ry d
  obtain ⟨f, fd, F, hs, hf, hb⟩ := M.ex
  obtain ⟨a, b, ns, ms, rfl, rfl, W1, W2, hq⟩ := d
  cases rx
  cases ry
  obtain ⟨dx, tl, tk, ks, ha, _⟩ := id W1
  obtain ⟨dx', tl', tk', ks', hb', _⟩ := id W2
  obtain ⟨mA, J, _⟩ := ins_get I.hok ha
  obtain ⟨mB, J', _⟩ := ins_get I.hok hb'
  obtain ⟨od, J, _⟩ := J.look
  obtain ⟨od', J', _⟩ := J'.look
  obtain ⟨m, hF⟩ := I.fr
  have rm : Room 1 X.A := hr.mono hj
  show wpAny (model X.prog X.w) X.A (richCompare .Eq (.ref a) (.ref b)) (EP X pins σ Q) X.xe s
  refine PySem.W.cmp_K (op := .Eq) (tb := .ref C) rm.units0 hF I.ok.mod.kin J J'.type (by simp [PySem.W.notFirst]) hs hf ?_
  have hsp : spEq X.K C [.ref a, .ref b] H (fun v H' => ∃ c, v = .bl c ∧ Q (.bl c) H') E0 := ⟨a, b, ns, ms, rfl, W1, W2, _, rfl, hq⟩
  have e0 : Env0 X.prog X.w X.K X.mg X.base X.A X.stack s H := I.env0
  have hl := F.len _ _ _ _ hsp
  have r2 : Vals [V.ref a, V.ref b] [Value.ref a, Value.ref b] := .cons rfl (.cons rfl .nil)
  refine wpAny_call (codeAny_mono (F.run X.A X.stack s H ⟨[.ref a, .ref b], []⟩ [.ref a, .ref b] [.ref a, .ref b] _ E0 rm e0 (by
    have := hb s [.ref a, .ref b] I.kIn (by simpa using hl)
    simpa using this) r2 hsp) fun r s' hq => ?_)
  cases r with
  | error e => exact pass0 pins σ H s e s' I hq
  | ok fl =>
    cases fl with
    | ret w =>
      obtain ⟨z, H', I', rz, c, ez, q⟩ := I.after hq
      subst ez
      cases rz
      exact ⟨.bl c, H', I', rfl, q⟩
    | next => exact False.elim hq
    | brk => exact False.elim hq
    | cont => exact False.elim hq
end
end W09
set_option Elab.async false
set_option linter.all false
set_option maxRecDepth 100000
set_option maxHeartbeats 2000000
/-! x != y, of two instances whose class has an own == and no own !=. -/
namespace NeK
open PySem PySem.Spec PyProof.Rows PySem.SeqAt
section
variable {M : Model} {prog : Program} {w : World} {A : Around} {E : Value → Shared → Prop} {s : Shared} {K : PySem.W.Frag} {x y f C : Addr} {ox oy : Obj} {od od' : Option Obj}
theorem ne_entry (hu : A.units < cLine) (X : K.In s.heap) (I : PySem.W.InstAt s.heap x ox C od) (hs : PySem.W.findIn K (.ref C) "__eq__" = some (some (.ref f))) (hf : PySem.W.isFn K (.ref f) = true) {Q : Fin → Shared → Prop}
    (hcall : wpAny (model prog w) A (call (.ref f) [.ref x, .ref y]) (fun v s' => ∃ b, v = .bool b ∧ Q (.done (.ret (.bool (!b)))) s') E s) :
    wpAny (model prog w) A (Builtin.«object.__ne__» ⟨[.ref x, .ref y], []⟩) Q E s := by
  unfold Builtin.«object.__ne__»
  repeat (first
    | with_reducible refine wpAny_cRoomFor hu ?_
    | (refine wpAny_bind (m := callSpecialIfBound? (.ref x) (Str.ofString "__eq__") [.ref y])
        (PySem.W.ifBound_K X I hs hf (wpAny_mono hcall (fun r s' hr => by
          obtain ⟨b, rfl, hq⟩ := hr
          repeat (first | exact hq | exact wpAny_pure hq | exact wpAny_truthy_bool hq | (refine wpAny_bind (m := truthy (.bool _)) (wpAny_truthy_bool ?_)) | wp_step)) fun _ _ e => e)))
    | wp_step)
theorem ifBound_ne {args : List Value} {Q : Option Value → Shared → Prop} (X : K.In s.heap) (I : PySem.W.InstAt s.heap x ox C od) (hs : PySem.W.findIn K (.ref C) "__ne__" = some (some (.builtin "object.__ne__")))
    (h : wpAny M A (call (.builtin "object.__ne__") (.ref x :: args)) (fun v => Q (some v)) E s) : wpAny M A (callSpecialIfBound? (.ref x) "__ne__" args) Q E s := by
  simp only [callSpecialIfBound?, bindSpecialIfBound?]
  refine wpAny_holding (wpAny_bind (wpAny_bind (wpAny_bind (I.type.here ((PySem.W.looks_findIn X hs).here ?_)))))
  refine wpAny_bind (wpAny_askSetting (wpAny_ite ?_))
  have fin : wpAny M A (call (.builtin "object.__ne__") ([.ref x] ++ args) >>= fun v => pure (some v)) Q E s := wpAny_bind (wpAny_mono h (fun v s' h' => wpAny_pure h') fun _ _ h' => h')
  split
  · exact wpAny_bind (wpAny_of_eq (F.cmp_object.ne.bind _) (wpAny_pure (by exact fin)))
  · exact wpAny_tryCatch (wpAny_bind (wpAny_of_eq (F.cmp_object.ne.bind _) (wpAny_pure (by exact fin))))
theorem rc_ne (hu : A.units + 1 < cLine) (X : K.In s.heap) (I : PySem.W.InstAt s.heap x ox C od) (I' : PySem.W.InstAt s.heap y oy C od') (hm : PySem.W.mroIn K C (.type "object") = some true) (hs : PySem.W.findIn K (.ref C) "__eq__" = some (some (.ref f))) (hf : PySem.W.isFn K (.ref f) = true)
    (hn : PySem.W.findIn K (.ref C) "__ne__" = some (some (.builtin "object.__ne__"))) {Q : Value → Shared → Prop}
    (hcall : wpAny (model prog w) A.in1 (call (.ref f) [.ref x, .ref y]) (fun v s' => ∃ b, v = .bool b ∧ Q (.bool (!b)) s') E s) :
    wpAny (model prog w) A (richCompare .NotEq (.ref x) (.ref y)) Q E s := by
  have one : wpAny (model prog w) A (tryCompare (.ref x) "__ne__" (.ref y)) (fun r s' => ∃ b, r = some (.bool b) ∧ Q (.bool b) s') E s := by
    unfold tryCompare
    refine wpAny_bind (ifBound_ne X I hn (wpAny_call (codeAny_call_builtin F.cmp_object.ne.plain F.cmpEntry_ne (PySem.W.check_slot F.cmpKind_ne F.cmpSplit_ne (I.type.andThen (PySem.W.looks_mroIn X hm)) (F.cmpArgs_ne _ _)
      (ne_entry (A := A.in1) hu X I hs hf (wpAny_mono hcall (fun v s' hv => ?_) fun _ _ e => e))))))
    obtain ⟨b, rfl, hq⟩ := hv
    first | exact ⟨b, rfl, wpAny_pure ⟨_, rfl, hq⟩⟩ | exact ⟨b, rfl, wpAny_pure (wpAny_pure ⟨_, rfl, hq⟩)⟩ | exact ⟨b, rfl, _, rfl, hq⟩
  unfold richCompare
  simp only [oneThing_ref]
  refine wpAny_holding (wpAny_bind (wpAny_cRoomFor (Nat.lt_of_succ_lt hu) ?_))
  rw [cmpInfo_NotEq]
  dsimp only
  refine wpAny_bind (I.type.here (wpAny_bind (I'.type.here ?_)))
  rw [show (Value.ref C != Value.ref C) = false from by simp]
  simp only [Bool.false_eq_true, if_false]
  refine wpAny_bind (wpAny_pure ?_)
  simp only [Bool.false_eq_true, if_false]
  refine wpAny_bind (wpAny_mono one (fun v s' hv => ?_) fun _ _ e => e)
  obtain ⟨b, rfl, hq⟩ := hv
  first | exact wpAny_pure hq | exact wpAny_pure (wpAny_pure hq) | exact hq
end
end NeK
namespace W09
open PySem L2 PySem.Spec PyProof.Rows WR WB
def rNeW (K : PySem.W.Frag) (C : Addr) : R2 := fun x y H Q => ∃ (p q : Addr) (ns ms : List Int), x = .ref p ∧ y = .ref q ∧ WordAt K C H p ns ∧ WordAt K C H q ms ∧ Q (.bl (!decide (ns = ms))) H
section
variable {X : Cx} {C : Addr}
theorem op_neW (M : EqW X.prog X.w X.K X.mg X.base C) (hne : PySem.W.findIn X.K (.ref C) "__ne__" = some (some (.builtin "object.__ne__"))) (hmr : PySem.W.mroIn X.K C (.type "object") = some true) {j : Nat} (hr : Room j X.A) (hj : 2 ≤ j) : OpR X (compareOp .NotEq) (rNeW X.K C) := by
  intro pins s σ H x y u v Q I rx ry d
  obtain ⟨f, fd, F, hs, hf, hb⟩ := M.ex
  obtain ⟨a, b, ns, ms, rfl, rfl, W1, W2, hq⟩ := d
  cases rx
  cases ry
  obtain ⟨dx, tl, tk, ks, ha, _⟩ := id W1
  obtain ⟨dx', tl', tk', ks', hb', _⟩ := id W2
  obtain ⟨mA, J, _⟩ := ins_get I.hok ha
  obtain ⟨mB, J', _⟩ := ins_get I.hok hb'
  obtain ⟨od, J, _⟩ := J.look
  obtain ⟨od', J', _⟩ := J'.look
  have rm2 : Room 2 X.A := hr.mono hj
  have rm : Room 1 X.A.in1 := rm2.in1
  show wpAny (model X.prog X.w) X.A (richCompare .NotEq (.ref a) (.ref b)) (EP X pins σ Q) X.xe s
  refine NeK.rc_ne (by have := rm.units0; exact this) I.kIn J J' hmr hs hf hne ?_
  have hsp : spEq X.K C [.ref a, .ref b] H (fun v H' => ∃ c, v = .bl c ∧ Q (.bl (!c)) H') E0 := ⟨a, b, ns, ms, rfl, W1, W2, _, rfl, hq⟩
  have e0 : Env0 X.prog X.w X.K X.mg X.base X.A.in1 X.stack s H := by
    have e := I.env0
    exact ⟨e.frames, e.mod, e.bs, e.bsz, e.funs, e.frf, e.hok, e.bare⟩
  have hl := F.len _ _ _ _ hsp
  have r2 : Vals [V.ref a, V.ref b] [Value.ref a, Value.ref b] := .cons rfl (.cons rfl .nil)
  refine wpAny_call (codeAny_mono (F.run X.A.in1 X.stack s H ⟨[.ref a, .ref b], []⟩ [.ref a, .ref b] [.ref a, .ref b] _ E0 rm e0 (by
    have := hb s [.ref a, .ref b] I.kIn (by simpa using hl)
    simpa using this) r2 hsp) fun r s' hq => ?_)
  cases r with
  | error e => exact pass0 pins σ H s e s' I hq
  | ok fl =>
    cases fl with
    | ret w =>
      obtain ⟨z, H', I', rz, c, ez, q⟩ := I.after hq
      subst ez
      cases rz
      exact ⟨c, rfl, .bl (!c), H', I', rfl, q⟩
    | next => exact False.elim hq
    | brk => exact False.elim hq
    | cont => exact False.elim hq
end
end W09
set_option Elab.async false
set_option linter.all false
set_option maxRecDepth 100000
set_option maxHeartbeats 2000000
namespace W09
open PySem L2 PySem.Spec PyProof.Rows WR WB
abbrev sPick : Stmt := top 53
abbrev sLetters : Stmt := top 54
abbrev sConL : Stmt := top 55
def Drew (a c : Addr) (n : Nat) (H H' : Hp) : Prop := HandAt H' a c n ∧ Kept a H H'
theorem HandAt.mono {H : Hp} {a c : Addr} {m n : Nat} (h : HandAt H a c m) (l : m ≤ n) : HandAt H a c n := by
  obtain ⟨ns, i, r, h1, h2, h3, h4, h5, h6, h7⟩ := h
  exact ⟨ns, i, r, h1, h2, h3, h4, h5, by omega, h7⟩
theorem HandAt.off {H : Hp} {a c p : Addr} {n : Nat} {o : HO} (h : HandAt H a c n) (h1 : p ≠ a) (h2 : p ≠ c) : HandAt (L2.upd H p o) a c n := by
  obtain ⟨ns, i, r, h3, h4, h5⟩ := h
  exact ⟨ns, i, r, by rw [upd_ne h1.symm]; exact h3, by rw [upd_ne h2.symm]; exact h4, h5⟩
theorem HandAt.ne {H : Hp} {a c p : Addr} {n : Nat} (h : HandAt H a c n) (hp : H p = none) : p ≠ a := by
  obtain ⟨ns, i, r, h1, _⟩ := h
  exact (ne_of_none h1 hp).symm
theorem HandAt.neC {H : Hp} {a c p : Addr} {n : Nat} (h : HandAt H a c n) (hp : H p = none) : p ≠ c := by
  obtain ⟨ns, i, r, h1, h2, _⟩ := h
  exact (ne_of_none h2 hp).symm
theorem HandAt.new {H : Hp} {a c p : Addr} {n : Nat} {o : HO} (h : HandAt H a c n) (hp : H p = none) : HandAt (L2.upd H p o) a c n := h.off (h.ne hp) (h.neC hp)
theorem Drew.refl {a c : Addr} {n : Nat} {H : Hp} (h : HandAt H a c n) : Drew a c n H H := ⟨h, Kept.refl⟩
theorem Drew.trans {a c : Addr} {m n : Nat} {H H1 H2 : Hp} (h1 : Drew a c m H H1) (h2 : Drew a c n H1 H2) : Drew a c n H H2 := ⟨h2.1, h1.2.trans h2.2⟩
theorem Drew.new {a c p : Addr} {n : Nat} {H H1 : Hp} {o : HO} (h : Drew a c n H H1) (hp : H1 p = none) : Drew a c n H (L2.upd H1 p o) := ⟨h.1.new hp, h.2.new hp⟩
theorem Drew.mono {a c : Addr} {m n : Nat} {H H1 : Hp} (h : Drew a c m H H1) (l : m ≤ n) : Drew a c n H H1 := ⟨h.1.mono l, h.2⟩
/-- an object that was not there at first may change -/
theorem Drew.put {a c p : Addr} {n : Nat} {H H1 : Hp} {o : HO} (h : Drew a c n H H1) (h0 : H p = none) (h1 : p ≠ a) (h2 : p ≠ c) : Drew a c n H (L2.upd H1 p o) :=
  ⟨h.1.off h1 h2, fun b u nb e => by rw [upd_ne (ne_of_none e h0)]; exact h.2 b u nb e⟩
theorem Drew.back {a c p : Addr} {n : Nat} {H H1 : Hp} (h : Drew a c n H H1) (hp : H1 p = none) : H p = none := by
  cases e : H p with
  | none => rfl
  | some o =>
    have q := h.2 p o (h.1.ne hp) e
    rw [hp] at q
    cases q
theorem HandAt.same {H H' : Hp} {a c : Addr} {n : Nat} (h : HandAt H a c n) (s : Same H H') : HandAt H' a c n := by
  obtain ⟨ns, i, r, h1, h2, h3⟩ := h
  exact ⟨ns, i, r, s _ _ h1, s _ _ h2, h3⟩
theorem Drew.same {a c : Addr} {n : Nat} {H H1 H2 : Hp} (h : Drew a c n H H1) (s : Same H1 H2) : Drew a c n H H2 := ⟨h.1.same s, fun b o nb e => s b o (h.2 b o nb e)⟩
/-- a new list of these ints -/
def NewL (H : Hp) (Q : VK) (ns : List Int) : Prop := ∀ p H', H p = none → Same H H' → H' p = some (.lst (iv ns)) → Q (.ref p) H'
def spPick : Sp := fun vs H Q _ => ∃ (a c p : Addr) (xs : List V) (n : Nat), vs = [.ref a, .ref p] ∧ HandAt H a c n ∧ n ≤ 10000 ∧ p ≠ a ∧ H p = some (.lst xs) ∧ 0 < xs.length ∧ xs.length ≤ 1000 ∧ ∀ v ∈ xs, ∀ H', Drew a c (n + 1) H H' → Q v H'
def spLetters : Sp := fun vs H Q _ => ∃ (a c : Addr) (m k n : Nat), vs = [.ref a, .int (m : Int), .int (k : Int)] ∧ HandAt H a c n ∧ m ≤ 600 ∧ n + 2 * m ≤ 9000 ∧ 1 ≤ k ∧ k ≤ 26 ∧
  ∀ p H' ls, H p = none → Drew a c (n + 2 * m) H H' → H' p = some (.lst (iv ls)) → ls.length = m → (∀ x ∈ ls, 1 ≤ x.natAbs ∧ x.natAbs ≤ k) → Q (.ref p) H'
def spConL : Sp := fun vs H Q _ => ∃ (p : Addr) (ns : List Int), vs = [.ref p] ∧ H p = some (.lst (iv ns)) ∧ ns.length ≤ 1000 ∧ NewL H Q (Fr.con ns)
structure TxN (mg : Str → Option Value) : Prop where
  range : mg "range" = none
  list : mg "list" = none
theorem Drew.ofNew {a c p : Addr} {n : Nat} {H H' : Hp} (d : Drew a c n H H') (h0 : HandAt H a c n) {o : HO} (hp : H p = some o) (hn : p ≠ a) : H' p = some o := d.2 _ _ hn hp
section
variable {P : Program} {w : World} {K : PySem.W.Frag} {mg : Str → Option Value} {base : Heap}
theorem scPick : FnScope ["_law_jar_here", "_law_some"] ["_law_jar_here", "_law_some"] (defScope sPick) := ⟨rfl, rfl, rfl, by decide +kernel, rfl, by decide +kernel, by decide +kernel⟩
theorem ok_pick {f : Addr} {fd : FuncData} (F : Fun K "_law_pick" "_law_pick" sPick f fd) (GT : Cal P w K mg base "_law_draw" 1 ["_law_jar_here", "_law_many"] spTake) (T : TxL mg) : FnOk P w K mg base CX0 2 f fd ["_law_jar_here", "_law_some"] spPick := by
  refine F.ok scPick (fun vs H Q E h => ?_) (fun cdv A outer s H vs Q E hr h => ?_)
  · obtain ⟨a, c, p, xs, n, rfl, _⟩ := h
    rfl
  · obtain ⟨a, c, p, xs, n, rfl, hH, hn, hpa, hp, h0, h1, k⟩ := h
    refine ⟨_, pss_one (ps_ret (pe_ix ix_list (pv 1) (pe_cal GT hr (by decide) (by rfl) (pa_cons (pv 0) (pa_cons (pe_callB call_len_seq (by rfl) T.len PySem.boot_len (pa_cons (pv 1) pa_nil)) pa_nil))) (fun _ _ => rfl))), ?_⟩
    refine ⟨_, rfl, _, rfl, _, rfl, p, _, rfl, .inl (SqL.of hp), a, c, _, n, rfl, hH, hn, by omega, ?_, ?_⟩
    · have : (((xs.length : Nat) : Int)).natAbs ≤ 1000 := by omega
      exact Nat.lt_of_le_of_lt this (by decide)
    · intro H' q q0 q1 hH' hK
      obtain ⟨j, rfl⟩ : ∃ j : Nat, q = (j : Int) := ⟨q.toNat, by omega⟩
      have hj : j < xs.length := by omega
      refine ⟨p, xs, _, xs[j], rfl, rfl, SqL.of (hK _ _ hpa hp), atI_nat (List.getElem?_eq_getElem hj), ?_⟩
      exact k _ (List.getElem_mem hj) H' ⟨hH', hK⟩
theorem int_eq {x y : Int} : decide (V.int x = V.int y) = decide (x = y) := by
  rw [Bool.eq_iff_iff, decide_eq_true_iff, decide_eq_true_iff]
  exact ⟨fun e => by injection e, fun e => by rw [e]⟩
abbrev nLetters : List Str := ["_law_jar_here", "_law_many", "_law_kinds", "_law_found", "_law_turn", "_law_kind"]
theorem scLetters : FnScope nLetters ["_law_jar_here", "_law_many", "_law_kinds"] (defScope sLetters) := ⟨rfl, rfl, rfl, by decide +kernel, rfl, by decide +kernel, by decide +kernel⟩
theorem ok_letters {f : Addr} {fd : FuncData} (F : Fun K "_law_letters" "_law_letters" sLetters f fd) (GT : Cal P w K mg base "_law_draw" 1 ["_law_jar_here", "_law_many"] spTake) (T : TxN mg) : FnOk P w K mg base CX0 2 f fd ["_law_jar_here", "_law_many", "_law_kinds"] spLetters := by
  refine F.ok scLetters (fun vs H Q E h => ?_) (fun cdv A outer s H vs Q E hr h => ?_)
  · obtain ⟨a, c, m, k, n, rfl, _⟩ := h
    rfl
  · obtain ⟨a, c, m, k, n, rfl, hH, hm, hn, k1, k26, kq⟩ := h
    refine ⟨_, pss_cons (ps_set (i := 3) scLetters.nd rfl (Or.inl rfl) (pe_lst pa_nil))
      (pss_cons (ps_for PassesOwn.never rfl (pi_range1 (by rfl) T.range (pa_cons (pv 1) pa_nil)) (pg_name (i := 4) scLetters.nd rfl (Or.inl rfl))
        (pss_cons (ps_set (i := 5) scLetters.nd rfl (Or.inl rfl) (pe_op op_add pe_int (pe_cal GT hr (by decide) (by rfl) (pa_cons (pv 0) (pa_cons (pv 2) pa_nil)))))
        (pss_one (ps_expr (pe_bm PySem.F.plainAttrs_list PySem.F.slot_list_append PySem.F.type_list_append mt_append (pv 3) (pa_cons (pe_ifExp (pt_cmpR op_eq (pe_cal GT hr (by decide) (by rfl) (pa_cons (pv 0) (pa_cons pe_int pa_nil))) pe_int (nomark _)) (pv 5) (pe_un un_neg (pv 5))) pa_nil))))))
      (pss_one (ps_ret (pv 3)))), ?_⟩
    refine ⟨Nat.zero_le _, fun l hl => ?_⟩
    have hla := hH.ne hl
    have hlc := hH.neC hl
    refine ⟨_, rfl, m, rfl, by omega, by omega, ?_⟩
    have em : (((m : Nat) : Int)).toNat = m := Int.toNat_natCast m
    refine for_range (lo := 0) (n := (((m : Nat) : Int)).toNat) (fun i σ H' => ∃ v1 v2 ls, σ = [some (.ref a), some (.int (m : Int)), some (.int (k : Int)), some (.ref l), v1, v2] ∧ Drew a c (n + 2 * i) H H' ∧ H' l = some (.lst (iv ls)) ∧ ls.length = i ∧ ∀ x ∈ ls, 1 ≤ x.natAbs ∧ x.natAbs ≤ k)
      ⟨none, none, [], rfl, (Drew.refl hH).new hl, by rw [upd_same]; rfl, rfl, fun _ h => nomatch h⟩ ?_ ?_
    · rintro i σ H1 hi ⟨v1, v2, ls, rfl, d1, hL, hlen, hk⟩
      rw [em] at hi
      refine ⟨_, rfl, _, rfl, a, c, _, n + 2 * i, rfl, d1.1, by omega, by omega, by omega, fun H2 q q0 q1 hH2 hK2 => ?_⟩
      have d2 : Drew a c (n + 2 * i + 1) H H2 := ⟨hH2, d1.2.trans hK2⟩
      have hL2 := hK2 _ _ hla hL
      refine ⟨_, _, rfl, rfl, ?_⟩
      refine ⟨_, rfl, .inl ⟨rfl, _, SqL.of hL2⟩, _, rfl, a, c, 2, n + 2 * i + 1, rfl, hH2, by omega, by decide, by decide, fun H3 q' q0' q1' hH3 hK3 => ?_⟩
      have d3 : Drew a c (n + 2 * i + 1 + 1) H H3 := ⟨hH3, d2.2.trans hK3⟩
      have hL3 := hK3 _ _ hla hL2
      have fin : ∀ z : Int, z.natAbs = (1 + q).natAbs → ∃ v1 v2 ls', [some (V.ref a), some (.int (m : Int)), some (.int (k : Int)), some (.ref l), some (.int (0 + (i : Nat))), some (.int (1 + q))] = [some (.ref a), some (.int (m : Int)), some (.int (k : Int)), some (.ref l), v1, v2] ∧ Drew a c (n + 2 * (i + 1)) H (L2.upd H3 l (.lst (iv ls ++ [.int z]))) ∧ L2.upd H3 l (.lst (iv ls ++ [.int z])) l = some (.lst (iv ls')) ∧ ls'.length = i + 1 ∧ ∀ x ∈ ls', 1 ≤ x.natAbs ∧ x.natAbs ≤ k := by
        intro z hz
        refine ⟨_, _, ls ++ [z], rfl, d3.put hl hla hlc, by rw [upd_same]; simp [iv], by simp [hlen], fun x hx => ?_⟩
        rcases List.mem_append.mp hx with h | h
        · exact hk x h
        · rw [List.mem_singleton.mp h, hz]
          omega
      refine ⟨rfl, _, rfl, ?_⟩
      refine ite2 (fun _ => ?_) (fun _ => ?_)
      · exact ⟨_, rfl, l, _, _, rfl, rfl, hL3, Evl.sz_lt (by simp; omega), fin _ rfl⟩
      · exact ⟨_, rfl, _, rfl, l, _, _, rfl, rfl, hL3, Evl.sz_lt (by simp; omega), fin _ (Int.natAbs_neg _)⟩
    · rintro σ H1 ⟨v1, v2, ls, rfl, d1, hL, hlen, hk⟩
      rw [em] at d1 hlen
      exact ⟨_, rfl, kq l H1 ls hl d1 hL hlen hk⟩
theorem scConL : FnScope ["_law_letters_here", "_law_letter"] ["_law_letters_here"] (defScope sConL) := ⟨rfl, rfl, rfl, by decide +kernel, rfl, by decide +kernel, by decide +kernel⟩
theorem ok_conL {f : Addr} {fd : FuncData} (F : Fun K "_law_contrary" "_law_contrary" sConL f fd) : FnOk P w K mg base CX0 1 f fd ["_law_letters_here"] spConL := by
  refine F.ok scConL (fun vs H Q E h => ?_) (fun cdv A outer s H vs Q E hr h => ?_)
  · obtain ⟨a, ns, rfl, _⟩ := h
    rfl
  · obtain ⟨a, ns, rfl, hS, hlen, k⟩ := h
    refine ⟨_, pss_one (ps_ret (pe_lc (own := [("_law_letter", 1)]) (g := gName 1) (tt := tYes) rfl scConL.nd (pi_list (pe_revL (pv 0)))
      (blkOk_by (N := ["_law_letters_here", "_law_letter"]) (sc := defScope sConL) (by decide +kernel)) (fun _ _ _ _ _ => pg_name (i := 1) scConL.nd rfl (Or.inl rfl)) (fun _ _ _ _ _ => pts_nil)
      (fun _ _ _ _ _ => pe_un un_neg (pv 1)))), ?_⟩
    refine ret_e (lc_in ?_)
    refine ⟨_, rfl, a, iv ns, rfl, SqL.of hS, fun p hp => ?_⟩
    refine ⟨p, rfl, ⟨_, SqL.of upd_same⟩, ?_⟩
    refine lcp (walk_list (xs := (iv ns).reverse)) (fun _ => true) (fun x => match x with | .int i => .int (-i) | _ => .non) (by simp; omega) (fun H2 s2 => SqL.of (s2 _ _ upd_same)) ?_ ?_
    · intro x hx H2 s2 Qy Qn ky kn
      obtain ⟨i, rfl⟩ : ∃ i, x = V.int i := by
        simp at hx
        obtain ⟨i, _, rfl⟩ := hx
        exact ⟨i, rfl⟩
      refine ⟨rfl, yes_te ?_⟩
      exact ⟨_, rfl, i, rfl, ky rfl H2 (fun _ _ e => e)⟩
    · intro D H2 hD s2 h2
      have e : (((iv ns).reverse.filter fun _ => true).map fun x => match x with | .int i => V.int (-i) | _ => .non) = iv (Fr.con ns) := by
        rw [List.filter_eq_self.mpr (fun _ _ => rfl)]
        unfold Fr.con
        simp [iv, List.map_reverse, Function.comp_def]
      rw [e] at h2
      exact k D H2 ((same_upd hp).free hD) ((same_upd hp).trans s2) h2
end
end W09
set_option Elab.async false
set_option linter.all false
/-! Words put for letters, kinds renamed, what a row holds more of a letter than of its contrary. -/
namespace Fr
def sub (f : Int → List Int) (xs : List Int) : List Int := (xs.map f).flatten
/-- the contrary for the contrary -/
def Odd (f : Int → List Int) : Prop := ∀ x, x ≠ 0 → f (-x) = con (f x)
theorem sub_nil (f : Int → List Int) : sub f [] = [] := rfl
theorem sub_cons (f : Int → List Int) (a : Int) (t : List Int) : sub f (a :: t) = f a ++ sub f t := by simp [sub]
theorem sub_app (f : Int → List Int) (xs ys : List Int) : sub f (xs ++ ys) = sub f xs ++ sub f ys := by simp [sub]
theorem sub_one (f : Int → List Int) (a : Int) : sub f [a] = f a := by simp [sub]
theorem sub_congr {f g : Int → List Int} {xs : List Int} (h : ∀ x ∈ xs, f x = g x) : sub f xs = sub g xs := by
  unfold sub
  rw [List.map_congr_left h]
theorem sub_con {f : Int → List Int} (o : Odd f) : ∀ {xs : List Int}, NZ xs → sub f (con xs) = con (sub f xs)
  | [], _ => rfl
  | a :: t, nz => by
    have ha : a ≠ 0 := nz a List.mem_cons_self
    have ht : NZ t := fun x hx => nz x (List.mem_cons_of_mem _ hx)
    rw [con_cons, sub_app, sub_one, sub_cons, con_append, sub_con o ht, o a ha]
theorem sub_push {f : Int → List Int} (o : Odd f) {s : List Int} {a : Int} (ha : a ≠ 0) : Sm (sub f (push s a).reverse) (sub f (s.reverse ++ [a])) := by
  cases s with
  | nil => exact Sm.refl _
  | cons b t =>
    by_cases e : b = -a
    · have h1 : push (b :: t) a = t := by simp [push, e]
      rw [h1, e, List.reverse_cons, sub_app, sub_app, sub_one, sub_one, o a ha, List.append_assoc]
      have := (Sm.refl (sub f t.reverse)).app (sm_con' (f a))
      rw [List.append_nil] at this
      exact this.symm
    · have h1 : push (b :: t) a = a :: b :: t := by simp [push, e]
      rw [h1]
      simp only [List.reverse_cons]
      exact Sm.refl _
theorem sub_act {f : Int → List Int} (o : Odd f) : ∀ {xs : List Int} (s : List Int), NZ xs → Sm (sub f (act s xs).reverse) (sub f (s.reverse ++ xs))
  | [], s, _ => by
    rw [List.append_nil]
    exact Sm.refl _
  | a :: t, s, nz => by
    have ha : a ≠ 0 := nz a List.mem_cons_self
    have ht : NZ t := fun x hx => nz x (List.mem_cons_of_mem _ hx)
    rw [act_cons]
    refine (sub_act o (push s a) ht).trans ?_
    have := (sub_push o (s := s) ha).app (Sm.refl (sub f t))
    rw [← sub_app, ← sub_app, List.append_assoc] at this
    exact this
theorem sub_shr {f : Int → List Int} (o : Odd f) {xs : List Int} (nz : NZ xs) : Sm (sub f (shr xs)) (sub f xs) := sub_act o [] nz
theorem sub_sm {f g : Int → List Int} (h : ∀ x, x ≠ 0 → Sm (f x) (g x)) : ∀ {xs : List Int}, NZ xs → Sm (sub f xs) (sub g xs)
  | [], _ => Sm.refl _
  | a :: t, nz => by
    rw [sub_cons, sub_cons]
    exact (h a (nz a List.mem_cons_self)).app (sub_sm h fun x hx => nz x (List.mem_cons_of_mem _ hx))
theorem sub_id {f : Int → List Int} {xs : List Int} (h : ∀ x ∈ xs, f x = [x]) : sub f xs = xs := by
  induction xs with
  | nil => rfl
  | cons a t ih =>
    rw [sub_cons, h a List.mem_cons_self, ih fun x hx => h x (List.mem_cons_of_mem _ hx)]
    rfl
theorem sub_sub (f g : Int → List Int) : ∀ xs : List Int, sub f (sub g xs) = sub (fun x => sub f (g x)) xs
  | [] => rfl
  | a :: t => by rw [sub_cons, sub_cons, sub_app, sub_sub f g t]
theorem sub_map (h : Int → Int) (xs : List Int) : sub (fun x => [h x]) xs = xs.map h := by
  induction xs with
  | nil => rfl
  | cons a t ih => rw [sub_cons, ih]; rfl
theorem sub_length {f : Int → List Int} {m : Nat} {xs : List Int} (h : ∀ x ∈ xs, (f x).length ≤ m) : (sub f xs).length ≤ xs.length * m := by
  induction xs with
  | nil => simp [sub]
  | cons a t ih =>
    have h1 := h a List.mem_cons_self
    have h2 := ih fun x hx => h x (List.mem_cons_of_mem _ hx)
    rw [sub_cons, List.length_append, List.length_cons, Nat.add_mul]
    omega
theorem sub_mem {f : Int → List Int} {xs : List Int} {y : Int} (h : y ∈ sub f xs) : ∃ x ∈ xs, y ∈ f x := by
  unfold sub at h
  obtain ⟨l, hl, hy⟩ := List.mem_flatten.mp h
  obtain ⟨x, hx, rfl⟩ := List.mem_map.mp hl
  exact ⟨x, hx, hy⟩
/-! ### one kind's letters -/
def putF (k : Int) (os : List Int) (x : Int) : List Int := if x = k then os else if x = -k then con os else [x]
theorem putF_odd {k : Int} (hk : k ≠ 0) (os : List Int) : Odd (putF k os) := by
  intro x hx
  unfold putF
  by_cases h1 : x = k
  · subst h1
    rw [if_neg (by omega), if_pos rfl, if_pos rfl]
  · by_cases h2 : x = -k
    · subst h2
      rw [if_pos (by omega), if_neg h1, if_pos rfl, con_con]
    · rw [if_neg (by omega), if_neg (by omega), if_neg h1, if_neg h2]
      rfl
/-- what is told of the kinds -/
def tabF (g : Int → List Int) (x : Int) : List Int := if 0 < x then g x else con (g (-x))
theorem tabF_odd (g : Int → List Int) : Odd (tabF g) := by
  intro x hx
  unfold tabF
  by_cases h : 0 < x
  · rw [if_neg (by omega), if_pos h, Int.neg_neg]
  · rw [if_pos (by omega), if_neg h, con_con]
theorem tabF_put {k : Int} (hk : 0 < k) (os : List Int) {x : Int} (hx : x ≠ 0) : tabF (fun y => if y = k then os else [y]) x = putF k os x := by
  unfold tabF putF
  by_cases h : 0 < x
  · rw [if_pos h]
    dsimp only
    by_cases e : x = k
    · rw [if_pos e, if_pos e]
    · rw [if_neg e, if_neg e, if_neg (by omega)]
  · rw [if_neg h]
    dsimp only
    have nk : ¬ x = k := by omega
    rw [if_neg nk]
    by_cases e : x = -k
    · rw [if_pos (by omega), if_pos e]
    · rw [if_neg (by omega), if_neg e]
      simp [con]
/-! ### kinds renamed -/
/-- the letter that is told for a kind -/
def told? (prs : List (Int × Int)) (k : Int) : Option Int := (prs.find? fun p => decide (p.1 = k)).map (·.2)
def ren (prs : List (Int × Int)) (x : Int) : Int := if 0 < x then (told? prs x).getD x else -((told? prs (-x)).getD (-x))
theorem ren_odd (prs : List (Int × Int)) {x : Int} (hx : x ≠ 0) : ren prs (-x) = -ren prs x := by
  unfold ren
  by_cases h : 0 < x
  · rw [if_neg (by omega), if_pos h, Int.neg_neg]
  · rw [if_pos (by omega), if_neg h, Int.neg_neg]
theorem renF_odd (prs : List (Int × Int)) : Odd fun x => [ren prs x] := fun x hx => by
  show [ren prs (-x)] = con [ren prs x]
  rw [ren_odd prs hx]
  rfl
theorem told_nil (k : Int) : told? [] k = none := rfl
theorem told_cons (p : Int × Int) (r : List (Int × Int)) (k : Int) : told? (p :: r) k = if p.1 = k then some p.2 else told? r k := by
  unfold told?
  rw [List.find?_cons]
  by_cases h : p.1 = k
  · rw [if_pos h, decide_eq_true h]
    rfl
  · rw [if_neg h, decide_eq_false h]
theorem told_some {prs : List (Int × Int)} {k l : Int} (h : told? prs k = some l) : (k, l) ∈ prs := by
  induction prs with
  | nil => cases h
  | cons p r ih =>
    rw [told_cons] at h
    by_cases e : p.1 = k
    · rw [if_pos e] at h
      obtain rfl := Option.some.inj h
      rw [← e]
      exact List.mem_cons_self
    · rw [if_neg e] at h
      exact List.mem_cons_of_mem _ (ih h)
theorem told_in {prs : List (Int × Int)} (nd : (prs.map (·.1)).Nodup) {k l : Int} (h : (k, l) ∈ prs) : told? prs k = some l := by
  induction prs with
  | nil => cases h
  | cons p r ih =>
    rw [List.map_cons, List.nodup_cons] at nd
    rw [told_cons]
    rcases List.mem_cons.mp h with h | h
    · rw [← h, if_pos rfl]
    · have : p.1 ≠ k := fun e => nd.1 (List.mem_map.mpr ⟨_, h, e.symm⟩)
      rw [if_neg this]
      exact ih nd.2 h
theorem told_none {prs : List (Int × Int)} {k : Int} (h : told? prs k = none) {l : Int} : (k, l) ∉ prs := by
  induction prs with
  | nil => exact fun q => nomatch q
  | cons p r ih =>
    rw [told_cons] at h
    by_cases e : p.1 = k
    · rw [if_pos e] at h
      cases h
    · rw [if_neg e] at h
      intro q
      rcases List.mem_cons.mp q with q | q
      · rw [← q] at e
        exact e rfl
      · exact ih h q
/-- the order is nothing -/
theorem told_perm {ps qs : List (Int × Int)} (np : (ps.map (·.1)).Nodup) (h : ∀ p, p ∈ ps ↔ p ∈ qs) (nq : (qs.map (·.1)).Nodup) (k : Int) : told? ps k = told? qs k := by
  cases e : told? ps k with
  | some l => exact (told_in nq ((h _).mp (told_some e))).symm
  | none =>
    cases e2 : told? qs k with
    | none => rfl
    | some l => exact absurd ((h _).mpr (told_some e2)) (told_none e)
theorem ren_perm {ps qs : List (Int × Int)} (np : (ps.map (·.1)).Nodup) (h : ∀ p, p ∈ ps ↔ p ∈ qs) (nq : (qs.map (·.1)).Nodup) (x : Int) : ren ps x = ren qs x := by
  unfold ren
  rw [told_perm np h nq, told_perm np h nq]
/-! ### balance -/
def cnt (xs : List Int) (k : Int) : Int := (xs.count k : Int) - (xs.count (-k) : Int)
theorem cnt_app (xs ys : List Int) (k : Int) : cnt (xs ++ ys) k = cnt xs k + cnt ys k := by
  unfold cnt
  rw [List.count_append, List.count_append]
  omega
theorem cnt_nil (k : Int) : cnt [] k = 0 := rfl
theorem cnt_con (xs : List Int) (k : Int) : cnt (con xs) k = -cnt xs k := by
  have h : ∀ j : Int, (con xs).count j = xs.count (-j) := by
    intro j
    unfold con
    rw [← List.count_reverse (l := xs)]
    generalize xs.reverse = ys
    induction ys with
    | nil => rfl
    | cons a t ih =>
      rw [List.map_cons, List.count_cons, List.count_cons, ih]
      have : (-a == j) = (a == -j) := by
        rw [Bool.eq_iff_iff, beq_iff_eq, beq_iff_eq]
        omega
      rw [this]
  unfold cnt
  rw [h, h, Int.neg_neg]
  omega
theorem cnt_one (a k : Int) : cnt [a] k = (if a = k then 1 else 0) - (if a = -k then 1 else 0) := by
  unfold cnt
  simp only [List.count_cons, List.count_nil, beq_iff_eq]
  split <;> split <;> rfl
theorem cnt_cons (a : Int) (t : List Int) (k : Int) : cnt (a :: t) k = cnt [a] k + cnt t k := cnt_app [a] t k
theorem cnt_pair (a k : Int) : cnt [-a] k = -cnt [a] k := cnt_con [a] k
theorem cnt_push (s : List Int) (a k : Int) : cnt (push s a) k = cnt s k + cnt [a] k := by
  cases s with
  | nil => rw [cnt_nil]; show cnt [a] k = _; omega
  | cons b t =>
    by_cases e : b = -a
    · have h1 : push (b :: t) a = t := by simp [push, e]
      rw [h1, e, cnt_cons (-a) t, cnt_pair]
      omega
    · have h1 : push (b :: t) a = a :: b :: t := by simp [push, e]
      rw [h1, cnt_cons a]
      omega
theorem cnt_act : ∀ (xs s : List Int) (k : Int), cnt (act s xs) k = cnt s k + cnt xs k
  | [], s, k => by rw [act_nil, cnt_nil]; omega
  | a :: t, s, k => by
    rw [act_cons, cnt_act t, cnt_push, cnt_cons a t]
    omega
theorem cnt_rev (xs : List Int) (k : Int) : cnt xs.reverse k = cnt xs k := by
  unfold cnt
  rw [List.count_reverse, List.count_reverse]
theorem cnt_shr (xs : List Int) (k : Int) : cnt (shr xs) k = cnt xs k := by
  unfold shr
  rw [cnt_rev, cnt_act, cnt_nil]
  omega
theorem cnt_rep (n : Nat) (xs : List Int) (k : Int) : cnt (rep n xs) k = n * cnt xs k := by
  induction n with
  | zero => rw [rep_zero, cnt_nil]; simp
  | succ n ih =>
    rw [rep_succ, cnt_app, ih, Int.natCast_add, Int.add_mul]
    show cnt xs k + _ = _ + 1 * cnt xs k
    omega
theorem cnt_sub {k : Int} (hk : 0 < k) (os : List Int) {e : Int} (he : 0 < e) : ∀ xs : List Int, NZ xs → cnt (sub (putF k os) xs) e = (if e = k then 0 else cnt xs e) + cnt xs k * cnt os e
  | [], _ => by rw [sub_nil, cnt_nil, cnt_nil]; simp
  | a :: t, nz => by
    have ih := cnt_sub hk os he t fun x hx => nz x (List.mem_cons_of_mem _ hx)
    have ha : a ≠ 0 := nz a List.mem_cons_self
    rw [sub_cons, cnt_app, ih, cnt_cons a t, cnt_cons a t k, Int.add_mul]
    have c1 : ∀ j : Int, 0 < j → cnt [j] j = 1 := fun j hj => by rw [cnt_one, if_pos rfl, if_neg (by omega)]; rfl
    have c0 : ∀ i j : Int, i ≠ j → i ≠ -j → cnt [i] j = 0 := fun i j h1 h2 => by rw [cnt_one, if_neg h1, if_neg h2]; rfl
    have key : cnt (putF k os a) e = (if e = k then 0 else cnt [a] e) + cnt [a] k * cnt os e := by
      unfold putF
      by_cases h1 : a = k
      · rw [if_pos h1, h1, c1 k hk]
        by_cases h2 : e = k
        · rw [if_pos h2]; omega
        · rw [if_neg h2, c0 k e (by omega) (by omega)]; omega
      · rw [if_neg h1]
        by_cases h2 : a = -k
        · rw [if_pos h2, cnt_con, h2, cnt_pair, cnt_pair, c1 k hk]
          by_cases h3 : e = k
          · rw [if_pos h3]; omega
          · rw [if_neg h3, c0 k e (by omega) (by omega)]; omega
        · rw [if_neg h2, c0 a k h1 h2]
          by_cases h3 : e = k
          · rw [if_pos h3, h3, c0 a k h1 h2]; omega
          · rw [if_neg h3]; omega
    rw [key]
    by_cases h3 : e = k
    · rw [if_pos h3]; omega
    · rw [if_neg h3, if_neg h3, if_neg h3]; omega
/-- each kind that stands more often forward than backward, or less -/
def bal (xs : List Int) : List (Int × Int) := ((List.range 26).map fun (i : Nat) => ((i : Int) + 1, cnt xs ((i : Int) + 1))).filter fun p => decide (p.2 ≠ 0)
theorem bal_congr {xs ys : List Int} (h : ∀ k, cnt xs k = cnt ys k) : bal xs = bal ys := by
  unfold bal
  congr 1
  exact List.map_congr_left fun i _ => by rw [h]
theorem bal_shr (xs : List Int) : bal (shr xs) = bal xs := bal_congr (cnt_shr xs)
end Fr
set_option Elab.async false
set_option linter.all false
set_option maxRecDepth 100000
set_option maxHeartbeats 2000000
/-! (a, b, ..) = a list of that length. -/
namespace UL
open PySem PySem.Spec PyProof PyProof.Rows L2
section
variable {prog : Program} {w : World} {A : Around} {E : Value → Shared → Prop}
theorem drawn {it l : Addr} {items : Array Value} (ne : l ≠ it) : ∀ (n i : Nat) (s : Shared) (Q : List Value → Shared → Prop), s.heap.IsListIter it l i → s.heap.IsList l items → i + n = items.size →
    (∀ h', h'.IsListIter it l (i + n) → h'.IsList l items → Heap.SameBut it s.heap h' → Q (items.toList.drop i) { s with heap := h' }) → wpAny (model prog w) A (draw (.ref it) n) Q E s
  | 0, i, s, Q, hit, hl, e, k => by
    have ed : items.toList.drop i = [] := List.drop_eq_nil_of_le (by simp; omega)
    have := k s.heap hit hl (Heap.SameBut.refl ..)
    rw [ed] at this
    exact wpAny_pure this
  | n + 1, i, s, Q, hit, hl, e, k => by
    have lt : i < items.size := by omega
    show wpAny _ _ (pyNext (.ref it) >>= _) Q E s
    refine wpAny_bind (wpAny_pyNext_list_item hit hl (x := items[i]) (by simp [lt]) fun h1 hit1 s1 => ?_)
    refine wpAny_bind (wpAny_holding (drawn ne n (i + 1) _ _ hit1 (hl.extBut s1.extBut ne) (by omega) fun h2 hit2 hl2 s2 => wpAny_pure ?_))
    have := k h2 (by rw [show i + (n + 1) = i + 1 + n by omega]; exact hit2) hl2 (s1.trans s2)
    rw [List.drop_eq_getElem_cons (by simpa using lt)] at this
    exact this
theorem unpacked {l : Addr} {items : Array Value} {s : Shared} {Q : List Value → Shared → Prop} (hh : A.handled = none) (hl : s.heap.IsList l items)
    (k : ∀ h', Heap.ExtBut s.heap.objs.size s.heap h' → Q items.toList { s with heap := h' }) : wpAny (model prog w) A (unpackItems (.ref l) items.size none) Q E s := by
  have ne : l ≠ s.heap.objs.size := by
    obtain ⟨o, ho, _⟩ := id hl
    exact Nat.ne_of_lt (Heap.lt_size ho)
  unfold unpackItems notIterableAtAll
  refine wpAny_bind (wpAny_bind (wpAny_specialOf hl.typeIs slot_list_iter.lookup ?_))
  refine wpAny_pure ?_
  simp only [Bool.false_eq_true, if_false]
  refine wpAny_bind (wpAny_holding (wpAny_pyIter_list hl ?_))
  refine wpAny_bind (wpAny_holding (drawn ne items.size 0 _ _ ⟨_, Heap.get?_push_size _ rfl, rfl, rfl⟩ (hl.push _) (by omega) fun h1 hit1 hl1 s1 => ?_))
  rw [List.drop_zero, if_neg (by simp)]
  refine wpAny_bind (wpAny_holding (wpAny_pyNext_list_end hh hit1 hl1 (by simp) fun h2 e2 => ?_))
  simp only [Option.isSome_none, Bool.false_eq_true, if_false]
  exact wpAny_pure (k h2 fun b o hb e => e2 b o hb (s1.extBut b o hb (Heap.get?_push_of_some _ e)))
end
section
variable {X : Cx} {pos : Pos}
/-- (a, b, ..) = a list or a tuple of that length -/
def gEither (K : PySem.W.Frag) (n : Nat) (t : TGs) : TG := fun v σ H Q => ∃ a xs, v = .ref a ∧ (SqL K H a xs ∨ SqT K H a xs) ∧ xs.length = n ∧ t xs σ H Q
theorem pg_either {es : List Expr} {k : Nat} {t : TGs} {n : Nat} (hc : X.calm = true) (h : PGs X es t)
    (hn : (assignEach es X.env).length = n := by rfl) (hst : (assignEach es X.env).findIdx? (·.1) = none := by rfl) : PG X (.Tuple es k pos) (gEither X.K n t) := by
  refine ⟨fun pins s σ H v u Q I r hw => ?_⟩
  obtain ⟨a, xs, e1, hq, hl, hw⟩ := hw
  rcases hq with hq | hq
  · subst e1
    cases r
    obtain ⟨its, rv, ht⟩ : ∃ its : List Value, Vals xs its ∧ s.heap.IsList a its.toArray := by
      obtain ⟨its, rv, ⟨o, n, e, hcl, _, hdt⟩, _⟩ := I.list hq
      exact ⟨its, rv, o, e, hcl, n, hdt⟩
    rw [assign_Tuple]
    refine wpAny_bind (wpAny_standAt ?_)
    unfold unpack
    have e2 : (assignEach es X.env).length = its.toArray.size := by simp [hn, ← hl, rv.length]
    rw [e2, hst]
    refine wpAny_bind (wpAny_holding (unpacked (I.ok.hd hc) ht fun h' hx => ?_))
    have I1 : Inv X pins σ H { s with heap := h' } := I.kept (t' := s.toks) fun b o e => hx b o (Nat.ne_of_lt (Heap.lt_size e)) e
    exact h.run pins _ σ H xs _ Q I1 (by simpa using rv) hw
  · exact (pg_tup hc h hn hst).run pins s σ H v u Q I r ⟨a, xs, e1, hq, hl, hw⟩
end
end UL
set_option Elab.async false
set_option linter.all false
set_option maxRecDepth 100000
set_option maxHeartbeats 2000000
/-! xs.extend(t), t a tuple. -/
namespace XT
open PySem PySem.Spec PyProof PyProof.Rows L2
theorem meets_tup (l : Addr) (items : Array Value) (n : Nat) (b : Addr) (items2 : Array Value) (n2 : Nat) (d2 : Option Addr) (sl2 : Array (Option Value)) (h0 : ¬(!items.isEmpty && Builtin.List.listTooLong (items.size + items2.size)) = true) (h1 : items.size ≤ sizeLine) (h2 : items.size + items2.size ≤ sizeLine + 1) :
    Meets (Builtin.«list.extend» ⟨[.ref l, .ref b], []⟩) (fun _ R s => s.heap.get? l = some { cls := .type "list", dict := none, data := .seq items n, slots := #[] } ∧ s.heap.get? b = some { cls := .type "tuple", dict := d2, data := .seq items2 n2, slots := sl2 } ∧
      R (.ok (.ret Value.none)) { s with heap := s.heap.update l (Obj.mapSeq fun x => x ++ items2), toks := s.toks }) :=
  .of_wp fun prog w A R s h => by
    obtain ⟨hp, g, d, tk, os⟩ := s
    obtain ⟨hl, hb, h⟩ := h
    have e2 : (items ++ items2).size ≤ sizeLine + 1 := by rw [Array.size_append]; exact h2
    wp_walk using (wpAny_updateSeq hl rfl (hz := h1) (_hz' := e2)), wpAny_loadPart' hl, wpAny_loadPart' hb
    exact ⟨_, rfl, h⟩
section
variable {X : Cx}
def rExtT (K : PySem.W.Frag) : V → List V → Hp → VK → Prop := fun x vs H Q => ∃ l b xs zs, x = .ref l ∧ vs = [.ref b] ∧ H l = some (.lst xs) ∧ SqT K H b zs ∧ xs.length + zs.length ≤ sizeLine ∧ Q .non (upd H l (.lst (xs ++ zs)))
theorem mt_extT : MtM X "list.extend" (rExtT X.K) := by
  intro pins s σ H x vs v us Q I rx rv h
  obtain ⟨l, b, xs, zs, rfl, rfl, hH, hB, hz, q⟩ := h
  cases rx
  obtain ⟨u, rfl, ru⟩ := rv.one
  cases ru
  obtain ⟨z, its, n, r, hl, e⟩ := I.lstM hH
  obtain ⟨its2, r2, ⟨o2, e2, c2, n2, d2⟩, z2⟩ := I.tuple hB
  obtain ⟨oc, od, dt, sl⟩ := o2
  dsimp only at c2 d2
  subst c2 d2
  have hl2 := r2.length
  have hsz : its.toArray.size + its2.toArray.size ≤ sizeLine := by rw [List.size_toArray, List.size_toArray]; omega
  have hlong : ¬ (!its.toArray.isEmpty && Builtin.List.listTooLong (its.toArray.size + its2.toArray.size)) = true := by
    rw [notLongL hsz, Bool.and_false]
    exact Bool.false_ne_true
  refine call_meets F.slot_list_extend ⟨_, e, rfl⟩ F.entry_list_extend (F.args_list_extend_2 _ _)
    (meets_tup l its.toArray n b its2.toArray n2 od sl hlong (by rw [List.size_toArray]; omega) (by omega)) ⟨e, e2, ?_⟩
  refine ⟨.non, _, I.lset (its' := its ++ its2) hH e (by simp) (r.append r2) ?_, rfl, q⟩
  rw [List.length_append]
  omega
end
end XT
set_option Elab.async false
set_option linter.all false
set_option maxRecDepth 100000
set_option maxHeartbeats 2000000
/-! C.m(..), m a staticmethod of the class C. -/
namespace MStat
open PySem L2 PySem.Spec PyProof.Rows
/-- m is a staticmethod of C: its record at p, its def at g -/
structure SMet (K : PySem.W.Frag) (C : Addr) (mc : Value) (m : Str) (p g : Addr) : Prop where
  rd : PySem.W.readsIn K C mc = true
  ga : PySem.W.specialIn K (.ref C) "__getattribute__" = some (some (.builtin "type.__getattribute__"))
  at_ : PySem.W.findCls K (.ref C) mc m = some (.get (.builtin "staticmethod.__get__") (.ref p) .none (.ref C))
  rc : ∃ rest, PySem.W.recIn K p "staticmethod" = some (.ref g :: rest)
  kp : PySem.W.keepIn K (.ref g) = true
section
variable {X : Cx} {pins : List (Addr × Obj)} {σ : L2.St} {H : Hp} {s : Shared} {C p g : Addr} {mc : Value} {m : Str} {A : Around} {E : Value → Shared → Prop}
theorem getsm_ok {pl : Sem Bool} {Q : Value × List Value → Shared → Prop} (I : Inv X pins σ H s) (k : SMet X.K C mc m p g) (h : ∀ s', Inv X pins σ H s' → Q (.ref g, []) s') : wpAny (model X.prog X.w) A (getMethod (.ref C) m pl) Q E s := by
  obtain ⟨rest, hp⟩ := k.rc
  refine PySem.W.method_cls I.kIn k.ga (PySem.W.cls_bind I.kIn k.rd k.at_ ?_)
  refine wpAny_call (PySem.W.sm_get (s := { s with toks := s.toks + 1 }) I.kIn hp (PySem.W.handed_on rfl ?_))
  exact h _ (I.tok _)
end
/-- C.m(..) by place -/
def tSMeth (C : Addr) (sp : Sp) (ta : TE) (t : TA) : TE := fun σ H Q => ta σ H fun x H1 => x = .ref C ∧ t σ H1 fun vs H2 => sp vs H2 Q E0
/-- C.m(..) by keywords alone -/
def tSMethK (C : Addr) (sp : Sp) (gV : List V → List V) (n : Nat) (ta : TE) (tk : TA) : TE := fun σ H Q => ta σ H fun x H1 => x = .ref C ∧ tk σ H1 fun zs H2 => zs.length = n ∧ sp (gV zs) H2 Q E0
section
variable {X : Cx} {k j : Nat} {C : Addr} {sp : Sp} {ps ks : List Str} {gV : List V → List V} {o e : Expr} {es : List Expr} {m : Str} {pos apos : Pos} {ta : TE} {t tk : TA} {kws : List Keyword} {pl : Sem Bool} {fd : FuncData} {p g : Addr} {mc : Value}
theorem pe_smeth (he : PE X o ta) (c : SMet X.K C mc m p g) (F : FnOk X.prog X.w X.K X.mg X.base CX0 k g fd ps sp) (hr : Room k X.A) (hb : Binds X.K fd ps []) (ha : PA X (e :: es) t)
    (hst : starEach (e :: es) X.env = (false, eval e X.env) :: starEach es X.env := by rfl) (hpl : (backTo pos (starEach es X.env)).any (·.1) = false := by rfl)
    (ht : eval (.Call (.Attribute o m apos) (e :: es) [] pos) X.env = (do
      let ov ← eval o X.env
      standAt apos.atName
      let (f, first) ← holding [ov] (getMethod ov m pl)
      callWith pos f first (backTo pos (starEach (e :: es) X.env)) (backToKw pos (keywordEach [] X.env))) := by rfl) :
    PE X (.Call (.Attribute o m apos) (e :: es) [] pos) (tSMeth C sp ta t) := by
  refine ⟨fun pins s σ H Q I h => ?_⟩
  refine PySem.W.methodCall_KW (pl := pl) (thn (he.run pins s σ H _ I h) fun u s1 ⟨x, H1, I1, rx, ex, q⟩ => ?_) ht
  subst ex
  obtain rfl : u = Value.ref C := rx
  refine getsm_ok I1 c fun s2 I2 => ?_
  refine PySem.W.callWith_K (first := []) (h₀ := X.base) I2.ok.mod.kin c.kp (thn (ha.run pos pins s2 σ H1 _ I2 q) fun us s3 ⟨vs, H2, I3, rv, q2⟩ => ⟨I3.kIn, ?_⟩) hst hpl
  exact run_fn (us := us) (vs := vs) (dvs := []) (ds := []) F hr hb .nil pass0 I3 rv (by simpa using q2)
theorem pe_smethK (he : PE X o ta) (c : SMet X.K C mc m p g) {gg : List Value → List Value} (F : FnOk X.prog X.w X.K X.mg X.base CX0 k g fd ps sp) (hr : Room k X.A) (hb : KBn X.K fd ps 0 ks (fun _ ws => gg ws) (fun _ zs => gV zs)) (hkw : PK X kws tk)
    (hall : (backToKw pos (keywordEach kws X.env)).all (·.1.isSome) = true := by rfl) (hks : (backToKw pos (keywordEach kws X.env)).filterMap (·.1) = ks := by rfl)
    (hpl : ((backTo pos (starEach [] X.env)).any (·.1) || (backToKw pos (keywordEach kws X.env)).any (·.1.isNone)) = false := by rfl)
    (ht : eval (.Call (.Attribute o m apos) [] kws pos) X.env = (do
      let ov ← eval o X.env
      standAt apos.atName
      let (f, first) ← holding [ov] (getMethod ov m pl)
      callWith pos f first (backTo pos (starEach [] X.env)) (backToKw pos (keywordEach kws X.env))) := by rfl) :
    PE X (.Call (.Attribute o m apos) [] kws pos) (tSMethK C sp gV ks.length ta tk) := by
  refine ⟨fun pins s σ H Q I h => ?_⟩
  refine PySem.W.methodCall_KW (pl := pl) (thn (he.run pins s σ H _ I h) fun u s1 ⟨x, H1, I1, rx, ex, q⟩ => ?_) ht
  subst ex
  obtain rfl : u = Value.ref C := rx
  refine getsm_ok I1 c fun s2 I2 => ?_
  refine PySem.W.callWith_KW0 (first := []) (h₀ := X.base) I2.ok.mod.kin c.kp hall ?_ hpl
  refine thn (hkw.run pos pins s2 σ H1 _ I2 q) fun ws s3 ⟨zs, H2, I3, rz, lz, q2⟩ => ⟨I3.kIn, ?_⟩
  rw [hks]
  have r2 := hb.rel (vs := []) (us := []) .nil rz
  have hl : ws.length = ks.length := by rw [← rz.length, lz]
  refine wpAny_call (codeAny_mono (F.run X.A X.stack s3 H2 ⟨[], ks.zip ws⟩ (gg ws) (gV zs) Q E0 hr I3.env0 (hb.to s3 [] ws I3.kIn rfl hl) r2 q2) fun r s' hq => ?_)
  cases r with
  | error e => exact pass0 pins σ H2 s3 e s' I3 hq
  | ok fl =>
    cases fl with
    | ret u => exact I3.after hq
    | next => exact False.elim hq
    | brk => exact False.elim hq
    | cont => exact False.elim hq
end
end MStat
set_option Elab.async false
set_option linter.all false
set_option maxRecDepth 100000
set_option maxHeartbeats 1000000
/-! t.count(k) of a tuple of ints, repr(a truth). -/
namespace W09
open PySem L2 PySem.Spec PyProof.Rows WR WB
section
variable {X : Cx}
def rCntT (K : PySem.W.Frag) : V → List V → Hp → VK → Prop := fun x xs H Q => ∃ (p : Addr) (ns : List Int) (k : Int), x = .ref p ∧ xs = [.int k] ∧ SqT K H p (iv ns) ∧ Q (.int (ns.count k : Nat)) H
theorem mt_tcount {K : PySem.W.Frag} (hK : X.K = K) : MtR X "tuple.count" (rCntT K) := by
  subst hK
  intro pins s σ H x xs v us Q I rx rxs h
  obtain ⟨p, ns, k, rfl, rfl, hs, q⟩ := h
  cases rx
  obtain ⟨u, rfl, ru⟩ := rxs.one
  obtain ⟨t, rfl⟩ := ru
  obtain ⟨its, rv, ⟨⟨cls, dd, data, sl⟩, ho, hc, n, hd⟩, hlen⟩ := I.tuple hs
  simp only at hc hd
  subst hc hd
  have hi := ints_of_vals rv
  refine call_meets PySem.F.slot_tuple_count ⟨_, ho, rfl⟩ PySem.F.entry_tuple_count (PySem.F.args_tuple_count_2 _ _)
    (SeqAt.tuple_countAt p its.toArray n dd sl (.int k t) (eqk k)) ⟨ho, fun y hy => (eqk_gives hi y (by simpa using hy)).at _ _, ?_⟩
  have ec : its.toArray.toList.countP (eqk k) = ns.count k := eqk_count hi
  refine ⟨.int (ns.count k : Nat), H, I.tok _, ⟨s.toks, ?_⟩, q⟩
  show Value.int ((its.toArray.toList.countP (eqk k) : Nat) : Int) s.toks = Value.int ((ns.count k : Nat) : Int) s.toks
  rw [ec]
/-- a tuple with no dict of its own, not empty -/
def tyB (K : PySem.W.Frag) (x : V) (H : Hp) : Prop := ∃ (a : Addr) (xs : List V), x = .ref a ∧ SqB K H a xs ∧ xs ≠ []
theorem tyB_ok {K : PySem.W.Frag} (hK : X.K = K) : TyOk X "tuple" (tyB K) := by
  subst hK
  intro pins σ H s x v I r h
  obtain ⟨a, xs, rfl, hB, n⟩ := h
  cases r
  obtain ⟨its, _, ⟨o1, e1, c1, _⟩, _⟩ := I.tuple hB.sq
  obtain ⟨o, u, e, d⟩ := hB.bare n
  have hx : ObjOk X.prog X.w H s.heap a (.frz o u) := I.hok a _ e
  exact ⟨⟨o1, e1, c1⟩, fun b hb => by cases hb; exact ⟨o, hx.1, d⟩⟩
def brep (b : Bool) : Str := if b then "True" else "False"
theorem call_repr_bool : CallR X (.builtin "repr") (fun xs H Q => ∃ b, xs = [.bl b] ∧ Q (.str (brep b)) H) := by
  intro pins s σ H xs us Q I r h
  obtain ⟨b, rfl, q⟩ := h
  obtain ⟨u, rfl, ru⟩ := vals1 r
  cases ru
  exact PySem.P.repr_of_bool ⟨.str _, H, I.tok _, ⟨_, by cases b <;> rfl⟩, q⟩
end
end W09
set_option Elab.async false
set_option linter.all false
set_option maxRecDepth 100000
set_option maxHeartbeats 1000000
namespace W09
open PySem L2 PySem.Spec PyProof.Rows WR WB
structure MethW (P : Program) (w : World) (K : PySem.W.Frag) (mg : Str → Option Value) (base : Heap) (C : Addr) (m : Str) (ps : List Str) (sp : Sp) : Prop where
  ex : ∃ (f : Addr) (fd : FuncData), Meth K C m f ∧ FnOk P w K mg base CX0 6 f fd ps sp ∧ Binds K fd ps []
section
variable {X : Cx} {C : Addr} {o e : Expr} {es : List Expr} {ta : TE} {t : TA} {m : Str} {ps : List Str} {sp : Sp} {apos pos : Pos} {j : Nat}
theorem pe_w0 {pl : Sem Bool} (M : MethW X.prog X.w X.K X.mg X.base C m ps sp) (c : Cls X.K C) (hr : Room j X.A) (hj : 6 ≤ j) (he : PE X o ta)
    (ht : eval (.Call (.Attribute o m apos) [] [] pos) X.env = (do
      let ov ← eval o X.env
      standAt apos.atName
      let (f, first) ← holding [ov] (getMethod ov m pl)
      callWith pos f first (backTo pos (starEach [] X.env)) (backToKw pos (keywordEach [] X.env))) := by rfl) :
    PE X (.Call (.Attribute o m apos) [] [] pos) (tMeth C m sp [] E0 ta tNil) := by
  obtain ⟨f, fd, hm, F, hb⟩ := M.ex
  exact pe_meth0 he c hm F (hr.mono hj) hb .nil pass0 ht
theorem pe_w1 {pl : Sem Bool} (M : MethW X.prog X.w X.K X.mg X.base C m ps sp) (c : Cls X.K C) (hr : Room j X.A) (hj : 6 ≤ j) (he : PE X o ta) (ha : PA X (e :: es) t)
    (hst : starEach (e :: es) X.env = (false, eval e X.env) :: starEach es X.env := by rfl) (hpl : (backTo pos (starEach es X.env)).any (·.1) = false := by rfl)
    (ht : eval (.Call (.Attribute o m apos) (e :: es) [] pos) X.env = (do
      let ov ← eval o X.env
      standAt apos.atName
      let (f, first) ← holding [ov] (getMethod ov m pl)
      callWith pos f first (backTo pos (starEach (e :: es) X.env)) (backToKw pos (keywordEach [] X.env))) := by rfl) :
    PE X (.Call (.Attribute o m apos) (e :: es) [] pos) (tMeth C m sp [] E0 ta t) := by
  obtain ⟨f, fd, hm, F, hb⟩ := M.ex
  exact pe_meth he c hm F (hr.mono hj) hb .nil pass0 ha hst hpl ht
end
theorem WordAt.at {K : PySem.W.Frag} {C : Addr} {H : Hp} {p : Addr} {ns : List Int} (h : WordAt K C H p ns) {m : Str} (h1 : ¬ m = "letters") (h2 : ¬ m = "length") (h3 : ¬ m = "kinds") (h4 : ¬ m = "is_short") (h5 : ¬ m = "is_short_round") :
    ∃ dx fs, H p = some (.ins C dx fs) ∧ fs.lookup m = none := by
  obtain ⟨dx, tl, tk, ks, h, _⟩ := h
  exact ⟨dx, _, h, wf_no h1 h2 h3 h4 h5⟩
theorem nm1 : ¬ (("contrary" : Str) = "letters") ∧ ¬ (("contrary" : Str) = "length") ∧ ¬ (("contrary" : Str) = "kinds") ∧ ¬ (("contrary" : Str) = "is_short") ∧ ¬ (("contrary" : Str) = "is_short_round") := by decide +kernel
theorem nm2 : ¬ (("shortened" : Str) = "letters") ∧ ¬ (("shortened" : Str) = "length") ∧ ¬ (("shortened" : Str) = "kinds") ∧ ¬ (("shortened" : Str) = "is_short") ∧ ¬ (("shortened" : Str) = "is_short_round") := by decide +kernel
theorem nm3 : ¬ (("shortened_round" : Str) = "letters") ∧ ¬ (("shortened_round" : Str) = "length") ∧ ¬ (("shortened_round" : Str) = "kinds") ∧ ¬ (("shortened_round" : Str) = "is_short") ∧ ¬ (("shortened_round" : Str) = "is_short_round") := by decide +kernel
theorem nm4 : ¬ (("then" : Str) = "letters") ∧ ¬ (("then" : Str) = "length") ∧ ¬ (("then" : Str) = "kinds") ∧ ¬ (("then" : Str) = "is_short") ∧ ¬ (("then" : Str) = "is_short_round") := by decide +kernel
theorem nm5 : ¬ (("times" : Str) = "letters") ∧ ¬ (("times" : Str) = "length") ∧ ¬ (("times" : Str) = "kinds") ∧ ¬ (("times" : Str) = "is_short") ∧ ¬ (("times" : Str) = "is_short_round") := by decide +kernel
theorem WordAt.no {K : PySem.W.Frag} {C : Addr} {H : Hp} {p : Addr} {ns : List Int} (h : WordAt K C H p ns) {m : Str} (n : ¬ m = "letters" ∧ ¬ m = "length" ∧ ¬ m = "kinds" ∧ ¬ m = "is_short" ∧ ¬ m = "is_short_round") :
    ∃ dx fs, H p = some (.ins C dx fs) ∧ fs.lookup m = none := h.at n.1 n.2.1 n.2.2.1 n.2.2.2.1 n.2.2.2.2
theorem WordAt.drew {K : PySem.W.Frag} {C : Addr} {H H' : Hp} {p a c : Addr} {n : Nat} {ns : List Int} (h : WordAt K C H p ns) (hH : HandAt H a c n) {m : Nat} (d : Drew a c m H H') : WordAt K C H' p ns := by
  have keep : ∀ {q : Addr} {xs : List V}, SqT K H q xs → SqT K H' q xs := by
    intro q xs h
    obtain ⟨cs, i, r, hA, _⟩ := hH
    rcases h with h | h
    · left
      rcases h with h | ⟨o, h⟩
      · exact .inl (d.2 _ _ (fun z => by rw [z, hA] at h; cases h) h)
      · exact .inr ⟨o, d.2 _ _ (fun z => by rw [z, hA] at h; cases h) h⟩
    · exact .inr h
  obtain ⟨dx, tl, tk, ks, h1, h2, h3, h4⟩ := h
  have keepB : SqB K H' tl (iv ns) := by
    refine ⟨keep h2.sq, fun n => ?_⟩
    obtain ⟨cs, i, r, hA, _⟩ := hH
    obtain ⟨o, u, e, dn⟩ := h2.bare n
    exact ⟨o, u, d.2 _ _ (fun z => by rw [z, hA] at e; cases e) e, dn⟩
  refine ⟨dx, tl, tk, ks, d.2 _ _ (fun z => ?_) h1, keepB, keep h3, h4⟩
  obtain ⟨cs, i, r, hA, _⟩ := hH
  rw [z, hA] at h1
  cases h1
theorem make_at {K : PySem.W.Frag} {C : Addr} {H1 : Hp} {q x dx : Addr} {ms : List Int} {G : Hp → Prop} {E : XK} (nx : H1 x = none) (ndx : H1 dx = none) (hq : SqW K H1 q (iv ms)) (hlen : ms.length ≤ 500) (hl : Lts ms) (k : ∀ H', Same H1 H' → WordAt K C H' x ms → G H') :
    spInit K C [.ref x, .ref q] (L2.upd (L2.upd H1 dx (.own x)) x (.ins C dx [])) (fun v H2 => v = .non ∧ G H2) E := by
  have s0 : Same H1 (L2.upd (L2.upd H1 dx (.own x)) x (.ins C dx [])) := fun b o e => by
    rw [upd_ne (ne_of_none e nx), upd_ne (ne_of_none e ndx)]
    exact e
  exact ⟨H1, x, dx, q, ms, rfl, s0, nx, upd_same, hq, hlen, hl, fun H' s' W' => ⟨rfl, k H' s' W'⟩⟩
theorem eqvL_ints (ns ms : List Int) : PyData.eqv (.list (ns.map .int)) (.list (ms.map .int)) = decide (ns = ms) := by
  show PyData.eqvAll _ _ = _
  exact eqvAll_ints ns ms
theorem no_ne {b : Bool} {A B : Prop} (h : b = true) (k : B) : if (!b) = true then A else B := by rw [h]; exact iteF k
structure CalK (P : Program) (w : World) (K : PySem.W.Frag) (mg : Str → Option Value) (base : Heap) (x : Str) (k : Nat) (ps ks : List Str) (gV : List V → List V) (sp : Sp) : Prop where
  ex : ∃ (f : Addr) (fd : FuncData) (g : List Value → List Value), FnOk P w K mg base CX0 k f fd ps sp ∧ mg x = some (.ref f) ∧ PySem.W.keepIn K (.ref f) = true ∧ KBn K fd ps 0 ks (fun _ ws => g ws) (fun _ zs => gV zs)
def tCalK (sp : Sp) (gV : List V → List V) (m : Nat) (tk : TA) : TE := fun σ H Q => tk σ H fun zs H2 => zs.length = m ∧ sp (gV zs) H2 Q E0
section
variable {X : Cx} {x : Str} {k j : Nat} {ps ks : List Str} {gV : List V → List V} {sp : Sp} {p pos : Pos} {kws : List Keyword} {tk : TA}
theorem pe_calK (C : CalK X.prog X.w X.K X.mg X.base x k ps ks gV sp) (hr : Room j X.A) (hkj : k ≤ j) (hg : Gl X x) (hkw : PK X kws tk) (hall : (backToKw pos (keywordEach kws X.env)).all (·.1.isSome) = true := by rfl)
    (hks : (backToKw pos (keywordEach kws X.env)).filterMap (·.1) = ks := by rfl) (hdb : (x == ("__debug__" : Str)) = false := by decide) (hpl : ((backTo pos (starEach [] X.env)).any (·.1) || (backToKw pos (keywordEach kws X.env)).any (·.1.isNone)) = false := by rfl) :
    PE X (.Call (.Name x p) [] kws pos) (tCalK sp gV ks.length tk) := by
  obtain ⟨f, fd, g, F, hm, hk, hb⟩ := C.ex
  refine ⟨fun pins s σ H Q I h => ?_⟩
  refine wpAny_Call_Name_kw (ld_glob I hg hm ?_ hdb)
  refine PySem.W.callWith_KW0 (h₀ := X.base) I.ok.mod.kin hk hall ?_ hpl
  refine thn (hkw.run pos pins s σ H _ I h) fun ws s2 ⟨zs, H2, I2, rz, lz, q2⟩ => ⟨I2.kIn, ?_⟩
  rw [hks]
  have r2 := hb.rel (vs := []) (us := []) .nil rz
  have hl : ws.length = ks.length := by rw [← rz.length, lz]
  refine wpAny_call (codeAny_mono ((F.mono hkj).run X.A X.stack s2 H2 ⟨[], ks.zip ws⟩ (g ws) (gV zs) Q E0 hr I2.env0 (hb.to s2 [] ws I2.kIn rfl hl) r2 q2) fun r s' hq => ?_)
  cases r with
  | error e => exact pass0 pins σ H2 s2 e s' I2 hq
  | ok fl =>
    cases fl with
    | ret u => exact I2.after hq
    | next => exact False.elim hq
    | brk => exact False.elim hq
    | cont => exact False.elim hq
end
inductive All2 {α β : Type} (R : α → β → Prop) : List α → List β → Prop
  | nil : All2 R [] []
  | cons {a : α} {b : β} {as : List α} {bs : List β} (h : R a b) (r : All2 R as bs) : All2 R (a :: as) (b :: bs)
theorem All2.length {α β : Type} {R : α → β → Prop} {as : List α} {bs : List β} (h : All2 R as bs) : as.length = bs.length := by
  induction h with
  | nil => rfl
  | cons _ _ ih => simp [ih]
theorem All2.imp {α β : Type} {R S : α → β → Prop} {as : List α} {bs : List β} (h : All2 R as bs) (k : ∀ a b, R a b → S a b) : All2 S as bs := by
  induction h with
  | nil => exact .nil
  | cons h _ ih => exact .cons (k _ _ h) ih
theorem All2.at {α β : Type} {R : α → β → Prop} {as : List α} {bs : List β} (h : All2 R as bs) : ∀ {i : Nat} {a : α}, as[i]? = some a → ∃ b, bs[i]? = some b ∧ R a b := by
  induction h with
  | nil => intro i a e; simp at e
  | cons h r ih =>
    intro i a e
    cases i with
    | zero => simp at e; subst e; exact ⟨_, by simp, h⟩
    | succ i => simpa using ih (by simpa using e)
theorem All2.mem {α β : Type} {R : α → β → Prop} {as : List α} {bs : List β} (h : All2 R as bs) {a : α} (ha : a ∈ as) : ∃ b, b ∈ bs ∧ R a b := by
  obtain ⟨i, e⟩ := List.mem_iff_getElem?.mp ha
  obtain ⟨b, e2, r⟩ := h.at e
  exact ⟨b, List.mem_of_getElem? e2, r⟩
theorem All2.app {α β : Type} {R : α → β → Prop} {as : List α} {bs : List β} (h : All2 R as bs) {cs : List α} {ds : List β} (k : All2 R cs ds) : All2 R (as ++ cs) (bs ++ ds) := by
  induction h with
  | nil => exact k
  | cons h _ ih => exact .cons h ih
theorem All2.rev {α β : Type} {R : α → β → Prop} {as : List α} {bs : List β} (h : All2 R as bs) : All2 R as.reverse bs.reverse := by
  induction h with
  | nil => exact .nil
  | cons h _ ih =>
    rw [List.reverse_cons, List.reverse_cons]
    exact ih.app (.cons h .nil)
abbrev sExch : Stmt := top 22
def exch (a b : List Int) : List Int := a ++ b ++ Fr.con a ++ Fr.con b
theorem exch_length (a b : List Int) : (exch a b).length = 2 * a.length + 2 * b.length := by
  unfold exch
  simp [Fr.con_length]
  omega
theorem Lts.exch {a b : List Int} (h : Lts a) (k : Lts b) : Lts (W09.exch a b) := ((h.app k).app h.con).app k.con
def spExch (K : PySem.W.Frag) : Sp := fun vs H Q _ => ∃ (a b : Addr) (ns ms : List Int), vs = [.ref a, .ref b] ∧ SqB K H a (iv ns) ∧ SqB K H b (iv ms) ∧ ns.length ≤ 1000 ∧ ms.length ≤ 1000 ∧ NewB K H Q (iv (exch ns ms))
section
variable {P : Program} {w : World} {K : PySem.W.Frag} {mg : Str → Option Value} {base : Heap}
theorem scExch : FnScope ["one", "other"] ["one", "other"] (defScope sExch) := ⟨rfl, rfl, rfl, by decide +kernel, rfl, by decide +kernel, by decide +kernel⟩
theorem ok_exch {f : Addr} {fd : FuncData} (F : Fun K "exchange_letters" "exchange_letters" sExch f fd) (GC : Cal P w K mg base "contrary_letters" 1 ["letters"] (spCon K)) : FnOk P w K mg base CX0 2 f fd ["one", "other"] (spExch K) := by
  refine F.ok scExch (fun vs H Q E h => ?_) (fun cdv A outer s H vs Q E hr h => ?_)
  · obtain ⟨a, b, ns, ms, rfl, _⟩ := h
    rfl
  · obtain ⟨a, b, ns, ms, rfl, hA, hB, l1, l2, k⟩ := h
    refine ⟨_, pss_one (ps_ret (pe_op op_catB (pe_op op_catB (pe_op op_catB (pv 0) (pv 1)) (pe_cal GC hr (by decide) (by rfl) (pa_cons (pv 0) pa_nil))) (pe_cal GC hr (by decide) (by rfl) (pa_cons (pv 1) pa_nil)))), ?_⟩
    refine ⟨_, rfl, _, rfl, a, b, _, _, rfl, rfl, hA, hB, Evl.sz_of (by simp only [List.length_map]; omega), fun p1 H1 s1 h1 => ?_⟩
    refine ⟨_, rfl, a, ns, rfl, (SqB.same s1 hA).sq, l1, fun p2 H2 s2 h2 => ?_⟩
    refine ⟨p1, p2, _, _, rfl, rfl, SqB.same s2 h1, h2, Evl.sz_of (by simp only [List.length_append, List.length_map, Fr.con_length]; omega), fun p3 H3 s3 h3 => ?_⟩
    refine ⟨_, rfl, b, ms, rfl, (SqB.same ((s1.trans s2).trans s3) hB).sq, l2, fun p4 H4 s4 h4 => ?_⟩
    refine ⟨p3, p4, _, _, rfl, rfl, SqB.same s4 h3, h4, Evl.sz_of (by simp only [List.length_append, List.length_map, Fr.con_length]; omega), fun p5 H5 s5 h5 => ?_⟩
    refine k p5 H5 ((((s1.trans s2).trans s3).trans s4).trans s5) ?_
    have e : iv (W09.exch ns ms) = iv ns ++ iv ms ++ iv (Fr.con ns) ++ iv (Fr.con ms) := by
      unfold W09.exch iv
      simp only [List.map_append]
    rw [e]
    exact h5
end
theorem tms_len (N : Int) (ns : List Int) : (tms N ns).length = N.natAbs * ns.length := by
  unfold tms
  split
  · exact Fr.rep_length _ _
  · rw [Fr.rep_length, Fr.con_length]
theorem Lts.tms {ns : List Int} (h : Lts ns) (N : Int) : Lts (W09.tms N ns) := by
  unfold W09.tms
  split
  · exact h.rep _
  · exact h.con.rep _
theorem units65 {j : Nat} {A : Around} (hr : Room j A) (h : 1 ≤ j) : A.units + 65 < cLine := by
  have := (hr.mono h).in1.units
  exact this
abbrev sTwice : Stmt := top 17
abbrev sWorths : Stmt := top 23
abbrev sRepl : Stmt := top 24
abbrev sTurnL : Stmt := top 25
abbrev sBalOf : Stmt := top 27
def spTwice (K : PySem.W.Frag) : Sp := fun vs H Q _ => ∃ (a : Addr) (ks : List Int), vs = [.ref a] ∧ H a = some (.lst (iv ks)) ∧ ks.Nodup ∧ ks.length ≤ 100 ∧ ∀ H', Same H H' → Q .non H'
structure TxS (mg : Str → Option Value) : Prop where
  set : mg "set" = none
  dict : mg "dict" = none
  enum : mg "enumerate" = none
  repr : mg "repr" = none
section
variable {P : Program} {w : World} {K : PySem.W.Frag} {mg : Str → Option Value} {base : Heap}
theorem scTwice : FnScope ["values", "seen", "value"] ["values"] (defScope sTwice) := ⟨rfl, rfl, rfl, by decide +kernel, rfl, by decide +kernel, by decide +kernel⟩
theorem ok_twice {f : Addr} {fd : FuncData} (F : Fun K "first_twice" "first_twice" sTwice f fd) (T : TxS mg) : FnOk P w K mg base CX0 1 f fd ["values"] (spTwice K) := by
  refine F.ok scTwice (fun vs H Q E h => ?_) (fun cdv A outer s H vs Q E hr h => ?_)
  · obtain ⟨a, ks, rfl, _⟩ := h
    rfl
  · obtain ⟨a, ks, rfl, hS, nd, hlen, k⟩ := h
    refine ⟨_, pss_cons (ps_set (i := 1) scTwice.nd rfl (Or.inl rfl) (pe_callTy0 cr_set0K (by rfl) T.set (by decide +kernel)))
      (pss_cons (ps_for PassesOwn.never rfl (pi_list (pv 0)) (pg_name (i := 2) scTwice.nd rfl (Or.inl rfl))
        (pss_cons (ps_if (pt_cmpR or_sinK (pv 2) (pv 1) (by rfl)) (pss_one (ps_ret (pv 2))) pss_nil)
        (pss_one (ps_expr (pe_saddK (pv 1) (pa_cons (pv 2) pa_nil))))))
      (pss_one (ps_ret pe_non))), ?_⟩
    refine ⟨rfl, fun p hp => ?_⟩
    have hap : a ≠ p := ne_of_none hS hp
    refine ⟨_, rfl, a, rfl, ⟨_, SqL.of (by rw [upd_ne hap]; exact hS)⟩, for_list (K := K) (a := a) (xs := iv ks) (fun i σ H' => ∃ (v : Option V) (S : Key → Bool) (n : Nat), σ = [some (.ref a), some (.ref p), v] ∧ Same H H' ∧ H' p = some (SetK P w p S n) ∧ n ≤ i ∧ ∀ j : Int, S (Sum.inl j) = true → j ∈ ks.take i)
      ⟨none, _, 0, rfl, same_upd hp, upd_same, Nat.le_refl _, fun j h => by cases h⟩ (fun i σ H1 _ ⟨_, _, _, _, s, _⟩ => SqL.of (s _ _ hS)) ?_ ?_⟩
    · rintro i y σ H1 hi ⟨v, S, n, rfl, sm, hP, hn, hm⟩
      obtain ⟨x, hx, rfl⟩ : ∃ x, ks[i]? = some x ∧ y = V.int x := by
        rw [List.getElem?_map] at hi
        cases e : ks[i]? with
        | none => rw [e] at hi; cases hi
        | some x => rw [e] at hi; exact ⟨x, rfl, (Option.some.inj hi).symm⟩
      have hil : i < ks.length := (List.getElem?_eq_some_iff.mp hx).1
      have ex : ks[i] = x := (List.getElem?_eq_some_iff.mp hx).2
      have hno : S (Sum.inl x) = false := by
        cases e : S (Sum.inl x) with
        | false => rfl
        | true =>
          have h1 := hm x e
          obtain ⟨j, hj, ej⟩ := List.mem_iff_getElem.mp h1
          rw [List.length_take] at hj
          rw [List.getElem_take] at ej
          exact absurd (ej.trans ex.symm) (List.pairwise_iff_getElem.mp nd j i (by omega) hil (by omega))
      refine ⟨_, rfl, _, rfl, Sum.inl x, p, S, n, rfl, rfl, hP, _, rfl, ?_⟩
      rw [hno]
      refine iteF ?_
      refine ⟨_, rfl, ⟨p, S, n, rfl, hP⟩, _, rfl, p, Sum.inl x, S, n, rfl, rfl, hP, Nat.lt_of_lt_of_le (show n + 1 < 200 by omega) (by decide), ?_⟩
      rw [hno]
      refine ⟨_, _, _, rfl, fun b o e => ?_, upd_same, by show n + 1 ≤ i + 1; omega, fun j hj => ?_⟩
      · rw [upd_ne (ne_of_none e hp)]
        exact sm _ _ e
      · rw [List.take_succ_eq_append_getElem hil, ex]
        rcases Bool.or_eq_true_iff.mp hj with hj | hj
        · exact List.mem_append_left _ (hm j hj)
        · have e := of_decide_eq_true hj
          injection e with e
          rw [e]
          exact List.mem_append_right _ List.mem_cons_self
    · rintro σ H1 ⟨v, S, n, rfl, sm, _⟩
      exact k H1 sm
/-! ### what is put for a letter -/
/-- the words at this dict's places -/
def TabAt (K : PySem.W.Frag) (H : Hp) (d : Addr) (f : Int → List Int) (ns : List Int) : Prop := ∃ kvs : List (Key × V), H d = some (.dK kvs) ∧
  ∀ x ∈ ns, (∃ r, valV kvs (Sum.inl x) = some (.ref r) ∧ SqT K H r (iv (f x))) ∨ (valV kvs (Sum.inl x) = none ∧ f x = [x])
def spWorths (K : PySem.W.Frag) : Sp := fun vs H Q _ => ∃ (k : Int) (a : Addr) (os : List Int), vs = [.int k, .ref a] ∧ 0 < k ∧ SqT K H a (iv os) ∧ os.length ≤ 500 ∧ ∀ p H', Same H H' → (∀ ns, TabAt K H' p (Fr.putF k os) ns) → Q (.ref p) H'
def spRepl (K : PySem.W.Frag) : Sp := fun vs H Q _ => ∃ (a d : Addr) (ns : List Int) (f : Int → List Int), vs = [.ref a, .ref d] ∧ SqT K H a (iv ns) ∧ TabAt K H d f ns ∧ (∀ i, (Fr.sub f (ns.take i)).length ≤ 1000) ∧ (∀ x ∈ ns, (f x).length ≤ 1000) ∧ NewB K H Q (iv (Fr.sub f ns))
theorem scWorths : FnScope ["kind", "letters"] ["kind", "letters"] (defScope sWorths) := ⟨rfl, rfl, rfl, by decide +kernel, rfl, by decide +kernel, by decide +kernel⟩
theorem ok_worths {f : Addr} {fd : FuncData} (F : Fun K "worths_of" "worths_of" sWorths f fd) (GC : Cal P w K mg base "contrary_letters" 1 ["letters"] (spCon K)) : FnOk P w K mg base CX0 2 f fd ["kind", "letters"] (spWorths K) := by
  refine F.ok scWorths (fun vs H Q E h => ?_) (fun cdv A outer s H vs Q E hr h => ?_)
  · obtain ⟨k, a, os, rfl, _⟩ := h
    rfl
  · obtain ⟨k, a, os, rfl, hk, hA, hlen, q⟩ := h
    refine ⟨_, pss_one (ps_ret (pe_disp (pps_cons (pv 0) (pv 1) (pps_cons (pe_un un_neg (pv 0)) (pe_cal GC hr (by decide) (by rfl) (pa_cons (pv 1) pa_nil)) pps_nil)) (by rfl) (by rfl) (fun z => by cases z) (by decide))), ?_⟩
    refine fun p hp => ?_
    have s0 := same_upd (o := .dK []) hp
    refine ⟨_, rfl, _, rfl, _, rfl, _, rfl, _, rfl, a, os, rfl, WR.Same.seqT s0 hA, by omega, fun c H1 s1 hc => ?_⟩
    have hP := s1 _ _ (upd_same (H := H) (a := p) (o := .dK []))
    refine ⟨hP, [(Sum.inl k, .ref a), (Sum.inl (-k), .ref c)], rfl, by show 2 ≤ 15; decide, ?_⟩
    have hA1 := WR.Same.seqT (s0.trans s1) hA
    have tn : ∀ {q : Addr} {xs : List V}, SqT K H1 q xs → ∀ {o : HO}, SqT K (L2.upd H1 p o) q xs := fun h o => by
      rcases h with h | h
      · left
        rcases h with h | ⟨o', h⟩
        · exact .inl (by rw [upd_ne (fun z => by rw [z, hP] at h; cases h)]; exact h)
        · exact .inr ⟨o', by rw [upd_ne (fun z => by rw [z, hP] at h; cases h)]; exact h⟩
      · exact .inr h
    refine q p _ (fun b o e => ?_) (fun ns => ⟨_, upd_same, fun x _ => ?_⟩)
    · rw [upd_ne (ne_of_none e hp)]
      exact (s0.trans s1) _ _ e
    · have e : mergeK [] [((Sum.inl k : Key), V.ref a), (Sum.inl (-k), .ref c)] = [((Sum.inl k : Key), V.ref a), (Sum.inl (-k), .ref c)] := by
        have n : ¬ ((Sum.inl k : Key) = Sum.inl (-k)) := fun z => by injection z with z; omega
        simp [mergeK, putK, n]
      rw [e]
      unfold Fr.putF
      by_cases h1 : x = k
      · subst h1
        rw [if_pos rfl]
        exact .inl ⟨a, valV_pos rfl, tn hA1⟩
      · rw [if_neg h1, valV_neg (fun z => h1 (by injection z with z; exact z.symm))]
        by_cases h2 : x = -k
        · rw [if_pos h2, h2]
          exact .inl ⟨c, valV_pos rfl, tn hc.sq⟩
        · rw [if_neg h2, valV_neg (fun z => h2 (by injection z with z; exact z.symm))]
          exact .inr ⟨rfl, rfl⟩
end

end W09
set_option linter.all false
/-! The least turned form of a row, by two places that race. -/
namespace Lt
/-- the row from place p on, read round, is less than that from place q on -/
def Ls (f : Nat → Int) (n p q : Nat) : Prop := ∃ k, k < n ∧ (∀ t, t < k → f (p + t) = f (q + t)) ∧ f (p + k) < f (q + k)
theorem Ls.irr {f n p} : ¬ Ls f n p p := by
  rintro ⟨k, _, _, h⟩
  omega
theorem Ls.trans {f : Nat → Int} {n p q r : Nat} (h1 : Ls f n p q) (h2 : Ls f n q r) : Ls f n p r := by
  obtain ⟨k, hk, e1, l1⟩ := h1
  obtain ⟨m, hm, e2, l2⟩ := h2
  by_cases h : k < m
  · exact ⟨k, hk, fun t ht => (e1 t ht).trans (e2 t (by omega)), by rw [← e2 k h]; exact l1⟩
  · by_cases h' : m < k
    · exact ⟨m, hm, fun t ht => (e1 t (by omega)).trans (e2 t ht), by rw [e1 m h']; exact l2⟩
    · have : k = m := by omega
      subst this
      exact ⟨k, hk, fun t ht => (e1 t ht).trans (e2 t ht), by omega⟩
theorem Ls.total (f : Nat → Int) (n p q : Nat) : Ls f n p q ∨ Ls f n q p ∨ ∀ t, t < n → f (p + t) = f (q + t) := by
  induction n with
  | zero => exact .inr (.inr fun t ht => by omega)
  | succ n ih =>
    rcases ih with ⟨k, hk, e, l⟩ | ⟨k, hk, e, l⟩ | e
    · exact .inl ⟨k, by omega, e, l⟩
    · exact .inr (.inl ⟨k, by omega, e, l⟩)
    · by_cases h : f (p + n) < f (q + n)
      · exact .inl ⟨n, by omega, e, h⟩
      · by_cases h' : f (q + n) < f (p + n)
        · exact .inr (.inl ⟨n, by omega, fun t ht => (e t ht).symm, h'⟩)
        · refine .inr (.inr fun t ht => ?_)
          by_cases htn : t < n
          · exact e t htn
          · have : t = n := by omega
            subst this
            omega
theorem ex_min (f : Nat → Int) (n : Nat) : ∀ m, 0 < m → ∃ p, p < m ∧ ∀ q, q < m → ¬ Ls f n q p := by
  intro m
  induction m with
  | zero => intro h; omega
  | succ m ih =>
    intro _
    by_cases h0 : m = 0
    · subst h0
      exact ⟨0, by omega, fun q hq => by have : q = 0 := by omega
                                         subst this; exact Ls.irr⟩
    · obtain ⟨p, hp, hm⟩ := ih (by omega)
      by_cases h : Ls f n m p
      · refine ⟨m, by omega, fun q hq hl => ?_⟩
        by_cases hqm : q = m
        · subst hqm; exact Ls.irr hl
        · exact hm q (by omega) (hl.trans h)
      · refine ⟨p, by omega, fun q hq => ?_⟩
        by_cases hqm : q = m
        · subst hqm; exact h
        · exact hm q (by omega)
/-- the least place whose reading is least -/
theorem ex_first (f : Nat → Int) (n m : Nat) (h : 0 < m) : ∃ p, p < m ∧ (∀ q, q < m → ¬ Ls f n q p) ∧ ∀ q, q < p → ∃ r, r < m ∧ Ls f n r q := by
  obtain ⟨p0, hp0, hm0⟩ := ex_min f n m h
  have key : ∀ k p, p ≤ k → p < m → (∀ q, q < m → ¬ Ls f n q p) → ∃ p, p < m ∧ (∀ q, q < m → ¬ Ls f n q p) ∧ ∀ q, q < p → ∃ r, r < m ∧ Ls f n r q := by
    intro k
    induction k with
    | zero => intro p hk hp hm; exact ⟨p, hp, hm, fun q hq => by omega⟩
    | succ k ih =>
      intro p hk hp hm
      by_cases hx : ∀ q, q < p → ∃ r, r < m ∧ Ls f n r q
      · exact ⟨p, hp, hm, hx⟩
      · have ⟨q, hq⟩ := Classical.not_forall.mp hx
        have ⟨hqp, hn⟩ := Classical.not_imp.mp hq
        refine ih q (by omega) (by omega) fun r hr hl => hn ⟨r, hr, hl⟩
  exact key p0 p0 (Nat.le_refl _) hp0 hm0
/-- what is left out can't be least -/
def Out (f : Nat → Int) (n p : Nat) : Prop := ∃ q, Ls f n q p
structure Race (f : Nat → Int) (n one other alike : Nat) : Prop where
  a : ∀ p, p < one → Out f n p
  b : ∀ p, p < other → p ≠ one → Out f n p
  ne : one ≠ other
  al : alike ≤ n
  e : ∀ t, t < alike → f (one + t) = f (other + t)
theorem Race.start (f : Nat → Int) (n : Nat) : Race f n 0 1 0 := ⟨fun p h => by omega, fun p h h' => by omega, by omega, Nat.zero_le _, fun t h => by omega⟩
theorem Race.more {f n one other alike} (R : Race f n one other alike) (h : alike < n) (e : f (one + alike) = f (other + alike)) : Race f n one other (alike + 1) :=
  ⟨R.a, R.b, R.ne, h, fun t ht => by
    by_cases h' : t < alike
    · exact R.e t h'
    · have : t = alike := by omega
      subst this; exact e⟩
theorem out_run {f : Nat → Int} {n p q alike t : Nat} (h : alike < n) (e : ∀ t, t < alike → f (p + t) = f (q + t)) (l : f (q + alike) < f (p + alike)) (ht : t ≤ alike) : Out f n (p + t) := by
  refine ⟨q + t, alike - t, by omega, fun s hs => ?_, ?_⟩
  · have := e (t + s) (by omega)
    rw [Nat.add_assoc, Nat.add_assoc]
    exact this.symm
  · have e1 : q + t + (alike - t) = q + alike := by omega
    have e2 : p + t + (alike - t) = p + alike := by omega
    rw [e1, e2]
    exact l
theorem Race.one {f n one other alike} (R : Race f n one other alike) (h : alike < n) (l : f (other + alike) < f (one + alike)) :
    Race f n (one + (alike + 1)) (if one + (alike + 1) = other then other + 1 else other) 0 := by
  have A : ∀ p, p < one + (alike + 1) → Out f n p := by
    intro p hp
    by_cases h' : p < one
    · exact R.a p h'
    · obtain ⟨t, rfl⟩ : ∃ t, p = one + t := ⟨p - one, by omega⟩
      exact out_run h R.e l (by omega)
  refine ⟨A, fun p hp hn => ?_, ?_, Nat.zero_le _, fun t ht => by omega⟩
  · by_cases hp1 : p < one + (alike + 1)
    · exact A p hp1
    · split at hp
      · omega
      · by_cases hpo : p = one
        · omega
        · exact R.b p hp hpo
  · split <;> omega
theorem Race.other {f n one other alike} (R : Race f n one other alike) (h : alike < n) (l : f (one + alike) < f (other + alike)) :
    Race f n one (if one = other + (alike + 1) then other + (alike + 1) + 1 else other + (alike + 1)) 0 := by
  have B : ∀ p, p < other + (alike + 1) → p ≠ one → Out f n p := by
    intro p hp hn
    by_cases h' : p < other
    · exact R.b p h' hn
    · obtain ⟨t, rfl⟩ : ∃ t, p = other + t := ⟨p - other, by omega⟩
      exact out_run h (fun t ht => (R.e t ht).symm) l (by omega)
  refine ⟨R.a, fun p hp hn => ?_, ?_, Nat.zero_le _, fun t ht => by omega⟩
  · split at hp
    · exact B p (by omega) hn
    · exact B p hp hn
  · split <;> omega
/-- round: f comes back after n -/
theorem per_mod {f : Nat → Int} {n : Nat} (hf : ∀ s, f (s + n) = f s) (s : Nat) : f (s % n) = f s := by
  have : ∀ k s, f (s + n * k) = f s := by
    intro k
    induction k with
    | zero => intro s; rfl
    | succ k ih => intro s; rw [Nat.mul_succ, ← Nat.add_assoc, hf, ih]
  have h := this (s / n) (s % n)
  rw [Nat.mod_add_div] at h
  exact h.symm
theorem out_in {f : Nat → Int} {n p : Nat} (hf : ∀ s, f (s + n) = f s) (h0 : 0 < n) (h : Out f n p) : ∃ q, q < n ∧ Ls f n q p := by
  obtain ⟨q, k, hk, e, l⟩ := h
  refine ⟨q % n, Nat.mod_lt _ h0, k, hk, fun t ht => ?_, ?_⟩
  · rw [← e t ht, ← per_mod hf (q % n + t), ← per_mod hf (q + t), Nat.mod_add_mod]
  · rw [← per_mod hf (q % n + k), Nat.mod_add_mod, per_mod hf]
    exact l
/-- what comes of the race: the place reads least -/
theorem Race.fin {f : Nat → Int} {n one other alike : Nat} (R : Race f n one other alike) (hf : ∀ s, f (s + n) = f s) (h0 : 0 < n) (hend : ¬ (one < n ∧ other < n ∧ alike < n)) :
    min one other < n ∧ ∀ q, q < n → ¬ Ls f n q (min one other) := by
  obtain ⟨p, hp, hm, hfirst⟩ := ex_first f n n h0
  have no : ¬ Out f n p := fun ho => by
    obtain ⟨q, hq, hl⟩ := out_in hf h0 ho
    exact hm q hq hl
  have h1 : one ≤ p := by
    by_cases h : p < one
    · exact absurd (R.a p h) no
    · omega
  have h2 : p = one ∨ other ≤ p := by
    by_cases h : p = one
    · exact .inl h
    · by_cases h' : p < other
      · exact absurd (R.b p h' h) no
      · omega
  by_cases hn : other < n
  · -- all letters alike
    have ha : alike = n := by
      have := R.al
      omega
    have e := R.e
    rw [ha] at e
    have eall : ∀ t, f (one + t) = f (other + t) := by
      intro t
      have := e (t % n) (Nat.mod_lt _ h0)
      rw [← per_mod hf (one + t), ← per_mod hf (other + t), ← Nat.add_mod_mod one t n, ← Nat.add_mod_mod other t n, per_mod hf, per_mod hf]
      exact this
    have same : ∀ q, Ls f n q one ↔ Ls f n q other := fun q => ⟨fun ⟨k, hk, e1, l⟩ => ⟨k, hk, fun t ht => (e1 t ht).trans (eall t), by rw [← eall k]; exact l⟩, fun ⟨k, hk, e1, l⟩ => ⟨k, hk, fun t ht => (e1 t ht).trans (eall t).symm, by rw [eall k]; exact l⟩⟩
    have hp2 : p = one ∨ p = other := by
      rcases h2 with h2 | h2
      · exact .inl h2
      · by_cases hx : p = one ∨ p = other
        · exact hx
        · exfalso
          have ⟨hx1, hx2⟩ := not_or.mp hx
          have hne := R.ne
          -- one step back
          by_cases hlt : one < other
          · have hd : p - (other - one) < p := by omega
            obtain ⟨r, hr, hl⟩ := hfirst _ hd
            refine hm r hr ?_
            obtain ⟨k, hk, e1, l⟩ := hl
            have sh : ∀ t, f (p - (other - one) + t) = f (p + t) := by
              intro t
              have := eall (p - other + t)
              have a1 : one + (p - other + t) = p - (other - one) + t := by omega
              have a2 : other + (p - other + t) = p + t := by omega
              rw [a1, a2] at this
              exact this
            exact ⟨k, hk, fun t ht => (e1 t ht).trans (sh t), by rw [← sh k]; exact l⟩
          · have hd : p - (one - other) < p := by omega
            obtain ⟨r, hr, hl⟩ := hfirst _ hd
            refine hm r hr ?_
            obtain ⟨k, hk, e1, l⟩ := hl
            have sh : ∀ t, f (p - (one - other) + t) = f (p + t) := by
              intro t
              have := eall (p - one + t)
              have a1 : other + (p - one + t) = p - (one - other) + t := by omega
              have a2 : one + (p - one + t) = p + t := by omega
              rw [a1, a2] at this
              exact this.symm
            exact ⟨k, hk, fun t ht => (e1 t ht).trans (sh t), by rw [← sh k]; exact l⟩
    refine ⟨by omega, fun q hq hl => hm q hq ?_⟩
    have hmin : min one other = one ∨ min one other = other := by omega
    rcases hp2 with rfl | rfl <;> rcases hmin with h | h <;> rw [h] at hl
    · exact hl
    · exact (same q).mpr hl
    · exact (same q).mp hl
    · exact hl
  · have hpo : p = one := by omega
    subst hpo
    have : min p other = p := by omega
    rw [this]
    exact ⟨hp, hm⟩
end Lt
namespace Lt
/-! ### rows read round -/
def rot (xs : List Int) (p : Nat) : List Int := xs.drop p ++ xs.take p
def rd (xs : List Int) (s : Nat) : Int := xs.getD (s % xs.length) 0
theorem rot_length (xs : List Int) (p : Nat) : (rot xs p).length = xs.length := by
  unfold rot
  rw [List.length_append, List.length_drop, List.length_take]
  omega
theorem rd_per (xs : List Int) (s : Nat) : rd xs (s + xs.length) = rd xs s := by
  unfold rd
  rw [Nat.add_mod_right]
theorem rd_lt {xs : List Int} {s : Nat} (h : s < xs.length) : rd xs s = xs.getD s 0 := by
  unfold rd
  rw [Nat.mod_eq_of_lt h]
theorem rot_getD {xs : List Int} {p t : Nat} (hp : p ≤ xs.length) (ht : t < xs.length) : (rot xs p).getD t 0 = rd xs (p + t) := by
  unfold rot rd
  rw [List.getD_eq_getElem?_getD, List.getD_eq_getElem?_getD]
  congr 1
  by_cases h : p + t < xs.length
  · rw [Nat.mod_eq_of_lt h, List.getElem?_append_left (by rw [List.length_drop]; omega), List.getElem?_drop]
  · have e : (p + t) % xs.length = p + t - xs.length := by
      rw [Nat.mod_eq_sub_mod (by omega)]
      by_cases h2 : p + t - xs.length < xs.length
      · exact Nat.mod_eq_of_lt h2
      · omega
    rw [e, List.getElem?_append_right (by rw [List.length_drop]; omega), List.length_drop, List.getElem?_take]
    have h3 : t - (xs.length - p) = p + t - xs.length := by omega
    rw [h3, if_pos (by omega)]
theorem ext_getD {a b : List Int} (hl : a.length = b.length) (h : ∀ t, t < a.length → a.getD t 0 = b.getD t 0) : a = b := by
  apply List.ext_getElem hl
  intro i h1 h2
  have := h i h1
  rw [List.getD_eq_getElem?_getD, List.getD_eq_getElem?_getD, List.getElem?_eq_getElem h1, List.getElem?_eq_getElem h2] at this
  exact this
theorem rot_mem {xs : List Int} {p : Nat} {x : Int} (h : x ∈ rot xs p) : x ∈ xs := by
  unfold rot at h
  rcases List.mem_append.mp h with h | h
  · exact List.mem_of_mem_drop h
  · exact List.mem_of_mem_take h
theorem rot_eq_of {xs : List Int} {p q : Nat} (hp : p ≤ xs.length) (hq : q ≤ xs.length) (h : ∀ t, t < xs.length → rd xs (p + t) = rd xs (q + t)) : rot xs p = rot xs q := by
  refine ext_getD (by rw [rot_length, rot_length]) fun t ht => ?_
  rw [rot_length] at ht
  rw [rot_getD hp ht, rot_getD hq ht, h t ht]
theorem rd_rot {xs : List Int} {p : Nat} (hp : p ≤ xs.length) (h0 : 0 < xs.length) (s : Nat) : rd (rot xs p) s = rd xs (p + s) := by
  have h1 : rd (rot xs p) s = (rot xs p).getD (s % xs.length) 0 := by
    unfold rd
    rw [rot_length]
  rw [h1, rot_getD hp (Nat.mod_lt _ h0)]
  unfold rd
  rw [Nat.add_mod_mod]
theorem rot_rot {xs : List Int} {p q : Nat} (hp : p ≤ xs.length) (hq : q ≤ xs.length) (h0 : 0 < xs.length) : rot (rot xs p) q = rot xs ((p + q) % xs.length) := by
  refine ext_getD (by rw [rot_length, rot_length, rot_length]) fun t ht => ?_
  rw [rot_length, rot_length] at ht
  rw [rot_getD (by rw [rot_length]; exact hq) (by rw [rot_length]; exact ht), rd_rot hp h0, rot_getD (Nat.le_of_lt (Nat.mod_lt _ h0)) ht]
  unfold rd
  rw [Nat.mod_add_mod, Nat.add_assoc]
/-- ms is the least of the turned forms of ns -/
def Least (ns ms : List Int) : Prop := ∃ p, p < max 1 ns.length ∧ ms = rot ns p ∧ ∀ q, q < ns.length → ¬ Ls (rd ns) ns.length q p
theorem Least.ex (ns : List Int) : ∃ ms, Least ns ms := by
  by_cases h : 0 < ns.length
  · obtain ⟨p, hp, hm⟩ := ex_min (rd ns) ns.length ns.length h
    exact ⟨_, p, by omega, rfl, hm⟩
  · exact ⟨_, 0, by omega, rfl, fun q hq => by omega⟩
theorem Least.uniq {ns a b : List Int} (h1 : Least ns a) (h2 : Least ns b) : a = b := by
  obtain ⟨p, hp, rfl, m1⟩ := h1
  obtain ⟨q, hq, rfl, m2⟩ := h2
  by_cases h0 : 0 < ns.length
  · rcases Ls.total (rd ns) ns.length p q with h | h | h
    · exact absurd h (m2 p (by omega))
    · exact absurd h (m1 q (by omega))
    · exact rot_eq_of (by omega) (by omega) h
  · have : p = q := by omega
    rw [this]
theorem Ls.shift {xs : List Int} {j p q : Nat} (hj : j ≤ xs.length) (h0 : 0 < xs.length) : Ls (rd (rot xs j)) xs.length p q ↔ Ls (rd xs) xs.length (j + p) (j + q) := by
  constructor
  · rintro ⟨k, hk, e, l⟩
    refine ⟨k, hk, fun t ht => ?_, ?_⟩
    · have := e t ht
      rw [rd_rot hj h0, rd_rot hj h0] at this
      rw [Nat.add_assoc, Nat.add_assoc]
      exact this
    · rw [rd_rot hj h0, rd_rot hj h0] at l
      rw [Nat.add_assoc, Nat.add_assoc]
      exact l
  · rintro ⟨k, hk, e, l⟩
    refine ⟨k, hk, fun t ht => ?_, ?_⟩
    · rw [rd_rot hj h0, rd_rot hj h0, ← Nat.add_assoc, ← Nat.add_assoc]
      exact e t ht
    · rw [rd_rot hj h0, rd_rot hj h0, ← Nat.add_assoc, ← Nat.add_assoc]
      exact l
theorem Ls.modl {xs : List Int} {p q : Nat} : Ls (rd xs) xs.length (p % xs.length) (q % xs.length) ↔ Ls (rd xs) xs.length p q := by
  have e : ∀ s t, rd xs (s % xs.length + t) = rd xs (s + t) := fun s t => by
    unfold rd
    rw [Nat.mod_add_mod]
  constructor
  · rintro ⟨k, hk, h, l⟩
    exact ⟨k, hk, fun t ht => by rw [← e p, ← e q]; exact h t ht, by rw [← e p, ← e q]; exact l⟩
  · rintro ⟨k, hk, h, l⟩
    exact ⟨k, hk, fun t ht => by rw [e p, e q]; exact h t ht, by rw [e p, e q]; exact l⟩
theorem Least.turn {ns ms : List Int} {j : Nat} (hj : j ≤ ns.length) (h : Least (rot ns j) ms) : Least ns ms := by
  obtain ⟨p, hp, rfl, m⟩ := h
  rw [rot_length] at hp m
  by_cases h0 : 0 < ns.length
  · refine ⟨(j + p) % ns.length, by have := Nat.mod_lt (j + p) h0; omega, rot_rot hj (by omega) h0, fun q hq hl => ?_⟩
    refine m ((q + (ns.length - j)) % ns.length) (Nat.mod_lt _ h0) ?_
    rw [Ls.shift hj h0]
    have e1 : (j + (q + (ns.length - j)) % ns.length) % ns.length = q % ns.length := by
      rw [Nat.add_mod_mod]
      have : j + (q + (ns.length - j)) = q + ns.length := by omega
      rw [this, Nat.add_mod_right]
    rw [← Ls.modl, e1, Ls.modl, ← Ls.modl]
    have := Ls.modl.mpr hl
    rw [Nat.mod_mod] at this
    exact this
  · have : ns = [] := List.length_eq_zero_iff.mp (by omega)
    subst this
    refine ⟨0, by decide, ?_, fun q hq => absurd hq (by simp)⟩
    unfold rot
    simp
theorem Least.turn' {ns ms : List Int} {j : Nat} (hj : j ≤ ns.length) (h : Least ns ms) : Least (rot ns j) ms := by
  obtain ⟨ms', h'⟩ := Least.ex (rot ns j)
  have := h.uniq (h'.turn hj)
  rw [this]
  exact h'
theorem Least.self {ns ms : List Int} (h : Least ns ms) : Least ms ms := by
  obtain ⟨p, hp, e, m⟩ := id h
  by_cases h0 : 0 < ns.length
  · have := h.turn' (j := p) (by omega)
    rw [← e] at this
    exact this
  · have : ns = [] := List.length_eq_zero_iff.mp (by omega)
    subst this
    have : ms = [] := by rw [e]; unfold rot; simp
    rw [this] at h ⊢
    exact h
theorem Least.length {ns ms : List Int} (h : Least ns ms) : ms.length = ns.length := by
  obtain ⟨p, _, e, _⟩ := h
  rw [e, rot_length]
/-! ### the order of rows of one length -/
theorem ls_rows {ns : List Int} {p q : Nat} (hp : p ≤ ns.length) (hq : q ≤ ns.length) : Ls (rd ns) ns.length p q ↔ ∃ k, k < ns.length ∧ (∀ t, t < k → (rot ns p).getD t 0 = (rot ns q).getD t 0) ∧ (rot ns p).getD k 0 < (rot ns q).getD k 0 := by
  constructor
  · rintro ⟨k, hk, e, l⟩
    refine ⟨k, hk, fun t ht => ?_, ?_⟩
    · rw [rot_getD hp (by omega), rot_getD hq (by omega)]
      exact e t ht
    · rw [rot_getD hp hk, rot_getD hq hk]
      exact l
  · rintro ⟨k, hk, e, l⟩
    refine ⟨k, hk, fun t ht => ?_, ?_⟩
    · have := e t ht
      rw [rot_getD hp (by omega), rot_getD hq (by omega)] at this
      exact this
    · rw [rot_getD hp hk, rot_getD hq hk] at l
      exact l
end Lt
set_option Elab.async false
set_option linter.all false
set_option maxRecDepth 100000
set_option maxHeartbeats 1000000
namespace W09
open PySem L2 PySem.Spec PyProof.Rows WR WB
abbrev sTurnedL : Stmt := top 25
abbrev sTurnedM : Stmt := inClass (top 42) 7
theorem cut_to {ns : List Int} {j : Nat} (h : j ≤ ns.length) : cutV (iv ns) none (some ((j : Nat) : Int)) = iv (ns.take j) := by
  unfold cutV
  rw [HT.sIx_none, HT.sIx_nat, List.drop_zero, Nat.sub_zero, List.length_map, Nat.min_eq_left h, ← List.map_take]
theorem cut_from {ns : List Int} {j : Nat} (h : j ≤ ns.length) : cutV (iv ns) (some ((j : Nat) : Int)) none = iv (ns.drop j) := by
  unfold cutV
  rw [HT.sIx_none, HT.sIx_nat, List.length_map, Nat.min_eq_left h, ← List.map_drop, List.take_of_length_le (by simp)]
def trn (ns : List Int) (by_ : Int) : List Int := if ns = [] then [] else Lt.rot ns (by_ % (ns.length : Int)).toNat
theorem trn_length (ns : List Int) (b : Int) : (trn ns b).length = ns.length := by
  unfold trn
  split
  · rename_i h; rw [h]
  · exact Lt.rot_length _ _
theorem Lts.trn {ns : List Int} (h : Lts ns) (b : Int) : Lts (W09.trn ns b) := by
  unfold W09.trn
  split
  · exact fun _ h => nomatch h
  · exact fun x hx => h x (Lt.rot_mem hx)
def spTurnedL (K : PySem.W.Frag) : Sp := fun vs H Q _ => ∃ (a : Addr) (b : Int) (ns : List Int), vs = [.ref a, .int b] ∧ SqB K H a (iv ns) ∧ ns.length ≤ 1000 ∧ NewB K H Q (iv (trn ns b))
section
variable {P : Program} {w : World} {K : PySem.W.Frag} {mg : Str → Option Value} {base : Heap}
theorem scTurnedL : FnScope ["letters", "by", "start"] ["letters", "by"] (defScope sTurnedL) := ⟨rfl, rfl, rfl, by decide +kernel, rfl, by decide +kernel, by decide +kernel⟩
theorem ok_turnedL {f : Addr} {fd : FuncData} (F : Fun K "turned_letters" "turned_letters" sTurnedL f fd) (T : TxA mg) : FnOk P w K mg base CX0 1 f fd ["letters", "by"] (spTurnedL K) := by
  refine F.ok scTurnedL (fun vs H Q E h => ?_) (fun cdv A outer s H vs Q E hr h => ?_)
  · obtain ⟨a, b, ns, rfl, _⟩ := h
    rfl
  · obtain ⟨a, b, ns, rfl, hS, hlen, k⟩ := h
    refine ⟨_, pss_cons (ps_if (pt_not (pt_truth (pv 0) (by intro _; rfl))) (pss_one (ps_ret (pe_tup pa_nil))) pss_nil)
      (pss_cons (ps_set (i := 2) scTurnedL.nd rfl (Or.inl rfl) (pe_op op_mod (pv 1) (pe_callB call_len_seq (by rfl) T.len PySem.boot_len (pa_cons (pv 0) pa_nil))))
      (pss_one (ps_ret (pe_op op_catB (pe_slice sl_tupB (pv 0) (po_some (pv 2)) po_none) (pe_slice sl_tupB (pv 0) po_none (po_some (pv 2))))))), ?_⟩
    refine ⟨_, rfl, _, .inr (.inl ⟨_, hS.sq, rfl⟩), ?_⟩
    by_cases h0 : ns = []
    · subst h0
      refine iteT' (by rfl) ?_
      refine ⟨Nat.zero_le _, fun t ht => k t _ (same_upd ht) (SqB.nil (SqT.of upd_same))⟩
    · refine iteF' (by
        cases ns with
        | nil => exact absurd rfl h0
        | cons x t => rfl) ?_
      have hp : 0 < ns.length := List.length_pos_iff.mpr h0
      refine ⟨_, rfl, _, rfl, a, _, rfl, .inr hS.sq, _, _, rfl, rfl, by rw [List.length_map]; omega, ?_⟩
      have e0 : 0 ≤ b % (ns.length : Int) := Int.emod_nonneg _ (by omega)
      have e1 : b % (ns.length : Int) < (ns.length : Int) := Int.emod_lt_of_pos _ (by omega)
      obtain ⟨j, hj⟩ : ∃ j : Nat, b % (ns.length : Int) = (j : Int) := ⟨(b % (ns.length : Int)).toNat, by omega⟩
      have eL : b % (((iv ns).length : Nat) : Int) = (j : Int) := by rw [List.length_map]; exact hj
      dsimp only
      rw [eL]
      have et : trn ns b = ns.drop j ++ ns.take j := by
        unfold trn Lt.rot
        rw [if_neg h0, hj, Int.toNat_natCast]
      refine ⟨_, rfl, _, rfl, _, rfl, a, _, rfl, hS, fun p1 H1 s1 h1 => ?_⟩
      rw [cut_from (by omega)] at h1
      refine ⟨_, rfl, _, rfl, _, rfl, a, _, rfl, SqB.same s1 hS, fun p2 H2 s2 h2 => ?_⟩
      rw [cut_to (by omega)] at h2
      refine ⟨p1, p2, _, _, rfl, rfl, SqB.same s2 h1, h2, Evl.sz_of (by simp only [List.length_map, List.length_drop, List.length_take]; omega), fun p3 H3 s3 h3 => ?_⟩
      refine k p3 H3 ((s1.trans s2).trans s3) ?_
      rw [et]
      have h3' : SqB K H3 p3 (iv (ns.drop j) ++ iv (ns.take j)) := h3
      simpa [iv] using h3'
end
def spTurned (K : PySem.W.Frag) (C : Addr) : Sp := fun vs H Q _ => ∃ (p : Addr) (b : Int) (ns : List Int), vs = [.ref p, .int b] ∧ WordAt K C H p ns ∧ ns.length ≤ 500 ∧ Lts ns ∧ NewW K C H Q (trn ns b)
section
variable {P : Program} {w : World} {K : PySem.W.Frag} {mg : Str → Option Value} {base : Heap}
theorem scTurnedM : FnScope ["self", "by"] ["self", "by"] (defScope sTurnedM) := ⟨rfl, rfl, rfl, by decide +kernel, rfl, by decide +kernel, by decide +kernel⟩
theorem ok_turned {C f : Addr} {fd : FuncData} (F : Fun K "turned" "Word.turned" sTurnedM f fd) (T : TxW K mg C) (M : MkW P w K mg base C) (GN : Cal P w K mg base "need_integer" 2 ["value", "part"] spNeedI)
    (GT : Cal P w K mg base "turned_letters" 1 ["letters", "by"] (spTurnedL K)) : FnOk P w K mg base CX0 6 f fd ["self", "by"] (spTurned K C) := by
  refine F.ok scTurnedM (fun vs H Q E h => ?_) (fun cdv A outer s H vs Q E hr h => ?_)
  · obtain ⟨p, b, ns, rfl, _⟩ := h
    rfl
  · obtain ⟨p, b, ns, rfl, ⟨dx, tl, tk, ks, h1, h2, h3, h4⟩, hlen, hl, k⟩ := h
    refine ⟨_, pss_cons (ps_expr (pe_cal GN hr (by decide) (by rfl) (pa_cons (pv 1) (pa_cons pe_str pa_nil))))
      (pss_one (ps_ret (pe_word M T hr (by decide) (by rfl) (pa_cons (pe_cal GT hr (by decide) (by rfl) (pa_cons (pe_fld (pv 0) rfl) (pa_cons (pv 1) pa_nil))) pa_nil)))), ?_⟩
    refine ⟨_, rfl, b, _, rfl, ?_⟩
    refine ⟨_, rfl, p, C, dx, _, _, rfl, h1, T.cl, T.nL, wf_letters, _, rfl, tl, b, ns, rfl, h2, by omega, fun q H1 s1 hq => ?_⟩
    exact make_word (.inr hq) (by rw [trn_length]; exact hlen) (hl.trn b) fun x H' s' W => k x H' (s1.trans s') W
end
theorem nm6 : ¬ (("turned" : Str) = "letters") ∧ ¬ (("turned" : Str) = "length") ∧ ¬ (("turned" : Str) = "kinds") ∧ ¬ (("turned" : Str) = "is_short") ∧ ¬ (("turned" : Str) = "is_short_round") := by decide +kernel
theorem lcM {β : Type} {J : It} {xs : List V} {G : Hp → Prop} (w : Walk J xs.length G (YAt xs)) (ys : List β) (R : Addr → Hp → V → β → Prop) (hst : ∀ D H H' v b, R D H v b → Same H H' → R D H' v b) (hput : ∀ D H ws o v b, H D = some (.lst ws) → R D H v b → R D (L2.upd H D o) v b)
    (hz : xs.length < 40000) (hl : xs.length = ys.length) {g : TG} {te : TE} {vs : List Nat} {σ : L2.St} {H1 : Hp} {Q : VK} (hG : ∀ H, Same H1 H → G H)
    (hs : ∀ (i : Nat) (x : V) (b : β), xs[i]? = some x → ys[i]? = some b → ∀ D H, H1 D = none → (∃ ws, H D = some (.lst ws)) → Same H1 H → ∀ (Qy : V → Hp → Prop), (∀ v H', Same H H' → R D H' v b → Qy v H') →
      g x (wipe σ vs) H fun σ2 H2 => wipe σ2 vs = wipe σ vs ∧ te σ2 H2 Qy)
    (hg : ∀ x σ1 H A B, (∀ σ2 H2, A σ2 H2 → B σ2 H2) → g x σ1 H A → g x σ1 H B)
    (hd : ∀ (D : Addr) H' ws, H1 D = none → Same H1 H' → H' D = some (.lst ws) → All2 (R D H') ws ys → Q (.ref D) H') : tLc (fun _ H R => R J H) g tYes te vs σ H1 Q := by
  intro D hD
  refine lc_it w (fun i H => Same H1 H ∧ ∃ ws, H D = some (.lst ws) ∧ All2 (R D H) ws (ys.take i)) ⟨fun b o e => by rw [upd_ne (ne_of_none e hD)]; exact e, [], upd_same, by simp only [List.take_zero]; exact .nil⟩ (fun i H _ q => hG H q.1) ?_ ?_
  · rintro i x H H' hi ⟨sm, ws, hw, h2⟩ ⟨rfl, hx⟩
    have hi2 : i < ys.length := by omega
    refine hg _ _ _ _ _ (fun σ2 H2 q => ⟨q.1, yes_te q.2⟩) (hs i x ys[i] hx (List.getElem?_eq_getElem hi2) D H' hD ⟨ws, hw⟩ sm _ fun v H2 s2 r => ?_)
    have hw2 := s2 _ _ hw
    have hlen := h2.length
    rw [List.length_take] at hlen
    refine ⟨ws, hw2, Evl.sz_lt (by omega), fun b o e => ?_, ws ++ [v], upd_same, ?_⟩
    · rw [upd_ne (ne_of_none e hD)]
      exact s2 _ _ (sm _ _ e)
    · rw [List.take_succ_eq_append_getElem hi2]
      exact (h2.imp fun v b r => hput D H2 ws _ v b hw2 (hst D _ _ v b r s2)).app (.cons (hput D H2 ws _ v _ hw2 r) .nil)
  · rintro H ⟨sm, ws, hw, h2⟩
    rw [List.take_of_length_le (by omega)] at h2
    exact hd D H ws hD sm hw h2
theorem gName_mono {i : Nat} {x : V} {σ : L2.St} {H : Hp} {A B : L2.St → Hp → Prop} (k : ∀ σ2 H2, A σ2 H2 → B σ2 H2) (h : gName i x σ H A) : gName i x σ H B := k _ _ h
theorem gTup_mono {K : PySem.W.Frag} {i j : Nat} {x : V} {σ : L2.St} {H : Hp} {A B : L2.St → Hp → Prop} (k : ∀ σ2 H2, A σ2 H2 → B σ2 H2) (h : gTup K 2 (gCons (gName i) (gCons (gName j) gNil)) x σ H A) : gTup K 2 (gCons (gName i) (gCons (gName j) gNil)) x σ H B := by
  obtain ⟨a, xs, e1, e2, e3, v, r, e4, v2, r2, e5, e6, h⟩ := h
  exact ⟨a, xs, e1, e2, e3, v, r, e4, v2, r2, e5, e6, k _ _ h⟩
theorem SqT.keptL {K : PySem.W.Frag} {H H' : Hp} {l q : Addr} {vs xs : List V} (hl : H l = some (.lst vs)) (d : Kept l H H') (h : SqT K H q xs) : SqT K H' q xs := by
  rcases h with h | h
  · left
    rcases h with h | ⟨o, h⟩
    · exact .inl (d _ _ (fun z => by rw [z, hl] at h; cases h) h)
    · exact .inr ⟨o, d _ _ (fun z => by rw [z, hl] at h; cases h) h⟩
  · exact .inr h
section
variable {X : Cx} {K : PySem.W.Frag} {T : String} {name : Str} {id : String} {r : V → List V → Hp → VK → Prop} {o e : Expr} {es : List Expr} {to : TE} {t : TA} {apos cpos : Pos}
theorem pe_bmK (hK : X.K = K) (pa : PlainAttrs T) (slot : PySem.Slot T name id) (hty : typeOf (.builtin id) = pure (.type "method_descriptor")) (hm : MtR X id r) (ho : PE X o to) (ha : PA X (e :: es) t)
    (hbase : attributeBase o name X.env (eval o X.env) = eval o X.env := by rfl)
    (hfew : ((backTo cpos (starEach (e :: es) X.env)).all (fun x => !x.1) && (backToKw cpos (keywordEach [] X.env)).all (fun x => x.1.isSome)
      && decide ((e :: es).length + ([] : List Keyword).length + (if ([] : List Keyword).isEmpty then 0 else 1) < 30)) = true := by rfl)
    (hline : (apos.endLine == cpos.line) = true := by rfl) (hs : starEach (e :: es) X.env = (false, eval e X.env) :: starEach es X.env := by rfl) (hplain : (backTo cpos (starEach es X.env)).any (·.1) = false := by rfl) :
    PE X (.Call (.Attribute o name apos) (e :: es) [] cpos) (tBM K T r to t) := by
  subst hK
  exact pe_bm pa slot hty hm ho ha hbase hfew hline hs hplain
end
theorem units1 {j : Nat} {A : Around} (hr : Room j A) : A.units + 1 < cLine := by
  have := hr.units
  omega
section
variable {P : Program} {w : World} {K : PySem.W.Frag} {mg : Str → Option Value} {base : Heap}
theorem TabAt.same {K : PySem.W.Frag} {H H' : Hp} {d : Addr} {f : Int → List Int} {ns : List Int} (h : TabAt K H d f ns) (s : Same H H') : TabAt K H' d f ns := by
  obtain ⟨kvs, h1, h2⟩ := h
  refine ⟨kvs, s _ _ h1, fun x hx => ?_⟩
  rcases h2 x hx with ⟨r, a, b⟩ | h
  · exact .inl ⟨r, a, WR.Same.seqT s b⟩
  · exact .inr h
theorem scRepl : FnScope ["letters", "worths", "made", "letter"] ["letters", "worths"] (defScope sRepl) := ⟨rfl, rfl, rfl, by decide +kernel, rfl, by decide +kernel, by decide +kernel⟩
theorem ok_repl {f : Addr} {fd : FuncData} (F : Fun K "replaced_letters" "replaced_letters" sRepl f fd) (T : TxA mg) : FnOk P w K mg base CX0 1 f fd ["letters", "worths"] (spRepl K) := by
  refine F.ok scRepl (fun vs H Q E h => ?_) (fun cdv A outer s H vs Q E hr h => ?_)
  · obtain ⟨a, d, ns, f, rfl, _⟩ := h
    rfl
  · obtain ⟨a, d, ns, f, rfl, hA, hD, hb, hx1, k⟩ := h
    refine ⟨_, pss_cons (ps_set (i := 2) scRepl.nd rfl (Or.inl rfl) (pe_lst pa_nil))
      (pss_cons (ps_for PassesOwn.never rfl (pi_tup (pv 0)) (pg_name (i := 3) scRepl.nd rfl (Or.inl rfl))
        (pss_one (ps_expr (pe_bm PySem.F.plainAttrs_list PySem.F.slot_list_extend PySem.F.type_list_extend XT.mt_extT (pv 2) (pa_cons (pe_dget2 (units1 hr) (pv 1) (pv 3) (pe_tup (pa_cons (pv 3) pa_nil)) ⟨rfl, rfl, rfl, rfl⟩) pa_nil)))))
      (pss_one (ps_ret (pe_callTy call_tupB (by rfl) T.tuple (by decide +kernel) (pa_cons (pv 2) pa_nil))))), ?_⟩
    refine ⟨Nat.zero_le _, fun l hl => ?_⟩
    have sl := same_upd (o := .lst []) hl
    refine ⟨_, rfl, a, rfl, ⟨_, WR.Same.seqT sl hA⟩, for_tup (K := K) (a := a) (xs := iv ns) (fun i σ H' => ∃ v : Option V, σ = [some (.ref a), some (.ref d), some (.ref l), v] ∧ Same H H' ∧ H' l = some (.lst (iv (Fr.sub f (ns.take i)))))
      ⟨none, rfl, sl, upd_same⟩ (fun i σ H1 _ ⟨_, _, s, _⟩ => WR.Same.seqT s hA) ?_ ?_⟩
    · rintro i y σ H1 hi ⟨v, rfl, sm, hL⟩
      obtain ⟨x, hx, rfl⟩ : ∃ x, ns[i]? = some x ∧ y = V.int x := by
        rw [List.getElem?_map] at hi
        cases e : ns[i]? with
        | none => rw [e] at hi; cases hi
        | some x => rw [e] at hi; exact ⟨x, rfl, (Option.some.inj hi).symm⟩
      have hil : i < ns.length := (List.getElem?_eq_some_iff.mp hx).1
      have ex : ns[i] = x := (List.getElem?_eq_some_iff.mp hx).2
      have hxm := List.mem_of_getElem? hx
      obtain ⟨kvs, hK, hV⟩ := hD.same sm
      have hstep : Fr.sub f (ns.take (i + 1)) = Fr.sub f (ns.take i) ++ f x := by
        rw [List.take_succ_eq_append_getElem hil, ex, Fr.sub_app, Fr.sub_one]
      refine ⟨_, rfl, .inl ⟨rfl, _, SqL.of hL⟩, ?_⟩
      refine ⟨_, rfl, d, rfl, .inl ⟨kvs, .inl hK⟩, _, rfl, _, rfl, by show 1 ≤ sizeLine; decide, fun t ht => ?_⟩
      have st := same_upd (o := .tup [.int x]) ht
      refine ⟨_, DGet.k (k := Sum.inl x) (st _ _ hK), ?_⟩
      have hbi := hb i
      have hfx := hx1 x hxm
      have go : ∀ q : Addr, SqT K (L2.upd H1 t (.tup [.int x])) q (iv (f x)) → ∃ l' b xs zs, V.ref l = .ref l' ∧ [V.ref q] = [.ref b] ∧ L2.upd H1 t (.tup [.int x]) l' = some (.lst xs) ∧ SqT K (L2.upd H1 t (.tup [.int x])) b zs ∧ xs.length + zs.length ≤ sizeLine ∧
          ∃ v : Option V, [some (V.ref a), some (.ref d), some (.ref l), some (.int x)] = [some (.ref a), some (.ref d), some (.ref l), v] ∧ Same H (L2.upd (L2.upd H1 t (.tup [.int x])) l' (.lst (xs ++ zs))) ∧ L2.upd (L2.upd H1 t (.tup [.int x])) l' (.lst (xs ++ zs)) l = some (.lst (iv (Fr.sub f (ns.take (i + 1))))) := by
        intro q hq
        refine ⟨l, q, _, _, rfl, rfl, st _ _ hL, hq, Evl.sz_of (by simp only [List.length_map]; omega), _, rfl, fun b o e => ?_, ?_⟩
        · rw [upd_ne (ne_of_none e hl)]
          exact st _ _ (sm _ _ e)
        · rw [upd_same, hstep]
          simp [iv]
      rcases hV x hxm with ⟨r, e1, e2⟩ | ⟨e1, e2⟩
      · rw [e1]
        exact go r (WR.Same.seqT st e2)
      · rw [e1]
        refine go t ?_
        rw [e2]
        exact SqT.of upd_same
    · rintro σ H1 ⟨v, rfl, sm, hL⟩
      have el : (iv ns).length = ns.length := List.length_map ..
      rw [el, List.take_length] at hL
      exact ⟨_, rfl, l, _, rfl, .inl ⟨SqL.of hL, fun p H3 s3 b3 => k p H3 (sm.trans s3) b3⟩⟩
end

end W09
set_option Elab.async false
set_option linter.all false
set_option maxRecDepth 100000
set_option maxHeartbeats 1000000
namespace W09
open PySem L2 PySem.Spec PyProof.Rows WR WB
theorem sorted_ext : ∀ (l1 l2 : List Int), l1.Pairwise (· < ·) → l2.Pairwise (· < ·) → (∀ x, x ∈ l1 ↔ x ∈ l2) → l1 = l2
  | [], [], _, _, _ => rfl
  | [], b :: t, _, _, h => absurd ((h b).mpr List.mem_cons_self) (fun q => nomatch q)
  | a :: s, [], _, _, h => absurd ((h a).mp List.mem_cons_self) (fun q => nomatch q)
  | a :: s, b :: t, h1, h2, h => by
    rw [List.pairwise_cons] at h1 h2
    have e : a = b := by
      rcases List.mem_cons.mp ((h a).mp List.mem_cons_self) with e | m
      · exact e
      · rcases List.mem_cons.mp ((h b).mpr List.mem_cons_self) with e | m2
        · exact e.symm
        · have := h2.1 a m
          have := h1.1 b m2
          omega
    subst e
    rw [sorted_ext s t h1.2 h2.2 fun x => ⟨fun hx => ?_, fun hx => ?_⟩]
    · rcases List.mem_cons.mp ((h x).mp (List.mem_cons_of_mem _ hx)) with e | m
      · have := h1.1 x hx
        omega
      · exact m
    · rcases List.mem_cons.mp ((h x).mpr (List.mem_cons_of_mem _ hx)) with e | m
      · have := h2.1 x hx
        omega
      · exact m
theorem cnt_zero {ns : List Int} {k : Int} (h : ¬ ∃ x ∈ ns, k = (x.natAbs : Int)) (hk : 0 < k) : Fr.cnt ns k = 0 := by
  have h1 : ns.count k = 0 := List.count_eq_zero.mpr fun q => h ⟨k, q, by omega⟩
  have h2 : ns.count (-k) = 0 := List.count_eq_zero.mpr fun q => h ⟨-k, q, by omega⟩
  unfold Fr.cnt
  rw [h1, h2]
  rfl
theorem bal_kinds {ns ks : List Int} (h : Lts ns) (hk : kindsOk ns ks) : (ks.map fun k => (k, Fr.cnt ns k)).filter (fun p => decide (p.2 ≠ 0)) = Fr.bal ns := by
  have e : Fr.bal ns = (((List.range 26).map fun (i : Nat) => (i : Int) + 1).map fun k => (k, Fr.cnt ns k)).filter (fun p => decide (p.2 ≠ 0)) := by
    unfold Fr.bal
    rw [List.map_map]
    rfl
  rw [e, List.filter_map, List.filter_map]
  congr 1
  refine sorted_ext _ _ (hk.1.filter _) (List.Pairwise.filter _ ?_) fun x => ?_
  · rw [List.pairwise_map]
    exact List.pairwise_lt_range.imp fun h => by omega
  · rw [List.mem_filter, List.mem_filter]
    refine and_congr_left fun hc => ?_
    have hc : Fr.cnt ns x ≠ 0 := of_decide_eq_true hc
    rw [hk.2 x, List.mem_map]
    constructor
    · rintro ⟨y, hy, rfl⟩
      obtain ⟨y1, y2⟩ := h y hy
      exact ⟨y.natAbs - 1, List.mem_range.mpr (by omega), by omega⟩
    · rintro ⟨i, hi, rfl⟩
      exact Decidable.byContradiction fun q => hc (cnt_zero q (by omega))
/-- a tuple of two ints -/
def PrT (K : PySem.W.Frag) (H : Hp) (v : V) (p : Int × Int) : Prop := ∃ q : Addr, v = .ref q ∧ SqT K H q [.int p.1, .int p.2]
theorem PrT.same {K : PySem.W.Frag} {H H' : Hp} {v : V} {p : Int × Int} (h : PrT K H v p) (s : Same H H') : PrT K H' v p := by
  obtain ⟨q, e, h⟩ := h
  exact ⟨q, e, WR.Same.seqT s h⟩
theorem PrT.put {K : PySem.W.Frag} {D : Addr} {H : Hp} {ws : List V} {o : HO} {v : V} {p : Int × Int} (hD : H D = some (.lst ws)) (h : PrT K H v p) : PrT K (L2.upd H D o) v p := by
  obtain ⟨q, e, h⟩ := h
  exact ⟨q, e, SqT.keptL hD Kept.upd h⟩
def BalAt (K : PySem.W.Frag) (H : Hp) (a : Addr) (ps : List (Int × Int)) : Prop := ∃ vs, SqT K H a vs ∧ All2 (PrT K H) vs ps
theorem BalAt.same {K : PySem.W.Frag} {H H' : Hp} {a : Addr} {ps : List (Int × Int)} (h : BalAt K H a ps) (s : Same H H') : BalAt K H' a ps := by
  obtain ⟨vs, h1, h2⟩ := h
  exact ⟨vs, WR.Same.seqT s h1, h2.imp fun _ _ r => r.same s⟩
def spBalOf (K : PySem.W.Frag) : Sp := fun vs H Q _ => ∃ (a : Addr) (ns : List Int), vs = [.ref a] ∧ SqB K H a (iv ns) ∧ ns.length ≤ 1000 ∧ Lts ns ∧ ∀ p H', Same H H' → BalAt K H' p (Fr.bal ns) → Q (.ref p) H'
abbrev nBalOf : List Str := ["letters", "pairs", "kind", "more"]
theorem kinds_len {ns ks : List Int} (h : Lts ns) (hk : kindsOk ns ks) : ks.length ≤ 26 := by
  refine pigeon 26 ks ?_ fun k hk' => ?_
  · exact hk.1.imp fun h => by omega
  · obtain ⟨x, hx, rfl⟩ := (hk.2 k).mp hk'
    obtain ⟨y1, y2⟩ := h x hx
    omega
theorem as_lc {wi : TI} {g : TG} {tt : TT} {te : TE} {gg : TG} {vs : List Nat} {D : Ends} {σ : L2.St} {H : Hp}
    (h : wi σ H fun J H1 => tLc (fun _ H R => R J H) g tt te vs σ H1 fun z H4 => gg z σ H4 D.nx) : tAsg (tLc wi g tt te vs) gg D σ H := h
theorem at_set {σ : L2.St} {H : Hp} {v : V} {i : Nat} {f : L2.St → Hp → Prop} (h : f (σ.set i (some v)) H) : gName i v σ H f := h
section
variable {P : Program} {w : World} {K : PySem.W.Frag} {mg : Str → Option Value} {base : Heap}
theorem scBalOf : FnScope nBalOf ["letters"] (defScope sBalOf) := ⟨rfl, rfl, rfl, by decide +kernel, rfl, by decide +kernel, by decide +kernel⟩
theorem ok_balOf {f : Addr} {fd : FuncData} (F : Fun K "balance_of" "balance_of" sBalOf f fd) (T : TxA mg) (GK : Cal P w K mg base "kinds_of" 1 ["letters"] (spKinds K)) : FnOk P w K mg base CX0 2 f fd ["letters"] (spBalOf K) := by
  refine F.ok scBalOf (fun vs H Q E h => ?_) (fun cdv A outer s H vs Q E hr h => ?_)
  · obtain ⟨a, ns, rfl, _⟩ := h
    rfl
  · obtain ⟨a, ns, rfl, hA, hlen, hl, k⟩ := h
    refine ⟨_, pss_cons (ps_setLc (i := 1) (own := [("kind", 2)]) (g := gName 2) (tt := tYes) rfl scBalOf.nd rfl rfl (sw_true rfl rfl rfl (by decide +kernel)) (pi_tup (pe_cal GK hr (by decide) (by rfl) (pa_cons (pv 0) pa_nil)))
        (blkOk_by (N := nBalOf) (sc := defScope sBalOf) (by decide +kernel)) (fun _ _ _ _ _ => pg_name (i := 2) scBalOf.nd rfl (Or.inl rfl)) (fun _ _ _ _ _ => pts_nil)
        (fun _ _ _ _ _ => pe_tup (pa_cons (pv 2) (pa_cons (pe_op op_sub (pe_mG (tyB_ok (K := K) rfl) PySem.F.plainAttrs_tuple PySem.F.slot_tuple_count PySem.F.type_tuple_count (mt_tcount (K := K) rfl) (pv 0) (pa_cons (pv 2) pa_nil)) (pe_mG (tyB_ok (K := K) rfl) PySem.F.plainAttrs_tuple PySem.F.slot_tuple_count PySem.F.type_tuple_count (mt_tcount (K := K) rfl) (pv 0) (pa_cons (pe_un un_neg (pv 2)) pa_nil))) pa_nil))))
      (pss_one (ps_ret (pe_callTy call_tuple_of (by rfl) T.tuple (by decide +kernel) (pa_cons (pe_lc (own := [("kind", 2), ("more", 3)]) (g := gTup K 2 (gCons (gName 2) (gCons (gName 3) gNil))) rfl scBalOf.nd (pi_list (pv 1))
        (blkOk_by (N := nBalOf) (sc := defScope sBalOf) (by decide +kernel)) (fun _ _ _ _ _ => pg_tup (n := 2) rfl (pgs_cons (pg_name (i := 2) scBalOf.nd rfl (Or.inl rfl)) (pgs_cons (pg_name (i := 3) scBalOf.nd rfl (Or.inl rfl)) pgs_nil)))
        (fun _ _ _ _ _ => pts_one (pt_cmpR op_ne (pv 3) pe_int (nomark _))) (fun _ _ _ _ _ => pe_tup (pa_cons (pv 2) (pa_cons (pv 3) pa_nil)))) pa_nil)))), ?_⟩
    refine as_lc ?_
    refine ⟨_, rfl, a, ns, rfl, .inr hA.sq, hlen, hl, fun ks hk kp H1 s1 hkp => ?_⟩
    have hkl := kinds_len hl hk
    have hA1 := SqB.same s1 hA
    refine ⟨kp, rfl, ⟨_, hkp⟩, ?_⟩
    refine lcM (walk_tup (K := K) (a := kp) (xs := iv ks)) (ks.map fun k => (k, Fr.cnt ns k)) (fun D H v p => PrT K H v p) (fun _ _ _ _ _ h s => h.same s) (fun _ _ _ _ _ _ hD h => h.put hD) (by rw [List.length_map]; omega) (by rw [List.length_map, List.length_map]) (fun H2 s2 => WR.Same.seqT s2 hkp) ?_ (fun x σ1 H A B k h => gName_mono k h) ?_
    · intro i x b hx hb D H2 hD ⟨us, hus⟩ s2 Qy ky
      obtain ⟨z, hz, rfl⟩ : ∃ z, ks[i]? = some z ∧ x = V.int z := by
        rw [List.getElem?_map] at hx
        cases e : ks[i]? with
        | none => rw [e] at hx; cases hx
        | some z => rw [e] at hx; exact ⟨z, rfl, (Option.some.inj hx).symm⟩
      rw [List.getElem?_map, hz] at hb
      obtain rfl := Option.some.inj hb
      have hA2 := SqB.same s2 hA1
      have hne : iv ns ≠ [] := fun e => by
        obtain ⟨y, hy, _⟩ := (hk.2 z).mp (List.mem_of_getElem? hz)
        have : ns = [] := List.map_eq_nil_iff.mp e
        rw [this] at hy
        cases hy
      refine ⟨rfl, ?_⟩
      refine ⟨_, rfl, _, rfl, ⟨a, _, rfl, hA2, hne⟩, _, rfl, a, ns, z, rfl, rfl, hA2.sq, _, rfl, ⟨a, _, rfl, hA2, hne⟩, _, rfl, _, rfl, a, ns, -z, rfl, rfl, hA2.sq, ?_⟩
      refine ⟨_, _, rfl, rfl, by show 2 ≤ sizeLine; decide, fun q hq => ?_⟩
      exact ky (.ref q) _ (same_upd hq) ⟨q, rfl, SqT.of upd_same⟩
    intro D H2 ws hD s2 h2 r2
    have l2 := r2.length
    rw [List.length_map] at l2
    refine at_set ?_
    try dsimp only
    refine ⟨_, rfl, D, rfl, ⟨_, SqL.of h2⟩, fun D2 hD2 => ?_⟩
    refine lc_it (walk_list (K := K) (a := D) (xs := ws)) (fun j H' => Same H2 H' ∧ ∃ us, H' D2 = some (.lst us) ∧ us.length ≤ j ∧ All2 (PrT K H') us (((ks.map fun k => (k, Fr.cnt ns k)).take j).filter fun p => decide (p.2 ≠ 0)))
      ⟨same_upd hD2, [], upd_same, Nat.le_refl _, by rw [List.take_zero]; exact .nil⟩ (fun j H' _ q => SqL.of (q.1 _ _ h2)) ?_ ?_
    · rintro j x H3 _ hj ⟨sm, us, hus, lu, hu⟩ ⟨rfl, hx⟩
      obtain ⟨b, hb, q, rfl, hq⟩ := r2.at hx
      have hjk : j < (ks.map fun k => (k, Fr.cnt ns k)).length := (List.getElem?_eq_some_iff.mp hb).1
      have eb : (ks.map fun k => (k, Fr.cnt ns k))[j] = b := (List.getElem?_eq_some_iff.mp hb).2
      refine ⟨q, _, rfl, WR.Same.seqT sm hq, rfl, _, _, rfl, _, _, rfl, rfl, ?_⟩
      refine ⟨rfl, ?_⟩
      refine ⟨_, rfl, rfl, _, rfl, ?_⟩
      rw [List.take_succ_eq_append_getElem hjk, eb, List.filter_append]
      refine ite2 (fun hn => ?_) (fun hn => ?_)
      · refine ⟨_, rfl, _, rfl, by show 2 ≤ sizeLine; decide, fun t ht => ?_⟩
        have st := same_upd (o := .tup [.int b.1, .int b.2]) ht
        have hbn : b.2 ≠ 0 := fun z => by
          rw [z] at hn
          exact absurd hn (by decide)
        have hus2 := st _ _ hus
        refine ⟨us, hus2, Evl.sz_lt (by rw [List.length_map] at hjk; omega), fun b' o e => ?_, us ++ [.ref t], upd_same, by rw [List.length_append]; show _ + 1 ≤ _; omega, ?_⟩
        · rw [upd_ne (ne_of_none e hD2)]
          exact st _ _ (sm _ _ e)
        · refine All2.app (hu.imp fun _ _ r => (r.same st).put hus2) ?_
          have : ([b].filter fun p => decide (p.2 ≠ 0)) = [b] := by simp [hbn]
          rw [this]
          exact .cons (PrT.put hus2 ⟨t, rfl, SqT.of upd_same⟩) .nil
      · refine ⟨sm, us, hus, by omega, ?_⟩
        have hbz : b.2 = 0 := Decidable.byContradiction fun z => hn (by
          have : ¬ (V.int b.2 = V.int 0) := fun q => z (by injection q)
          simp [this])
        have : ([b].filter fun p => decide (p.2 ≠ 0)) = [] := by simp [hbz]
        rw [this, List.append_nil]
        exact hu
    · rintro H3 ⟨sm, us, hus, lu, hu⟩
      rw [l2] at hu
      rw [List.take_of_length_le (by rw [List.length_map]; exact Nat.le_refl _), bal_kinds hl hk] at hu
      refine ⟨D2, _, rfl, .inl ⟨SqL.of hus, fun p hp => ?_⟩⟩
      have sp := same_upd (o := .tup us) hp
      exact k p _ (((s1.trans s2).trans sm).trans sp) ⟨us, SqT.of upd_same, hu.imp fun _ _ r => r.same sp⟩
end
end W09
set_option Elab.async false
set_option linter.all false
set_option maxRecDepth 100000
set_option maxHeartbeats 1000000
namespace W09
open PySem L2 PySem.Spec PyProof.Rows WR WB
abbrev sNeedWi : Stmt := top 30
abbrev sNeedK : Stmt := top 31
abbrev sNeedL : Stmt := top 32
abbrev sNeedP : Stmt := top 44
abbrev sRen : Stmt := top 45
abbrev sPut : Stmt := top 46
abbrev sBal : Stmt := top 48
abbrev sIsBal : Stmt := top 49
abbrev sExchM : Stmt := inClass (top 42) 11
/-- what is walked is served by one rule or by the other -/
theorem pi_or {X : Cx} {tg l : Expr} {w1 w2 : TI} (h1 : PI X tg l w1) (h2 : PI X tg l w2) : PI X tg l (fun σ H R => w1 σ H R ∨ w2 σ H R) :=
  ⟨fun pins s σ H R I h => h.elim (fun q => h1.run pins s σ H R I q) (fun q => h2.run pins s σ H R I q)⟩
theorem or_sq {K : PySem.W.Frag} {σ : L2.St} {H : Hp} {a : Addr} {xs : List V} {i : Nat} {R : It → Hp → Prop} (hi : σ[i]? = some (some (.ref a))) (hS : SqE K H a xs) (k : ∀ J G, Walk J xs.length G (YAt xs) → (∀ H', Same H H' → G H') → R J H) :
    iList K (tVar i) σ H R ∨ iTup K (tVar i) σ H R := by
  rcases hS with h | h
  · exact .inl ⟨_, hi, a, rfl, ⟨_, h⟩, k _ _ (walk_list (xs := xs)) fun H' s => s.seq h⟩
  · exact .inr ⟨_, hi, a, rfl, ⟨_, h⟩, k _ _ (walk_tup (xs := xs)) fun H' s => WR.Same.seqT s h⟩
theorem or_sq0 {K : PySem.W.Frag} {σ : L2.St} {H H0 : Hp} {a : Addr} {xs : List V} {i : Nat} {R : It → Hp → Prop} (hi : σ[i]? = some (some (.ref a))) (hS : SqE K H0 a xs) (s0 : Same H0 H) (k : ∀ J G, Walk J xs.length G (YAt xs) → (∀ H', Same H0 H' → G H') → R J H) :
    iList K (tVar i) σ H R ∨ iTup K (tVar i) σ H R := by
  rcases hS with h | h
  · exact .inl ⟨_, hi, a, rfl, ⟨_, s0.seq h⟩, k _ _ (walk_list (xs := xs)) fun H' s => s.seq h⟩
  · exact .inr ⟨_, hi, a, rfl, ⟨_, WR.Same.seqT s0 h⟩, k _ _ (walk_tup (xs := xs)) fun H' s => WR.Same.seqT s h⟩
def rLenS (K : PySem.W.Frag) : List V → Hp → VK → Prop := fun xs H Q => ∃ p ys, xs = [.ref p] ∧ (SqL K H p ys ∨ SqT K H p ys) ∧ Q (.int ys.length) H
theorem call_lenK {X : Cx} {K : PySem.W.Frag} (h : X.K = K) : CallR X (.builtin "len") (rLenS K) := h ▸ call_len_seq
/-! ### pairs of a kind and a letter -/
def PrE (K : PySem.W.Frag) (H : Hp) (v : V) (p : Int × Int) : Prop := ∃ q : Addr, v = .ref q ∧ SqE K H q [.int p.1, .int p.2]
theorem PrE.same {K : PySem.W.Frag} {H H' : Hp} {v : V} {p : Int × Int} (h : PrE K H v p) (s : Same H H') : PrE K H' v p := by
  obtain ⟨q, e, h⟩ := h
  exact ⟨q, e, h.same s⟩
def PairsAt (K : PySem.W.Frag) (H : Hp) (a : Addr) (prs : List (Int × Int)) : Prop := ∃ vs, SqE K H a vs ∧ All2 (PrE K H) vs prs
theorem PairsAt.same {K : PySem.W.Frag} {H H' : Hp} {a : Addr} {prs : List (Int × Int)} (h : PairsAt K H a prs) (s : Same H H') : PairsAt K H' a prs := by
  obtain ⟨vs, h1, h2⟩ := h
  exact ⟨vs, h1.same s, h2.imp fun _ _ r => r.same s⟩
structure GoodP (prs : List (Int × Int)) : Prop where
  len : prs.length ≤ 30
  kind : ∀ p ∈ prs, 1 ≤ p.1 ∧ p.1 ≤ 26
  lett : ∀ p ∈ prs, 1 ≤ p.2.natAbs ∧ p.2.natAbs ≤ 26
  nd : (prs.map (·.1)).Nodup
def spNeedWi : Sp := fun vs H Q _ => ∃ (n l m : Int) (z : V), vs = [.int n, .int l, .int m, z] ∧ l ≤ n ∧ n ≤ m ∧ Q .non H
def spNeedK : Sp := fun vs H Q _ => ∃ (n : Int) (z : V), vs = [.int n, z] ∧ 1 ≤ n ∧ n ≤ 26 ∧ Q .non H
def spNeedL : Sp := fun vs H Q _ => ∃ (n : Int), vs = [.int n] ∧ 1 ≤ n.natAbs ∧ n.natAbs ≤ 26 ∧ Q .non H
def spNeedP (K : PySem.W.Frag) : Sp := fun vs H Q _ => ∃ (a : Addr) (prs : List (Int × Int)), vs = [.ref a] ∧ PairsAt K H a prs ∧ GoodP prs ∧ ∀ H', Same H H' → Q .non H'
theorem within_ok {n l m : Int} (h1 : l ≤ n) (h2 : n ≤ m) : within (.int n) (.int l) (.int m) = true := by
  show (decide (l ≤ n) && decide (n ≤ m)) = true
  rw [decide_eq_true h1, decide_eq_true h2]
  rfl
section
variable {P : Program} {w : World} {K : PySem.W.Frag} {mg : Str → Option Value} {base : Heap}
theorem scNeedWi : FnScope ["value", "least", "most", "part"] ["value", "least", "most", "part"] (defScope sNeedWi) := ⟨rfl, rfl, rfl, by decide +kernel, rfl, by decide +kernel, by decide +kernel⟩
theorem ok_needWi {f : Addr} {fd : FuncData} (F : Fun K "need_within" "need_within" sNeedWi f fd) (GW : Cal P w K mg base "is_within" 2 ["value", "least", "most"] spWithin) : FnOk P w K mg base CX0 3 f fd ["value", "least", "most", "part"] spNeedWi := by
  refine F.ok scNeedWi (fun vs H Q E h => ?_) (fun cdv A outer s H vs Q E hr h => ?_)
  · obtain ⟨n, l, m, z, rfl, _⟩ := h
    rfl
  · obtain ⟨n, l, m, z, rfl, h1, h2, k⟩ := h
    refine ⟨_, pss_one (ps_if (pt_not (pt_val (pe_cal GW hr (by decide) (by rfl) (pa_cons (pv 0) (pa_cons (pv 1) (pa_cons (pv 2) pa_nil)))))) (pss_one ps_never) pss_nil), ?_⟩
    refine ⟨_, rfl, _, rfl, _, rfl, _, _, _, _, rfl, .int n, .inr ⟨l, rfl⟩, .inr ⟨m, rfl⟩, _, rfl, ?_⟩
    rw [within_ok h1 h2]
    exact iteF k
theorem scNeedK : FnScope ["value", "part"] ["value", "part"] (defScope sNeedK) := ⟨rfl, rfl, rfl, by decide +kernel, rfl, by decide +kernel, by decide +kernel⟩
theorem ok_needK {f : Addr} {fd : FuncData} (F : Fun K "need_kind" "need_kind" sNeedK f fd) (T : TxC mg) (GW : Cal P w K mg base "need_within" 3 ["value", "least", "most", "part"] spNeedWi) : FnOk P w K mg base CX0 4 f fd ["value", "part"] spNeedK := by
  refine F.ok scNeedK (fun vs H Q E h => ?_) (fun cdv A outer s H vs Q E hr h => ?_)
  · obtain ⟨n, z, rfl, _⟩ := h
    rfl
  · obtain ⟨n, z, rfl, h1, h2, k⟩ := h
    obtain ⟨tk, mK⟩ := T.kind
    refine ⟨_, pss_one (ps_expr (pe_cal GW hr (by decide) (by rfl) (pa_cons (pv 0) (pa_cons pe_int (pa_cons (pe_glob (v := .int 26) (by rfl) mK ⟨_, rfl⟩) (pa_cons (pv 1) pa_nil)))))), ?_⟩
    exact ⟨_, rfl, _, rfl, n, 1, 26, _, rfl, h1, h2, k⟩
theorem scNeedL : FnScope ["value"] ["value"] (defScope sNeedL) := ⟨rfl, rfl, rfl, by decide +kernel, rfl, by decide +kernel, by decide +kernel⟩
theorem ok_needL {f : Addr} {fd : FuncData} (F : Fun K "need_letter" "need_letter" sNeedL f fd) (GX : Cal P w K mg base "is_letter" 3 ["value"] spLetter) : FnOk P w K mg base CX0 4 f fd ["value"] spNeedL := by
  refine F.ok scNeedL (fun vs H Q E h => ?_) (fun cdv A outer s H vs Q E hr h => ?_)
  · obtain ⟨n, rfl, _⟩ := h
    rfl
  · obtain ⟨n, rfl, h1, h2, k⟩ := h
    refine ⟨_, pss_one (ps_if (pt_not (pt_val (pe_cal GX hr (by decide) (by rfl) (pa_cons (pv 0) pa_nil)))) (pss_one ps_never) pss_nil), ?_⟩
    refine ⟨_, rfl, .int n, _, rfl, .int n, _, rfl, ?_⟩
    rw [letter_ok ⟨h1, h2⟩]
    exact iteF k
abbrev nNeedP : List Str := ["pairs", "kind", "letter", "again", "pair", "_"]
theorem scNeedP : FnScope nNeedP ["pairs"] (defScope sNeedP) := ⟨rfl, rfl, rfl, by decide +kernel, rfl, by decide +kernel, by decide +kernel⟩
theorem ok_needP {f : Addr} {fd : FuncData} (F : Fun K "need_pairs" "need_pairs" sNeedP f fd) (T : TxW K mg C) (TC : TxC mg) (TA : TxA mg) (GL : Cal P w K mg base "is_listed" 1 ["value"] (spListE K)) (GW : Cal P w K mg base "is_within" 2 ["value", "least", "most"] spWithin)
    (GN : Cal P w K mg base "need_letter" 4 ["value"] spNeedL) (GT : Cal P w K mg base "first_twice" 1 ["values"] (spTwice K)) : FnOk P w K mg base CX0 5 f fd ["pairs"] (spNeedP K) := by
  refine F.ok scNeedP (fun vs H Q E h => ?_) (fun cdv A outer s H vs Q E hr h => ?_)
  · obtain ⟨a, prs, rfl, _⟩ := h
    rfl
  · obtain ⟨a, prs, rfl, ⟨ws, hS, h2⟩, g, k⟩ := h
    obtain ⟨tk, mK⟩ := TC.kind
    have hw := h2.length
    have hg := g.len
    refine ⟨_, pss_cons (ps_if (PW.pt (pw_or (pt_not (pt_val (pe_cal GL hr (by decide) (by rfl) (pa_cons (pv 0) pa_nil)))) (pw_or1 (pt_not (pt_val (pe_callB (cr_all rfl) (by rfl) T.all (by decide +kernel) (pa_cons (pe_lc (own := [("pair", 4)]) (g := gName 4) (tt := tYes) rfl scNeedP.nd (pi_or (pi_list (pv 0)) (pi_tup (pv 0)))
          (blkOk_by (N := nNeedP) (sc := defScope sNeedP) (by decide +kernel)) (fun _ _ _ _ _ => pg_name (i := 4) scNeedP.nd rfl (Or.inl rfl)) (fun _ _ _ _ _ => pts_nil)
          (fun _ _ _ _ _ => pe_and (pe_cal GL hr (by decide) (by rfl) (pa_cons (pv 4) pa_nil)) (pe_one (pe_cmpR op_eq (pe_callB (call_lenK (K := K) rfl) (by rfl) TA.len PySem.boot_len (pa_cons (pv 4) pa_nil)) pe_int (nomark _))))) pa_nil))))))) (pss_one ps_never) pss_nil)
      (pss_cons (ps_for PassesOwn.never rfl (pi_or (pi_list (pv 0)) (pi_tup (pv 0))) (UL.pg_either rfl (pgs_cons (pg_name (i := 1) scNeedP.nd rfl (Or.inl rfl)) (pgs_cons (pg_name (i := 2) scNeedP.nd rfl (Or.inl rfl)) pgs_nil)))
        (pss_cons (ps_if (pt_not (pt_val (pe_cal GW hr (by decide) (by rfl) (pa_cons (pv 1) (pa_cons pe_int (pa_cons (pe_glob (v := .int 26) (by rfl) mK ⟨_, rfl⟩) pa_nil)))))) (pss_one ps_never) pss_nil)
        (pss_one (ps_expr (pe_cal GN hr (by decide) (by rfl) (pa_cons (pv 2) pa_nil))))))
      (pss_cons (ps_set (i := 3) scNeedP.nd rfl (Or.inl rfl) (pe_cal GT hr (by decide) (by rfl) (pa_cons (pe_lc (own := [("kind", 1), ("_", 5)]) (g := UL.gEither K 2 (gCons (gName 1) (gCons (gName 5) gNil))) (tt := tYes) rfl scNeedP.nd (pi_or (pi_list (pv 0)) (pi_tup (pv 0)))
          (blkOk_by (N := nNeedP) (sc := defScope sNeedP) (by decide +kernel)) (fun _ _ _ _ _ => UL.pg_either rfl (pgs_cons (pg_name (i := 1) scNeedP.nd rfl (Or.inl rfl)) (pgs_cons (pg_name (i := 5) scNeedP.nd rfl (Or.inl rfl)) pgs_nil))) (fun _ _ _ _ _ => pts_nil)
          (fun _ _ _ _ _ => pv 1)) pa_nil)))
      (pss_one (ps_if (pt_cmpR op_notN (pv 3) pe_non (nomark _)) (pss_one ps_never) pss_nil)))), ?_⟩
    refine ⟨_, rfl, a, ws, rfl, hS, fun H1 s1 => ⟨_, rfl, iteF ?_⟩⟩
    refine not_lc ?_
    refine or_sq rfl (hS.same s1) fun J G wk hG => ?_
    refine lcp wk (fun _ => true) (fun _ => .bl true) (by omega) hG ?_ ?_
    · intro x hx H2 s2 Qy Qn ky kn
      obtain ⟨b, hb, q, rfl, hq⟩ := h2.mem hx
      refine ⟨rfl, yes_te ?_⟩
      refine ⟨_, rfl, q, _, rfl, hq.same (s1.trans s2), fun H3 s3 => ⟨_, rfl, iteT ?_⟩⟩
      exact ⟨_, rfl, q, _, rfl, hq.same ((s1.trans s2).trans s3), rfl, ky rfl H3 s3⟩
    intro D H2 hD s2 hD2
    refine ⟨D, ws.map fun _ => true, rfl, SqL.of (by rw [hD2, List.filter_eq_self.mpr (fun _ _ => rfl), List.map_map]; rfl), _, rfl, ?_⟩
    have eall : ((ws.map fun _ => true).all id) = true := by
      rw [List.all_eq_true]
      intro b hb
      obtain ⟨_, _, rfl⟩ := List.mem_map.mp hb
      rfl
    rw [eall]
    refine iteF ?_
    have s12 := s1.trans s2
    refine or_sq rfl (hS.same s12) fun J G wk hG => ?_
    refine for_it wk (fun i σ H' => ∃ v1 v2 : Option V, σ = [some (.ref a), v1, v2, none, none, none] ∧ Same H2 H') ⟨none, none, rfl, Same.refl _⟩ (fun i σ H1 _ ⟨_, _, _, s⟩ => hG _ s) ?_ ?_
    · rintro i x σ H3 _ hi ⟨v1, v2, rfl, sm⟩ ⟨rfl, hx⟩
      obtain ⟨p, hp, q, rfl, hq⟩ := h2.at hx
      have hpm := List.mem_of_getElem? hp
      obtain ⟨k1, k2⟩ := g.kind p hpm
      obtain ⟨l1, l2⟩ := g.lett p hpm
      refine ⟨q, _, rfl, hq.same (s12.trans sm), rfl, _, _, rfl, _, _, rfl, rfl, ?_⟩
      refine ⟨_, rfl, .int p.1, .int 1, .int 26, _, rfl, .int p.1, .inr ⟨1, rfl⟩, .inr ⟨26, rfl⟩, _, rfl, ?_⟩
      rw [within_ok k1 k2]
      refine iteF ?_
      exact ⟨_, rfl, p.2, rfl, l1, l2, _, _, rfl, sm⟩
    rintro σ H3 ⟨v1, v2, rfl, sm⟩
    have s13 := s12.trans sm
    refine or_sq rfl (hS.same s13) fun J G wk hG D3 hD3 => ?_
    refine lc_it wk (fun i H' => Same H3 H' ∧ H' D3 = some (.lst (iv ((prs.take i).map (·.1))))) ⟨same_upd hD3, by rw [upd_same]; rfl⟩ (fun i H' _ q => hG _ q.1) ?_ ?_
    · rintro i x H4 _ hi ⟨sm4, hD4⟩ ⟨rfl, hx⟩
      obtain ⟨p, hp, q, rfl, hq⟩ := h2.at hx
      have hil : i < prs.length := (List.getElem?_eq_some_iff.mp hp).1
      have ep : prs[i] = p := (List.getElem?_eq_some_iff.mp hp).2
      refine ⟨q, _, rfl, hq.same (s13.trans sm4), rfl, _, _, rfl, _, _, rfl, rfl, ?_⟩
      refine ⟨rfl, yes_te ⟨_, rfl, _, hD4, Evl.sz_lt (by simp; omega), fun b o e => ?_, ?_⟩⟩
      · rw [upd_ne (ne_of_none e hD3)]
        exact sm4 _ _ e
      · rw [upd_same, List.take_succ_eq_append_getElem hil, ep]
        simp [iv]
    · rintro H4 ⟨sm4, hD4⟩
      rw [hw, List.take_length] at hD4
      refine ⟨D3, prs.map (·.1), rfl, hD4, g.nd, by rw [List.length_map]; omega, fun H5 s5 => ?_⟩
      exact ⟨_, rfl, rfl, _, rfl, iteF (k H5 ((s13.trans sm4).trans s5))⟩
end
end W09
set_option Elab.async false
set_option linter.all false
set_option maxRecDepth 100000
set_option maxHeartbeats 1000000
namespace W09
open PySem L2 PySem.Spec PyProof.Rows WR WB
/-! ### renamed -/
/-- what the names hold for a letter -/
def tv (ps : List (Int × Int)) (x : Int) : Option V := if 0 < x then (Fr.told? ps x).map V.int else (Fr.told? ps (-x)).map fun l => V.int (-l)
theorem tv_get (ps : List (Int × Int)) (x : Int) : (tv ps x).getD (.int x) = V.int (Fr.ren ps x) := by
  unfold tv Fr.ren
  by_cases h : 0 < x
  · rw [if_pos h, if_pos h]
    cases Fr.told? ps x <;> rfl
  · rw [if_neg h, if_neg h]
    cases Fr.told? ps (-x) with
    | none => show V.int x = V.int (- -x); rw [Int.neg_neg]
    | some l => rfl
theorem told_snoc {ps : List (Int × Int)} {k l : Int} (h : Fr.told? ps k = none) (y : Int) : Fr.told? (ps ++ [(k, l)]) y = if y = k then some l else Fr.told? ps y := by
  induction ps with
  | nil =>
    rw [List.nil_append, Fr.told_cons, Fr.told_nil]
    by_cases e : y = k
    · rw [if_pos e, if_pos e.symm]
    · rw [if_neg e, if_neg (fun z => e z.symm)]
  | cons p r ih =>
    rw [Fr.told_cons] at h
    rw [List.cons_append, Fr.told_cons, Fr.told_cons]
    by_cases e : p.1 = k
    · rw [if_pos e] at h
      cases h
    · rw [if_neg e] at h
      rw [ih h]
      by_cases e2 : p.1 = y
      · rw [if_pos e2, if_pos e2, if_neg (fun z => e (e2.trans z))]
      · rw [if_neg e2, if_neg e2]
theorem ren_lts {ps : List (Int × Int)} (h : ∀ p ∈ ps, 1 ≤ p.2.natAbs ∧ p.2.natAbs ≤ 26) {ns : List Int} (hl : Lts ns) : Lts (ns.map (Fr.ren ps)) := by
  intro y hy
  obtain ⟨x, hx, rfl⟩ := List.mem_map.mp hy
  obtain ⟨x1, x2⟩ := hl x hx
  unfold Fr.ren
  by_cases h0 : 0 < x
  · rw [if_pos h0]
    cases e : Fr.told? ps x with
    | none => exact ⟨x1, x2⟩
    | some l => exact h _ (Fr.told_some e)
  · rw [if_neg h0]
    cases e : Fr.told? ps (-x) with
    | none => show 1 ≤ (- -x).natAbs ∧ (- -x).natAbs ≤ 26; rw [Int.neg_neg]; exact ⟨x1, x2⟩
    | some l =>
      have := h _ (Fr.told_some e)
      show 1 ≤ (-l).natAbs ∧ (-l).natAbs ≤ 26
      rw [Int.natAbs_neg]
      exact this
def spRen (K : PySem.W.Frag) (C : Addr) : Sp := fun vs H Q _ => ∃ (p a : Addr) (ns : List Int) (prs : List (Int × Int)), vs = [.ref p, .ref a] ∧ WordAt K C H p ns ∧ ns.length ≤ 500 ∧ Lts ns ∧ PairsAt K H a prs ∧ GoodP prs ∧ NewW K C H Q (ns.map (Fr.ren prs))
def spPut (K : PySem.W.Frag) (C : Addr) : Sp := fun vs H Q _ => ∃ (p q : Addr) (k : Int) (ns ms : List Int), vs = [.ref p, .int k, .ref q] ∧ WordAt K C H p ns ∧ WordAt K C H q ms ∧ 1 ≤ k ∧ k ≤ 26 ∧ ns.length ≤ 500 ∧ ms.length ≤ 500 ∧ (Fr.sub (Fr.putF k ms) ns).length ≤ 500 ∧ Lts ns ∧ Lts ms ∧ NewW K C H Q (Fr.sub (Fr.putF k ms) ns)
def spBal (K : PySem.W.Frag) (C : Addr) : Sp := fun vs H Q _ => ∃ (p : Addr) (ns : List Int), vs = [.ref p] ∧ WordAt K C H p ns ∧ ns.length ≤ 500 ∧ Lts ns ∧ ∀ q H', Same H H' → BalAt K H' q (Fr.bal ns) → Q (.ref q) H'
def spIsBal (K : PySem.W.Frag) (C : Addr) : Sp := fun vs H Q _ => ∃ (p : Addr) (ns : List Int), vs = [.ref p] ∧ WordAt K C H p ns ∧ ns.length ≤ 500 ∧ Lts ns ∧ ∀ H', Same H H' → Q (.bl (decide (Fr.bal ns = []))) H'
def spExchM (K : PySem.W.Frag) (C : Addr) : Sp := fun vs H Q _ => ∃ (p q : Addr) (ns ms : List Int), vs = [.ref p, .ref q] ∧ WordAt K C H p ns ∧ WordAt K C H q ms ∧ ns.length + ms.length ≤ 250 ∧ Lts ns ∧ Lts ms ∧ NewW K C H Q (exch ns ms)
theorem putF_lts {k : Int} {ms : List Int} (hm : Lts ms) {ns : List Int} (hn : Lts ns) : Lts (Fr.sub (Fr.putF k ms) ns) := by
  intro y hy
  obtain ⟨x, hx, hy⟩ := Fr.sub_mem hy
  unfold Fr.putF at hy
  by_cases h1 : x = k
  · rw [if_pos h1] at hy
    exact hm y hy
  · rw [if_neg h1] at hy
    by_cases h2 : x = -k
    · rw [if_pos h2] at hy
      exact hm.con y hy
    · rw [if_neg h2] at hy
      rw [List.mem_singleton.mp hy]
      exact hn x hx
theorem putF_len {k : Int} {ms : List Int} {x : Int} : (Fr.putF k ms x).length ≤ max ms.length 1 := by
  unfold Fr.putF
  by_cases h1 : x = k
  · rw [if_pos h1]; omega
  · rw [if_neg h1]
    by_cases h2 : x = -k
    · rw [if_pos h2, Fr.con_length]; omega
    · rw [if_neg h2]; show 1 ≤ _; omega
theorem sub_take {f : Int → List Int} (ns : List Int) (i : Nat) : (Fr.sub f (ns.take i)).length ≤ (Fr.sub f ns).length := by
  have : Fr.sub f ns = Fr.sub f (ns.take i) ++ Fr.sub f (ns.drop i) := by rw [← Fr.sub_app, List.take_append_drop]
  rw [this, List.length_append]
  omega
/-! ### what stands for a balance -/
def PB (ps : List (Int × Int)) : PyData := .tuple (ps.map fun p => .tuple [.int p.1, .int p.2])
theorem PrT.dp {K : PySem.W.Frag} {H : Hp} {v : V} {p : Int × Int} (h : PrT K H v p) : Dp K H v (.tuple [.int p.1, .int p.2]) := by
  obtain ⟨q, rfl, h⟩ := h
  exact .tup h (.cons (.int _) (.cons (.int _) .nil))
theorem All2.dpA {K : PySem.W.Frag} {H : Hp} {vs : List V} {ps : List (Int × Int)} (h : All2 (PrT K H) vs ps) : DpAll K H vs (ps.map fun p => .tuple [.int p.1, .int p.2]) := by
  induction h with
  | nil => exact .nil
  | cons h _ ih => exact .cons h.dp ih
theorem BalAt.dp {K : PySem.W.Frag} {H : Hp} {a : Addr} {ps : List (Int × Int)} (h : BalAt K H a ps) : Dp K H (.ref a) (PB ps) := by
  obtain ⟨vs, h1, h2⟩ := h
  exact .tup h1 h2.dpA
theorem eqvP : ∀ ps qs : List (Int × Int), PyData.eqvAll (ps.map fun p => PyData.tuple [.int p.1, .int p.2]) (qs.map fun p => PyData.tuple [.int p.1, .int p.2]) = decide (ps = qs)
  | [], [] => rfl
  | [], _ :: _ => rfl
  | _ :: _, [] => rfl
  | p :: ps, q :: qs => by
    have ih := eqvP ps qs
    rw [List.map_cons, List.map_cons]
    show (PyData.eqv (.tuple [.int p.1, .int p.2]) (.tuple [.int q.1, .int q.2]) && PyData.eqvAll _ _) = _
    have e : PyData.eqv (.tuple [.int p.1, .int p.2]) (.tuple [.int q.1, .int q.2]) = decide (p = q) := by
      have := eqv_ints [p.1, p.2] [q.1, q.2]
      refine this.trans ?_
      rw [Bool.eq_iff_iff, decide_eq_true_iff, decide_eq_true_iff]
      constructor
      · intro h
        injection h with h1 h2
        injection h2 with h2 _
        exact Prod.ext h1 h2
      · intro h
        rw [h]
    rw [ih, e, Bool.eq_iff_iff, Bool.and_eq_true_iff, decide_eq_true_iff, decide_eq_true_iff, decide_eq_true_iff]
    constructor
    · rintro ⟨h1, h2⟩
      rw [h1, h2]
    · intro h
      injection h with h1 h2
      exact ⟨h1, h2⟩
theorem eqvPB (ps qs : List (Int × Int)) : PyData.eqv (PB ps) (PB qs) = decide (ps = qs) := by
  show PyData.eqvAll _ _ = _
  exact eqvP ps qs
theorem shapedPB (ps : List (Int × Int)) : SeqAt.shaped (PB ps) = true := by
  have lay : ∀ ps : List (Int × Int), PyData.canLayAll0 (ps.map fun p => PyData.tuple [.int p.1, .int p.2]) = true ∧ PyData.depthAll (ps.map fun p => PyData.tuple [.int p.1, .int p.2]) ≤ 1 := by
    intro ps
    induction ps with
    | nil => exact ⟨rfl, by simp [PyData.depthAll]⟩
    | cons p r ih =>
      obtain ⟨h1, h2⟩ := ih
      refine ⟨by simp [PyData.canLayAll0, PyData.canLay0, h1], ?_⟩
      simp only [List.map_cons, PyData.depthAll, PyData.depth]
      omega
  obtain ⟨h1, h2⟩ := lay ps
  unfold PB
  simp [SeqAt.shaped, PyData.canLay0, PyData.depth, h1]
  omega
theorem mk_lc {K : PySem.W.Frag} {C : Addr} {wi : TI} {g : TG} {tt : TT} {te : TE} {vs : List Nat} {D : Ends} {σ : L2.St} {H : Hp}
    (h : wi σ H fun J H1 => tLc (fun _ H R => R J H) g tt te vs σ H1 fun x H2 => ∀ y dx, H2 y = none → H2 dx = none → dx ≠ y → spInit K C [.ref y, x] (L2.upd (L2.upd H2 dx (.own y)) y (.ins C dx [])) (fun v H3 => v = .non ∧ D.rt (.ref y) H3) E0) :
    tRet (tMake C (spInit K C) [] E0 (tCons (tLc wi g tt te vs) tNil)) D σ H := h
section
variable {P : Program} {w : World} {K : PySem.W.Frag} {mg : Str → Option Value} {base : Heap} {C : Addr}
abbrev nRen : List Str := ["word", "pairs", "names", "kind", "letter"]
theorem scRen : FnScope nRen ["word", "pairs"] (defScope sRen) := ⟨rfl, rfl, rfl, by decide +kernel, rfl, by decide +kernel, by decide +kernel⟩
theorem ok_ren {f : Addr} {fd : FuncData} (F : Fun K "renamed" "renamed" sRen f fd) (T : TxW K mg C) (M : MkW P w K mg base C) (GN : Cal P w K mg base "need_word" 1 ["value", "part"] (spNeedW K C)) (GP : Cal P w K mg base "need_pairs" 5 ["pairs"] (spNeedP K)) : FnOk P w K mg base CX0 6 f fd ["word", "pairs"] (spRen K C) := by
  refine F.ok scRen (fun vs H Q E h => ?_) (fun cdv A outer s H vs Q E hr h => ?_)
  · obtain ⟨p, a, ns, prs, rfl, _⟩ := h
    rfl
  · obtain ⟨p, a, ns, prs, rfl, hW, hlen, hl, hP, g, k⟩ := h
    obtain ⟨ws, hS, h2⟩ := id hP
    have hw := h2.length
    have hg := g.len
    refine ⟨_, pss_cons (ps_expr (pe_cal GN hr (by decide) (by rfl) (pa_cons (pv 0) (pa_cons pe_str pa_nil))))
      (pss_cons (ps_expr (pe_cal GP hr (by decide) (by rfl) (pa_cons (pv 1) pa_nil)))
      (pss_cons (ps_set (i := 2) scRen.nd rfl (Or.inr rfl) pe_dnewK)
      (pss_cons (ps_for PassesOwn.never rfl (pi_or (pi_list (pv 1)) (pi_tup (pv 1))) (UL.pg_either rfl (pgs_cons (pg_name (i := 3) scRen.nd rfl (Or.inl rfl)) (pgs_cons (pg_name (i := 4) scRen.nd rfl (Or.inl rfl)) pgs_nil)))
        (pss_cons (ps_dput (units1 hr) (pv 2) (pv 3) (pv 4) rfl) (pss_one (ps_dput (units1 hr) (pv 2) (pe_un un_neg (pv 3)) (pe_un un_neg (pv 4)) rfl))))
      (pss_one (ps_ret (pe_word M T hr (by decide) (by rfl) (pa_cons (pe_lc (own := [("letter", 4)]) (g := gName 4) (tt := tYes) rfl scRen.nd (pi_tup (pe_fld (pv 0) rfl))
          (blkOk_by (N := nRen) (sc := defScope sRen) (by decide +kernel)) (fun _ _ _ _ _ => pg_name (i := 4) scRen.nd rfl (Or.inl rfl)) (fun _ _ _ _ _ => pts_nil)
          (fun _ _ _ _ _ => pe_dget2 (units1 hr) (pv 2) (pv 4) (pv 4) ⟨rfl, rfl, rfl, rfl⟩)) pa_nil))))))), ?_⟩
    refine ⟨_, rfl, p, _, ns, rfl, hW, _, rfl, a, prs, rfl, hP, g, fun H1 s1 d hd => ?_⟩
    have sd := same_upd (o := .dK []) hd
    have s1d := s1.trans sd
    refine or_sq0 rfl (hS.same s1) sd fun J G wk hG => ?_
    refine for_it wk (fun i σ H' => ∃ (v3 v4 : Option V) (kvs : List (Key × V)), σ = [some (.ref p), some (.ref a), some (.ref d), v3, v4] ∧ Same H1 H' ∧ H' d = some (.dK kvs) ∧ kvs.length ≤ 2 * i ∧ ∀ x : Int, x ≠ 0 → valV kvs (Sum.inl x) = tv (prs.take i) x)
      ⟨none, none, [], rfl, sd, upd_same, Nat.zero_le _, fun x _ => by unfold tv; rw [List.take_zero, Fr.told_nil, Fr.told_nil]; split <;> rfl⟩ (fun i σ H2 _ ⟨_, _, _, _, s, _⟩ => hG _ s) ?_ ?_
    · rintro i x σ H2 _ hi ⟨v3, v4, kvs, rfl, sm, hD, hk, hv⟩ ⟨rfl, hx⟩
      obtain ⟨b, hb, q, rfl, hq⟩ := h2.at hx
      have hil : i < prs.length := (List.getElem?_eq_some_iff.mp hb).1
      have eb : prs[i] = b := (List.getElem?_eq_some_iff.mp hb).2
      have hbm := List.mem_of_getElem? hb
      obtain ⟨k1, k2⟩ := g.kind b hbm
      have hnew : Fr.told? (prs.take i) b.1 = none := by
        cases e : Fr.told? (prs.take i) b.1 with
        | none => rfl
        | some l =>
          have hm := Fr.told_some e
          obtain ⟨j, hj, ej⟩ := List.mem_iff_getElem.mp hm
          rw [List.length_take] at hj
          rw [List.getElem_take] at ej
          have := List.pairwise_iff_getElem.mp g.nd j i (by rw [List.length_map]; omega) (by rw [List.length_map]; exact hil) (by omega)
          rw [List.getElem_map, List.getElem_map, ej, eb] at this
          exact absurd rfl this
      refine ⟨q, _, rfl, hq.same (s1.trans sm), rfl, _, _, rfl, _, _, rfl, rfl, ?_⟩
      refine ⟨_, rfl, _, rfl, _, rfl, d, _, rfl, DPut.k (k := Sum.inl b.1) hD (Nat.lt_of_le_of_lt (show kvs.length ≤ 100 by omega) (by decide)), ?_⟩
      have l1 := length_putK kvs (Sum.inl b.1) (.int b.2)
      refine ⟨_, rfl, _, rfl, _, rfl, _, rfl, _, rfl, d, _, rfl, DPut.k (k := Sum.inl (-b.1)) upd_same (Nat.lt_of_le_of_lt (show (putK kvs (Sum.inl b.1) (.int b.2)).length ≤ 100 by omega) (by decide)), ?_⟩
      have l2 := length_putK (putK kvs (Sum.inl b.1) (.int b.2)) (Sum.inl (-b.1)) ((fun i => V.int (-i)) b.2)
      refine ⟨_, _, _, rfl, fun c o e => ?_, upd_same, by omega, fun x hx0 => ?_⟩
      · have hcd : c ≠ d := ne_of_none e hd
        rw [upd_ne hcd, upd_ne hcd]
        exact sm _ _ e
      · rw [valV_put, valV_put, List.take_succ_eq_append_getElem hil, eb, hv x hx0]
        unfold tv
        have ei : ∀ y : Int, ((Sum.inl x : Key) = Sum.inl y) = (x = y) := fun y => by
          rw [eq_iff_iff]
          exact ⟨fun h => by injection h, fun h => by rw [h]⟩
        simp only [ei]
        by_cases h0 : 0 < x
        · rw [if_pos h0, if_neg (show ¬ x = -b.1 by omega), if_pos h0, told_snoc hnew]
          by_cases e : x = b.1
          · rw [if_pos e, if_pos e]; rfl
          · rw [if_neg e, if_neg e]
        · rw [if_neg h0, if_neg h0, told_snoc hnew]
          by_cases e : x = -b.1
          · rw [if_pos e, if_pos (show -x = b.1 by omega)]; rfl
          · rw [if_neg e, if_neg (show ¬ x = b.1 by omega), if_neg (show ¬ -x = b.1 by omega)]
    · rintro σ H2 ⟨v3, v4, kvs, rfl, sm, hD, hk, hv⟩
      rw [hw, List.take_length] at hv
      have s2 := s1.trans sm
      obtain ⟨dx, tl, tk, ks, w1, w2, _⟩ := hW.same s2
      dsimp only
      refine mk_lc ?_
      refine ⟨_, rfl, p, C, dx, _, _, rfl, w1, T.cl, T.nL, wf_letters, tl, rfl, ⟨_, w2.sq⟩, ?_⟩
      refine lcp (walk_tup (K := K) (a := tl) (xs := iv ns)) (fun _ => true) (fun x => match x with | .int i => .int (Fr.ren prs i) | _ => .non) (by rw [List.length_map]; omega) (fun H3 s3 => WR.Same.seqT s3 w2.sq) ?_ ?_
      · intro x hx H3 s3 Qy Qn ky kn
        obtain ⟨i, hi, rfl⟩ := List.mem_map.mp hx
        have hi0 : i ≠ 0 := hl.nz i hi
        have hD3 := s3 _ _ hD
        refine ⟨rfl, yes_te ?_⟩
        refine ⟨_, rfl, d, rfl, .inl ⟨kvs, .inl hD3⟩, _, rfl, _, rfl, _, DGet.k (k := Sum.inl i) hD3, ?_⟩
        rw [hv i hi0, tv_get]
        exact ky rfl H3 (Same.refl _)
      · intro D H3 hD3 s3 h3
        have e : (((iv ns).filter fun _ => true).map fun x => match x with | .int i => V.int (Fr.ren prs i) | _ => .non) = iv (ns.map (Fr.ren prs)) := by
          rw [List.filter_eq_self.mpr (fun _ _ => rfl)]
          simp [iv, Function.comp_def]
        rw [e] at h3
        exact make_word (.inl (SqL.of h3)) (by rw [List.length_map]; exact hlen) (ren_lts g.lett hl) fun x H' s' W => k x H' ((s2.trans s3).trans s') W
end
end W09
set_option Elab.async false
set_option linter.all false
set_option maxRecDepth 100000
set_option maxHeartbeats 1000000
namespace W09
open PySem L2 PySem.Spec PyProof.Rows WR WB
section
variable {P : Program} {w : World} {K : PySem.W.Frag} {mg : Str → Option Value} {base : Heap} {C : Addr}
theorem scPut : FnScope ["word", "kind", "other"] ["word", "kind", "other"] (defScope sPut) := ⟨rfl, rfl, rfl, by decide +kernel, rfl, by decide +kernel, by decide +kernel⟩
theorem ok_put {f : Addr} {fd : FuncData} (F : Fun K "put" "put" sPut f fd) (T : TxW K mg C) (M : MkW P w K mg base C) (GN : Cal P w K mg base "need_word" 1 ["value", "part"] (spNeedW K C)) (GK : Cal P w K mg base "need_kind" 4 ["value", "part"] spNeedK)
    (GW : Cal P w K mg base "worths_of" 2 ["kind", "letters"] (spWorths K)) (GR : Cal P w K mg base "replaced_letters" 1 ["letters", "worths"] (spRepl K)) : FnOk P w K mg base CX0 6 f fd ["word", "kind", "other"] (spPut K C) := by
  refine F.ok scPut (fun vs H Q E h => ?_) (fun cdv A outer s H vs Q E hr h => ?_)
  · obtain ⟨p, q, k, ns, ms, rfl, _⟩ := h
    rfl
  · obtain ⟨p, q, k, ns, ms, rfl, hW, hV, k1, k2, ln, lm, lt, hn, hm, kk⟩ := h
    refine ⟨_, pss_cons (ps_expr (pe_cal GN hr (by decide) (by rfl) (pa_cons (pv 0) (pa_cons pe_str pa_nil))))
      (pss_cons (ps_expr (pe_cal GK hr (by decide) (by rfl) (pa_cons (pv 1) (pa_cons pe_str pa_nil))))
      (pss_cons (ps_expr (pe_cal GN hr (by decide) (by rfl) (pa_cons (pv 2) (pa_cons pe_str pa_nil))))
      (pss_one (ps_ret (pe_word M T hr (by decide) (by rfl) (pa_cons (pe_cal GR hr (by decide) (by rfl) (pa_cons (pe_fld (pv 0) rfl) (pa_cons (pe_cal GW hr (by decide) (by rfl) (pa_cons (pv 1) (pa_cons (pe_fld (pv 2) rfl) pa_nil))) pa_nil))) pa_nil)))))), ?_⟩
    refine ⟨_, rfl, p, _, ns, rfl, hW, _, rfl, k, _, rfl, k1, k2, _, rfl, q, _, ms, rfl, hV, ?_⟩
    obtain ⟨dx, tl, tk, ks, w1, w2, _⟩ := id hW
    obtain ⟨dy, ul, uk, us, y1, y2, _⟩ := id hV
    refine ⟨_, rfl, p, C, dx, _, _, rfl, w1, T.cl, T.nL, wf_letters, _, rfl, _, rfl, q, C, dy, _, _, rfl, y1, T.cl, T.nL, wf_letters, k, ul, ms, rfl, by omega, y2.sq, lm, fun d H1 s1 hT => ?_⟩
    refine ⟨tl, d, ns, Fr.putF k ms, rfl, WR.Same.seqT s1 w2.sq, hT ns, fun i => ?_, fun x _ => ?_, fun r H2 s2 hr2 => ?_⟩
    · have := sub_take (f := Fr.putF k ms) ns i
      omega
    · have := putF_len (k := k) (ms := ms) (x := x)
      omega
    · exact make_word (.inr hr2) lt (putF_lts hm hn) fun x H' s' W => kk x H' ((s1.trans s2).trans s') W
theorem scBal : FnScope ["word"] ["word"] (defScope sBal) := ⟨rfl, rfl, rfl, by decide +kernel, rfl, by decide +kernel, by decide +kernel⟩
theorem ok_bal {f : Addr} {fd : FuncData} (F : Fun K "balance" "balance" sBal f fd) (T : TxW K mg C) (GN : Cal P w K mg base "need_word" 1 ["value", "part"] (spNeedW K C)) (GB : Cal P w K mg base "balance_of" 2 ["letters"] (spBalOf K)) : FnOk P w K mg base CX0 3 f fd ["word"] (spBal K C) := by
  refine F.ok scBal (fun vs H Q E h => ?_) (fun cdv A outer s H vs Q E hr h => ?_)
  · obtain ⟨p, ns, rfl, _⟩ := h
    rfl
  · obtain ⟨p, ns, rfl, hW, ln, hn, k⟩ := h
    refine ⟨_, pss_cons (ps_expr (pe_cal GN hr (by decide) (by rfl) (pa_cons (pv 0) (pa_cons pe_str pa_nil)))) (pss_one (ps_ret (pe_cal GB hr (by decide) (by rfl) (pa_cons (pe_fld (pv 0) rfl) pa_nil)))), ?_⟩
    obtain ⟨dx, tl, tk, ks, w1, w2, _⟩ := id hW
    exact ⟨_, rfl, p, _, ns, rfl, hW, _, rfl, p, C, dx, _, _, rfl, w1, T.cl, T.nL, wf_letters, tl, ns, rfl, w2, by omega, hn, k⟩
theorem scIsBal : FnScope ["word"] ["word"] (defScope sIsBal) := ⟨rfl, rfl, rfl, by decide +kernel, rfl, by decide +kernel, by decide +kernel⟩
theorem ok_isBal {f : Addr} {fd : FuncData} (F : Fun K "is_balanced" "is_balanced" sIsBal f fd) (GB : Cal P w K mg base "balance" 3 ["word"] (spBal K C)) : FnOk P w K mg base CX0 4 f fd ["word"] (spIsBal K C) := by
  refine F.ok scIsBal (fun vs H Q E h => ?_) (fun cdv A outer s H vs Q E hr h => ?_)
  · obtain ⟨p, ns, rfl, _⟩ := h
    rfl
  · obtain ⟨p, ns, rfl, hW, ln, hn, k⟩ := h
    refine ⟨_, pss_one (ps_ret (pe_cmpR (op_eqD hr.units) (pe_cal GB hr (by decide) (by rfl) (pa_cons (pv 0) pa_nil)) (pe_tup pa_nil) (nomark _))), ?_⟩
    refine ⟨_, rfl, p, ns, rfl, hW, ln, hn, fun q H1 s1 hB => ⟨Nat.zero_le _, fun t ht => ?_⟩⟩
    have st := same_upd (o := .tup []) ht
    refine ⟨_, PB [], (hB.same st).dp, .tup (SqT.of upd_same) .nil, shapedPB _, shapedPB _, ?_⟩
    rw [eqvPB]
    exact k _ (s1.trans st)
theorem scExchM : FnScope ["one", "other"] ["one", "other"] (defScope sExchM) := ⟨rfl, rfl, rfl, by decide +kernel, rfl, by decide +kernel, by decide +kernel⟩
theorem ok_exchM {f : Addr} {fd : FuncData} (F : Fun K "exchange" "Word.exchange" sExchM f fd) (T : TxW K mg C) (M : MkW P w K mg base C) (GN : Cal P w K mg base "need_word" 1 ["value", "part"] (spNeedW K C)) (GE : Cal P w K mg base "exchange_letters" 2 ["one", "other"] (spExch K)) : FnOk P w K mg base CX0 6 f fd ["one", "other"] (spExchM K C) := by
  refine F.ok scExchM (fun vs H Q E h => ?_) (fun cdv A outer s H vs Q E hr h => ?_)
  · obtain ⟨p, q, ns, ms, rfl, _⟩ := h
    rfl
  · obtain ⟨p, q, ns, ms, rfl, hW, hV, ll, hn, hm, k⟩ := h
    refine ⟨_, pss_cons (ps_expr (pe_cal GN hr (by decide) (by rfl) (pa_cons (pv 0) (pa_cons pe_str pa_nil)))) (pss_cons (ps_expr (pe_cal GN hr (by decide) (by rfl) (pa_cons (pv 1) (pa_cons pe_str pa_nil))))
      (pss_one (ps_ret (pe_word M T hr (by decide) (by rfl) (pa_cons (pe_cal GE hr (by decide) (by rfl) (pa_cons (pe_fld (pv 0) rfl) (pa_cons (pe_fld (pv 1) rfl) pa_nil))) pa_nil))))), ?_⟩
    obtain ⟨dx, tl, tk, ks, w1, w2, _⟩ := id hW
    obtain ⟨dy, ul, uk, us, y1, y2, _⟩ := id hV
    refine ⟨_, rfl, p, _, ns, rfl, hW, _, rfl, q, _, ms, rfl, hV, _, rfl, p, C, dx, _, _, rfl, w1, T.cl, T.nL, wf_letters, _, rfl, q, C, dy, _, _, rfl, y1, T.cl, T.nL, wf_letters, tl, ul, ns, ms, rfl, w2, y2, by omega, by omega, fun r H1 s1 hr1 => ?_⟩
    exact make_word (.inr hr1) (by rw [exch_length]; omega) (hn.exch hm) fun x H' s' W => k x H' (s1.trans s') W
end
/-- Word.exchange -/
structure SMw (P : Program) (w : World) (K : PySem.W.Frag) (mg : Str → Option Value) (base : Heap) (C : Addr) (m : Str) (ps : List Str) (sp : Sp) : Prop where
  ex : ∃ (mc : Value) (p g : Addr) (fd : FuncData), MStat.SMet K C mc m p g ∧ FnOk P w K mg base CX0 6 g fd ps sp ∧ Binds K fd ps []
structure AllW (P : Program) (w : World) (K : PySem.W.Frag) (mg : Str → Option Value) (base : Heap) (C : Addr) : Prop where
  con : MethW P w K mg base C "contrary" ["self"] (spOne K C Fr.con)
  sht : MethW P w K mg base C "shortened" ["self"] (spOne K C Fr.shr)
  rnd : MethW P w K mg base C "shortened_round" ["self"] (spOne K C Fr.rnd)
  trd : MethW P w K mg base C "turned" ["self", "by"] (spTurned K C)
  thn : MethW P w K mg base C "then" ["self", "other"] (spThen K C)
  tms : MethW P w K mg base C "times" ["self", "number"] (spTimes K C)
  exc : SMw P w K mg base C "exchange" ["one", "other"] (spExchM K C)
  mkw : MkW P w K mg base C
  eq : EqW P w K mg base C
  ne : PySem.W.findIn K (.ref C) "__ne__" = some (some (.builtin "object.__ne__"))
  ren : Cal P w K mg base "renamed" 6 ["word", "pairs"] (spRen K C)
  renK : CalK P w K mg base "renamed" 6 ["word", "pairs"] ["word", "pairs"] id (spRen K C)
  put : Cal P w K mg base "put" 6 ["word", "kind", "other"] (spPut K C)
  putK : CalK P w K mg base "put" 6 ["word", "kind", "other"] ["other", "kind", "word"] List.reverse (spPut K C)
  bal : Cal P w K mg base "balance" 3 ["word"] (spBal K C)
  balK : CalK P w K mg base "balance" 3 ["word"] ["word"] id (spBal K C)
  isb : Cal P w K mg base "is_balanced" 4 ["word"] (spIsBal K C)
  isbK : CalK P w K mg base "is_balanced" 4 ["word"] ["word"] id (spIsBal K C)
end W09
set_option Elab.async false
set_option linter.all false
set_option maxRecDepth 100000
set_option maxHeartbeats 1000000
namespace W09
open PySem L2 PySem.Spec PyProof.Rows WR WB
abbrev sPutL : Stmt := top 56
abbrev sBalL : Stmt := top 57
abbrev sMixed : Stmt := top 58
/-! ### the law's own putting of words for letters -/
/-- the lists at this dict's places -/
def TabL (H : Hp) (d : Addr) (g : Int → List Int) (ns : List Int) : Prop := ∃ kvs : List (Key × V), H d = some (.dK kvs) ∧
  ∀ x ∈ ns, (∃ r, valV kvs (Sum.inl (x.natAbs : Int)) = some (.ref r) ∧ H r = some (.lst (iv (g x.natAbs)))) ∨ (valV kvs (Sum.inl (x.natAbs : Int)) = none ∧ g x.natAbs = [(x.natAbs : Int)])
theorem TabL.same {H H' : Hp} {d : Addr} {g : Int → List Int} {ns : List Int} (h : TabL H d g ns) (s : Same H H') : TabL H' d g ns := by
  obtain ⟨kvs, h1, h2⟩ := h
  refine ⟨kvs, s _ _ h1, fun x hx => ?_⟩
  rcases h2 x hx with ⟨r, a, b⟩ | h
  · exact .inl ⟨r, a, s _ _ b⟩
  · exact .inr h
def spPutL : Sp := fun vs H Q _ => ∃ (p d : Addr) (ns : List Int) (g : Int → List Int), vs = [.ref p, .ref d] ∧ H p = some (.lst (iv ns)) ∧ TabL H d g ns ∧ Lts ns ∧ ns.length ≤ 1000 ∧ (Fr.sub (Fr.tabF g) ns).length ≤ 1000 ∧ (∀ x ∈ ns, (g x.natAbs).length ≤ 1000) ∧ NewL H Q (Fr.sub (Fr.tabF g) ns)
theorem abs_nat (x : Int) : (if x < 0 then -x else x) = (x.natAbs : Int) := by split <;> omega
abbrev nPutL : List Str := ["_law_letters_here", "_law_told", "_law_found", "_law_letter", "_law_other"]
section
variable {P : Program} {w : World} {K : PySem.W.Frag} {mg : Str → Option Value} {base : Heap} {C : Addr}
theorem scPutL : FnScope nPutL ["_law_letters_here", "_law_told"] (defScope sPutL) := ⟨rfl, rfl, rfl, by decide +kernel, rfl, by decide +kernel, by decide +kernel⟩
theorem ok_putL {f : Addr} {fd : FuncData} (F : Fun K "_law_put" "_law_put" sPutL f fd) (TL : TxL mg) (GC : Cal P w K mg base "_law_contrary" 1 ["_law_letters_here"] spConL) : FnOk P w K mg base CX0 2 f fd ["_law_letters_here", "_law_told"] spPutL := by
  refine F.ok scPutL (fun vs H Q E h => ?_) (fun cdv A outer s H vs Q E hr h => ?_)
  · obtain ⟨p, d, ns, g, rfl, _⟩ := h
    rfl
  · obtain ⟨p, d, ns, g, rfl, hp, hD, hl, ln, lt, lg, k⟩ := h
    refine ⟨_, pss_cons (ps_set (i := 2) scPutL.nd rfl (Or.inl rfl) (pe_lst pa_nil))
      (pss_cons (ps_for PassesOwn.never rfl (pi_list (pv 0)) (pg_name (i := 3) scPutL.nd rfl (Or.inl rfl))
        (pss_cons (ps_set (i := 4) scPutL.nd rfl (Or.inl rfl) (pe_dget2 (units1 hr) (pv 1) (pe_callB call_abs (by rfl) TL.abs (by decide +kernel) (pa_cons (pv 3) pa_nil)) (pe_lst (pa_cons (pe_callB call_abs (by rfl) TL.abs (by decide +kernel) (pa_cons (pv 3) pa_nil)) pa_nil)) ⟨rfl, rfl, rfl, rfl⟩))
        (pss_one (ps_set (i := 2) scPutL.nd rfl (Or.inl rfl) (pe_op op_cat (pv 2) (pe_ifExp (pt_cmpR op_gt (pv 3) pe_int (nomark _)) (pv 4) (pe_cal GC hr (by decide) (by rfl) (pa_cons (pv 4) pa_nil))))))))
      (pss_one (ps_ret (pv 2)))), ?_⟩
    refine ⟨Nat.zero_le _, fun l0 hl0 => ?_⟩
    have s0 := same_upd (o := .lst []) hl0
    refine ⟨_, rfl, p, rfl, ⟨_, SqL.of (s0 _ _ hp)⟩, for_list (K := K) (a := p) (xs := iv ns) (fun i σ H' => ∃ (l : Addr) (v3 v4 : Option V), σ = [some (.ref p), some (.ref d), some (.ref l), v3, v4] ∧ H l = none ∧ Same H H' ∧ H' l = some (.lst (iv (Fr.sub (Fr.tabF g) (ns.take i)))))
      ⟨l0, none, none, rfl, hl0, s0, upd_same⟩ (fun i σ H1 _ ⟨_, _, _, _, _, s, _⟩ => SqL.of (s _ _ hp)) ?_ ?_⟩
    · rintro i y σ H1 hi ⟨l, v3, v4, rfl, hl0', sm, hL⟩
      obtain ⟨x, hx, rfl⟩ : ∃ x, ns[i]? = some x ∧ y = V.int x := by
        rw [List.getElem?_map] at hi
        cases e : ns[i]? with
        | none => rw [e] at hi; cases hi
        | some x => rw [e] at hi; exact ⟨x, rfl, (Option.some.inj hi).symm⟩
      have hil : i < ns.length := (List.getElem?_eq_some_iff.mp hx).1
      have ex : ns[i] = x := (List.getElem?_eq_some_iff.mp hx).2
      have hxm := List.mem_of_getElem? hx
      have hx0 := hl.nz x hxm
      obtain ⟨kvs, hK, hV⟩ := hD.same sm
      have hstep : Fr.sub (Fr.tabF g) (ns.take (i + 1)) = Fr.sub (Fr.tabF g) (ns.take i) ++ Fr.tabF g x := by
        rw [List.take_succ_eq_append_getElem hil, ex, Fr.sub_app, Fr.sub_one]
      have hb := sub_take (f := Fr.tabF g) ns i
      have hgx := lg x hxm
      refine ⟨_, rfl, d, rfl, .inl ⟨kvs, .inl hK⟩, _, rfl, x, rfl, _, rfl, x, rfl, by show 1 ≤ sizeLine; decide, fun t ht => ?_⟩
      have st := same_upd (o := .lst [.int (if x < 0 then -x else x)]) ht
      have gt : L2.upd H1 t (.lst [.int (if x < 0 then -x else x)]) t = some (.lst (iv [(x.natAbs : Int)])) := by rw [upd_same, abs_nat]; rfl
      obtain ⟨H2, e2⟩ : ∃ H2, H2 = L2.upd H1 t (.lst [.int (if x < 0 then -x else x)]) := ⟨_, rfl⟩
      rw [← e2] at st gt ⊢
      refine ⟨_, DGet.k (k := Sum.inl (if x < 0 then -x else x)) (st _ _ hK), ?_⟩
      rw [abs_nat]
      -- what is put
      have fin : ∀ (r b : Addr) (H3 : Hp), Same H2 H3 → H3 b = some (.lst (iv (Fr.tabF g x))) → ∃ l' b' xs zs, V.ref l = .ref l' ∧ V.ref b = .ref b' ∧ H3 l' = some (.lst xs) ∧ H3 b' = some (.lst zs) ∧ xs.length + zs.length ≤ sizeLine ∧ ∀ q, H3 q = none →
          ∃ (l : Addr) (v3 v4 : Option V), [some (V.ref p), some (.ref d), some (.ref q), some (.int x), some (.ref r)] = [some (.ref p), some (.ref d), some (.ref l), v3, v4] ∧ H l = none ∧ Same H (L2.upd H3 q (.lst (xs ++ zs))) ∧ L2.upd H3 q (.lst (xs ++ zs)) l = some (.lst (iv (Fr.sub (Fr.tabF g) (ns.take (i + 1))))) := by
        intro r b H3 s3 hb3
        have lb : (Fr.tabF g x).length ≤ 1000 := by
          unfold Fr.tabF
          by_cases h : 0 < x
          · rw [if_pos h, show x = (x.natAbs : Int) by omega]; exact hgx
          · rw [if_neg h, Fr.con_length, show -x = (x.natAbs : Int) by omega]; exact hgx
        refine ⟨l, b, _, _, rfl, rfl, (st.trans s3) _ _ hL, hb3, Evl.sz_of (by simp only [List.length_map]; omega), fun q hq => ?_⟩
        have sm3 := (sm.trans st).trans s3
        refine ⟨q, _, _, rfl, sm3.free hq, sm3.trans (same_upd hq), ?_⟩
        rw [upd_same, hstep]
        simp [iv]
      have hcase : ∃ r : Addr, (valV kvs (Sum.inl (x.natAbs : Int))).getD (.ref t) = .ref r ∧ H2 r = some (.lst (iv (g x.natAbs))) := by
        rcases hV x hxm with ⟨r, e1, e3⟩ | ⟨e1, e3⟩
        · exact ⟨r, by rw [e1]; rfl, st _ _ e3⟩
        · exact ⟨t, by rw [e1]; rfl, by rw [e3]; exact gt⟩
      obtain ⟨r, er, hr3⟩ := hcase
      rw [er]
      refine ⟨_, rfl, _, rfl, _, _, rfl, rfl, _, rfl, ?_⟩
      refine ite2 (fun hpos => ?_) (fun hneg => ?_)
      · have hpos := of_decide_eq_true hpos
        refine ⟨_, rfl, fin r r H2 (Same.refl _) ?_⟩
        rw [hr3]
        unfold Fr.tabF
        rw [if_pos hpos, show (x.natAbs : Int) = x by omega]
      · have hneg : ¬ 0 < x := fun z => hneg (decide_eq_true z)
        refine ⟨_, rfl, r, _, rfl, hr3, by omega, fun q H3 hq s3 h3 => ?_⟩
        refine fin r q H3 s3 ?_
        rw [h3]
        unfold Fr.tabF
        rw [if_neg hneg, show (x.natAbs : Int) = -x by omega]
    · rintro σ H1 ⟨l, v3, v4, rfl, hl1, sm, hL⟩
      have el : (iv ns).length = ns.length := List.length_map ..
      rw [el, List.take_length] at hL
      exact ⟨_, rfl, k l H1 hl1 sm hL⟩
end
end W09
set_option Elab.async false
set_option linter.all false
set_option maxRecDepth 100000
set_option maxHeartbeats 1000000
namespace W09
open PySem L2 PySem.Spec PyProof.Rows WR WB
theorem seq_at {j n : Nat} (h : j < n) : seqIndex? (j : Int) n = some j := by
  unfold seqIndex?
  have h1 : ¬ (j : Int) < 0 := by omega
  simp only [if_neg h1]
  rw [if_pos (by simp; omega), Int.toNat_natCast]
theorem perm_erase : ∀ (us : List V) (j : Nat) (h : j < us.length), (us[j] :: us.eraseIdx j).Perm us
  | a :: t, 0, _ => List.Perm.refl _
  | a :: t, j + 1, h => by
    have ih := perm_erase t j (by simpa using h)
    exact (List.Perm.swap _ _ _).trans (ih.cons a)
theorem lc_count {K : PySem.W.Frag} {p : Addr} {ns : List Int} {k : Int} {i : Nat} {tt : TT} {vs : List Nat} {σ : L2.St} {H1 : Hp} {D : Addr} {Qd : Hp → Prop} (hD : H1 D = none) (hp : H1 p = some (.lst (iv ns))) (hl : ns.length ≤ 1000)
    (hw : ∀ z : Int, wipe ((wipe σ vs).set i (some (.int z))) vs = wipe σ vs) (ht : ∀ (z : Int) (H' : Hp) (R : Bool → Hp → Prop), R (decide (z = k)) H' → tt ((wipe σ vs).set i (some (.int z))) H' R)
    (hd : ∀ H, Same H1 H → H D = some (.lst (List.replicate (ns.count k) (V.int 1))) → Qd H) :
    ∃ W : Nat → Nat → Hp → Prop, (∃ m, W 0 m (L2.upd H1 D (.lst []))) ∧ ∀ j m H, W j m H →
      ((Itl K p).stop j H ∧ Qd H) ∨ ((Itl K p).go j H ∧ ∃ Nx : Hp → Prop, (∀ H', Nx H' → ∃ m', m' < m ∧ W (j + 1) m' H') ∧ ∀ x H', (Itl K p).yld j H x H' → gName i x (wipe σ vs) H' fun σ2 H2 => wipe σ2 vs = wipe σ vs ∧ tt σ2 H2 fun b H3 =>
        if b = true then tC (.int 1) σ2 H3 fun y H4 => ∃ acc, H4 D = some (.lst acc) ∧ acc.length < sizeLine ∧ Nx (L2.upd H4 D (.lst (acc ++ [y]))) else Nx H3) := by
  refine lc_it (walk_list (K := K) (a := p) (xs := iv ns)) (fun j H' => Same H1 H' ∧ H' D = some (.lst (List.replicate ((ns.take j).count k) (V.int 1)))) ⟨same_upd hD, by rw [upd_same]; rfl⟩ (fun j H' _ q => SqL.of (q.1 _ _ hp)) ?_ ?_
  · rintro j x H3 _ hj ⟨sm, hD3⟩ ⟨rfl, hx⟩
    obtain ⟨z, hz, rfl⟩ : ∃ z, ns[j]? = some z ∧ x = V.int z := by
      rw [List.getElem?_map] at hx
      cases e : ns[j]? with
      | none => rw [e] at hx; cases hx
      | some z => rw [e] at hx; exact ⟨z, rfl, (Option.some.inj hx).symm⟩
    have hjl : j < ns.length := (List.getElem?_eq_some_iff.mp hz).1
    have ez : ns[j] = z := (List.getElem?_eq_some_iff.mp hz).2
    have hcount : (ns.take (j + 1)).count k = (ns.take j).count k + (if z = k then 1 else 0) := by
      rw [List.take_succ_eq_append_getElem hjl, ez, List.count_append, List.count_cons, List.count_nil]
      simp
    refine ⟨hw z, ht z _ _ ?_⟩
    refine ite2 (fun h => ?_) (fun h => ?_)
    · have h := of_decide_eq_true h
      have hle : (ns.take j).count k ≤ 1000 := Nat.le_trans List.count_le_length (by rw [List.length_take]; omega)
      refine ⟨_, hD3, Evl.sz_lt (by rw [List.length_replicate]; omega), fun b o e => ?_, ?_⟩
      · rw [upd_ne (ne_of_none e hD)]
        exact sm _ _ e
      · rw [upd_same, hcount, if_pos h, List.replicate_succ']
    · have h : ¬ z = k := fun e => h (decide_eq_true e)
      exact ⟨sm, by rw [hcount, if_neg h]; exact hD3⟩
  · rintro H3 ⟨sm, hD3⟩
    have el : (iv ns).length = ns.length := List.length_map ..
    rw [el, List.take_length] at hD3
    exact hd H3 sm hD3
def spBalL (K : PySem.W.Frag) : Sp := fun vs H Q _ => ∃ (p : Addr) (ns : List Int), vs = [.ref p] ∧ H p = some (.lst (iv ns)) ∧ ns.length ≤ 1000 ∧ ∀ q H', Same H H' → BalAt K H' q (Fr.bal ns) → Q (.ref q) H'
def spMixed : Sp := fun vs H Q _ => ∃ (a c p : Addr) (xs : List V) (n : Nat), vs = [.ref a, .ref p] ∧ HandAt H a c n ∧ H p = some (.lst xs) ∧ xs.length ≤ 100 ∧ n ≤ 8000 ∧ ∀ l H' ys, H l = none → Drew a c (n + xs.length) H H' → H' l = some (.lst ys) → ys.Perm xs → Q (.ref l) H'
abbrev nBalL : List Str := ["_law_letters_here", "_law_found", "_law_kind", "_law_more", "_law_letter"]
def balN (ns : List Int) (i : Nat) : List (Int × Int) := ((List.range i).map fun (i : Nat) => ((i : Int) + 1, Fr.cnt ns ((i : Int) + 1))).filter fun p => decide (p.2 ≠ 0)
theorem balN_succ (ns : List Int) (i : Nat) : balN ns (i + 1) = balN ns i ++ (if Fr.cnt ns ((i : Int) + 1) ≠ 0 then [((i : Int) + 1, Fr.cnt ns ((i : Int) + 1))] else []) := by
  unfold balN
  rw [List.range_succ, List.map_append, List.filter_append]
  congr 1
  by_cases h : Fr.cnt ns ((i : Int) + 1) ≠ 0
  · rw [if_pos h]
    simp [h]
  · rw [if_neg h]
    simp at h
    simp [h]
theorem balN_len (ns : List Int) (i : Nat) : (balN ns i).length ≤ i := by
  unfold balN
  refine Nat.le_trans (List.length_filter_le _ _) ?_
  rw [List.length_map, List.length_range]
  exact Nat.le_refl _
section
variable {P : Program} {w : World} {K : PySem.W.Frag} {mg : Str → Option Value} {base : Heap} {C : Addr}
theorem scBalL : FnScope nBalL ["_law_letters_here"] (defScope sBalL) := ⟨rfl, rfl, rfl, by decide +kernel, rfl, by decide +kernel, by decide +kernel⟩
theorem ok_balL {f : Addr} {fd : FuncData} (F : Fun K "_law_balance" "_law_balance" sBalL f fd) (TA : TxA mg) (TN : TxN mg) : FnOk P w K mg base CX0 1 f fd ["_law_letters_here"] (spBalL K) := by
  refine F.ok scBalL (fun vs H Q E h => ?_) (fun cdv A outer s H vs Q E hr h => ?_)
  · obtain ⟨p, ns, rfl, _⟩ := h
    rfl
  · obtain ⟨p, ns, rfl, hp, ln, k⟩ := h
    refine ⟨_, pss_cons (ps_set (i := 1) scBalL.nd rfl (Or.inl rfl) (pe_lst pa_nil))
      (pss_cons (ps_for PassesOwn.never rfl (pi_range2 (by rfl) TN.range (pa_cons pe_int (pa_cons pe_int pa_nil))) (pg_name (i := 2) scBalL.nd rfl (Or.inr rfl))
        (pss_cons (ps_set (i := 3) scBalL.nd rfl (Or.inl rfl) (pe_op op_sub
            (pe_callB call_len_seq (by rfl) TA.len PySem.boot_len (pa_cons (pe_lc (own := [("_law_letter", 4)]) (g := gName 4) rfl scBalL.nd (pi_list (pv 0)) (blkOk_by (N := nBalL) (sc := defScope sBalL) (by decide +kernel)) (fun _ _ _ _ _ => pg_name (i := 4) scBalL.nd rfl (Or.inl rfl)) (fun _ _ _ _ _ => pts_one (pt_cmpR op_eq (pv 4) (pv 2) (nomark _))) (fun _ _ _ _ _ => pe_int)) pa_nil))
            (pe_callB call_len_seq (by rfl) TA.len PySem.boot_len (pa_cons (pe_lc (own := [("_law_letter", 4)]) (g := gName 4) rfl scBalL.nd (pi_list (pv 0)) (blkOk_by (N := nBalL) (sc := defScope sBalL) (by decide +kernel)) (fun _ _ _ _ _ => pg_name (i := 4) scBalL.nd rfl (Or.inl rfl)) (fun _ _ _ _ _ => pts_one (pt_cmpR op_eq (pv 4) (pe_un un_neg (pv 2)) (nomark _))) (fun _ _ _ _ _ => pe_int)) pa_nil))))
        (pss_one (ps_expr (pe_bm PySem.F.plainAttrs_list PySem.F.slot_list_extend PySem.F.type_list_extend mt_extend (pv 1) (pa_cons (pe_ifExp (pt_cmpR op_ne (pv 3) pe_int (nomark _)) (pe_lst (pa_cons (pe_tup (pa_cons (pv 2) (pa_cons (pv 3) pa_nil))) pa_nil)) (pe_lst pa_nil)) pa_nil))))))
      (pss_one (ps_ret (pe_callTy call_tuple_of (by rfl) TA.tuple (by decide +kernel) (pa_cons (pv 1) pa_nil))))), ?_⟩
    refine ⟨Nat.zero_le _, fun l hl => ?_⟩
    have sl := same_upd (o := .lst []) hl
    refine ⟨1, 27, rfl, by decide, for_range (lo := 1) (n := ((27 : Int) - 1).toNat) (fun i σ H' => ∃ (v2 v3 : Option V) (us : List V), σ = [some (.ref p), some (.ref l), v2, v3, none] ∧ Same H H' ∧ H' l = some (.lst us) ∧ All2 (PrT K H') us (balN ns i))
      ⟨none, none, [], rfl, sl, upd_same, .nil⟩ ?_ ?_⟩
    · rintro i σ H1 hi ⟨v2, v3, us, rfl, sm, hL, hu⟩
      have hi26 : i < 26 := hi
      have hp1 := sm _ _ hp
      have lu := hu.length
      have lb := balN_len ns i
      refine ⟨_, rfl, p, rfl, ⟨_, SqL.of hp1⟩, fun D hD => lc_count (k := (1 : Int) + (i : Nat)) hD hp1 ln (fun z => rfl) (fun z H' R h => ⟨_, rfl, _, rfl, rfl, _, rfl, by rw [int_eq]; exact h⟩) fun H2 s2 hD2 => ?_⟩
      refine ⟨D, _, rfl, .inl (SqL.of hD2), ?_⟩
      have hp2 := s2 _ _ hp1
      refine ⟨_, rfl, p, rfl, ⟨_, SqL.of hp2⟩, fun D2 hD2' => lc_count (k := -((1 : Int) + (i : Nat))) hD2' hp2 ln (fun z => rfl) (fun z H' R h => ⟨_, rfl, _, rfl, _, rfl, rfl, _, rfl, by rw [int_eq]; exact h⟩) fun H3 s3 hD3 => ?_⟩
      refine ⟨D2, _, rfl, .inl (SqL.of hD3), _, _, rfl, rfl, ?_⟩
      rw [List.length_replicate, List.length_replicate]
      have ecnt : ((ns.count ((1 : Int) + (i : Nat)) : Nat) : Int) - ((ns.count (-((1 : Int) + (i : Nat))) : Nat) : Int) = Fr.cnt ns ((i : Int) + 1) := by
        have : (1 : Int) + (i : Nat) = (i : Int) + 1 := by omega
        rw [this]
        rfl
      have hL3 := (s2.trans s3) _ _ hL
      have sm3 := (sm.trans s2).trans s3
      have hu3 := hu.imp fun _ _ r => PrT.same r (s2.trans s3)
      try dsimp only
      rw [ecnt]
      have e1 : (1 : Int) + (i : Nat) = (i : Int) + 1 := by omega
      rw [e1]
      generalize hc : Fr.cnt ns ((i : Int) + 1) = cc
      have hstep := balN_succ ns i
      rw [hc] at hstep
      refine at_set ?_
      try dsimp only
      refine ⟨_, rfl, .inl ⟨rfl, _, SqL.of hL3⟩, ?_⟩
      refine ⟨_, rfl, rfl, _, rfl, ?_⟩
      refine ite2 (fun hn => ?_) (fun hn => ?_)
      · have hn : cc ≠ 0 := fun z => by
          rw [z] at hn
          exact absurd hn (by decide)
        rw [if_pos hn] at hstep
        refine ⟨_, rfl, _, rfl, by show 2 ≤ sizeLine; decide, fun t ht => ⟨by show 1 ≤ sizeLine; decide, fun q hq => ?_⟩⟩
        have st := same_upd (o := .tup [.int ((i : Int) + 1), .int cc]) ht
        have gt : L2.upd H3 t (.tup [.int ((i : Int) + 1), .int cc]) t = some (.tup [.int ((i : Int) + 1), .int cc]) := upd_same
        have sq := same_upd (o := .lst [.ref t]) hq
        have stq := st.trans sq
        have hL5 := stq _ _ hL3
        refine ⟨l, q, us, _, rfl, rfl, hL5, upd_same, Evl.sz_of (by show us.length + 1 ≤ _; omega), ?_⟩
        refine ⟨_, _, _, rfl, fun b o e => ?_, upd_same, ?_⟩
        · rw [upd_ne (ne_of_none e hl)]
          exact stq _ _ (sm3 _ _ e)
        · rw [hstep]
          refine All2.app (hu3.imp fun _ _ r => PrT.put hL5 (r.same stq)) (.cons ?_ .nil)
          exact PrT.put hL5 ⟨t, rfl, SqT.of (sq _ _ gt)⟩
      · have hn : ¬ cc ≠ 0 := fun z => hn (by
          have : ¬ (V.int cc = V.int 0) := fun q => z (by injection q)
          simp [this])
        rw [if_neg hn, List.append_nil] at hstep
        refine ⟨Nat.zero_le _, fun q hq => ?_⟩
        have sq := same_upd (o := .lst []) hq
        have hL5 := sq _ _ hL3
        refine ⟨l, q, us, [], rfl, rfl, hL5, upd_same, Evl.sz_of (by show us.length + 0 ≤ _; omega), ?_⟩
        rw [List.append_nil]
        refine ⟨_, _, _, rfl, fun b o e => ?_, upd_same, ?_⟩
        · rw [upd_ne (ne_of_none e hl)]
          exact sq _ _ (sm3 _ _ e)
        · rw [hstep]
          exact hu3.imp fun _ _ r => PrT.put hL5 (r.same sq)
    · rintro σ H1 ⟨v2, v3, us, rfl, sm, hL, hu⟩
      refine ⟨_, rfl, l, _, rfl, .inl ⟨SqL.of hL, fun q hq => ?_⟩⟩
      have sq := same_upd (o := .tup us) hq
      exact k q _ (sm.trans sq) ⟨us, SqT.of upd_same, hu.imp fun _ _ r => r.same sq⟩
theorem scMixed : FnScope ["_law_jar_here", "_law_some", "_law_left", "_law_found", "_law_turn"] ["_law_jar_here", "_law_some"] (defScope sMixed) := ⟨rfl, rfl, rfl, by decide +kernel, rfl, by decide +kernel, by decide +kernel⟩
theorem ok_mixed {f : Addr} {fd : FuncData} (F : Fun K "_law_mixed" "_law_mixed" sMixed f fd) (TA : TxA mg) (TN : TxN mg) (GT : Cal P w K mg base "_law_draw" 1 ["_law_jar_here", "_law_many"] spTake) : FnOk P w K mg base CX0 2 f fd ["_law_jar_here", "_law_some"] spMixed := by
  refine F.ok scMixed (fun vs H Q E h => ?_) (fun cdv A outer s H vs Q E hr h => ?_)
  · obtain ⟨a, c, p, xs, n, rfl, _⟩ := h
    rfl
  · obtain ⟨a, c, p, xs, n, rfl, hH, hp, hx, hn, k⟩ := h
    refine ⟨_, pss_cons (ps_par (i := 2) (j := 3) (by rfl) scMixed.nd rfl rfl (by decide) rfl rfl (pa_cons (pe_callTy call_list_of (by rfl) TN.list (by decide +kernel) (pa_cons (pv 1) pa_nil)) (pa_cons (pe_lst pa_nil) pa_nil)) (by rfl))
      (pss_cons (ps_for PassesOwn.never rfl (pi_range1 (by rfl) TN.range (pa_cons (pe_callB call_len_seq (by rfl) TA.len PySem.boot_len (pa_cons (pv 2) pa_nil)) pa_nil)) (pg_name (i := 4) scMixed.nd rfl (Or.inl rfl))
        (pss_one (ps_expr (pe_bm PySem.F.plainAttrs_list PySem.F.slot_list_append PySem.F.type_list_append mt_append (pv 3) (pa_cons (pe_bm PySem.F.plainAttrs_list PySem.F.slot_list_pop PySem.F.type_list_pop mt_popAt (pv 2) (pa_cons (pe_cal GT hr (by decide) (by rfl) (pa_cons (pv 0) (pa_cons (pe_callB call_len_seq (by rfl) TA.len PySem.boot_len (pa_cons (pv 2) pa_nil)) pa_nil))) pa_nil)) pa_nil)))))
      (pss_one (ps_ret (pv 3)))), ?_⟩
    refine ⟨_, rfl, p, xs, rfl, .inl (SqL.of hp), fun lf hlf => ?_⟩
    have s1 := same_upd (o := .lst xs) hlf
    have g1 : L2.upd H lf (.lst xs) lf = some (.lst xs) := upd_same
    obtain ⟨H1, e1⟩ : ∃ H1, H1 = L2.upd H lf (.lst xs) := ⟨_, rfl⟩
    rw [← e1] at s1 g1 ⊢
    refine ⟨Nat.zero_le _, fun fo hfo => ⟨_, _, rfl, ?_⟩⟩
    have s2 := same_upd (o := .lst []) hfo
    have g2 : L2.upd H1 fo (.lst []) fo = some (.lst []) := upd_same
    have lfo : lf ≠ fo := ne_of_none g1 hfo
    have fo0 : H fo = none := s1.free hfo
    have hla := hH.ne hlf
    have hlc := hH.neC hlf
    have hfa := hH.ne fo0
    have hfc := hH.neC fo0
    have D2 : Drew a c n H (L2.upd H1 fo (.lst [])) := (Drew.refl hH).same (s1.trans s2)
    refine ⟨_, rfl, lf, _, rfl, .inl (SqL.of (s2 _ _ g1)), ((xs.length : Nat) : Int), rfl, by omega, by omega, ?_⟩
    refine for_range (lo := 0) (n := ((xs.length : Nat) : Int).toNat) (fun i σ H' => ∃ (v : Option V) (us ys : List V), σ = [some (.ref a), some (.ref p), some (.ref lf), some (.ref fo), v] ∧ Drew a c (n + i) H H' ∧ H' lf = some (.lst us) ∧ H' fo = some (.lst ys) ∧ us.length + i = xs.length ∧ (us ++ ys).Perm xs)
      ⟨none, xs, [], rfl, D2, s2 _ _ g1, g2, rfl, by rw [List.append_nil]⟩ ?_ ?_
    · rintro i σ H3 hi ⟨v, us, ys, rfl, d3, hl3, hf3, hlen, hperm⟩
      rw [Int.toNat_natCast] at hi
      have hys : ys.length = i := by
        have := hperm.length_eq
        rw [List.length_append] at this
        omega
      refine ⟨_, rfl, .inl ⟨rfl, _, SqL.of hf3⟩, _, rfl, .inl ⟨rfl, _, SqL.of hl3⟩, _, rfl, _, rfl, lf, _, rfl, .inl (SqL.of hl3), a, c, ((us.length : Nat) : Int), n + i, rfl, d3.1, by omega, by omega, ?_, fun H4 j j0 j1 hH4 hK4 => ?_⟩
      · have : (((us.length : Nat) : Int)).natAbs ≤ 100 := by omega
        exact Nat.lt_of_le_of_lt this (by decide)
      have hl4 := hK4 _ _ hla hl3
      have hf4 := hK4 _ _ hfa hf3
      have d4 : Drew a c (n + i + 1) H H4 := ⟨hH4, d3.2.trans hK4⟩
      obtain ⟨j, rfl⟩ : ∃ j' : Nat, j = (j' : Int) := ⟨j.toNat, by omega⟩
      have hjl : j < us.length := by omega
      refine ⟨lf, us, (j : Int), j, us[j], rfl, rfl, hl4, by omega, by omega, ?_, List.getElem?_eq_getElem hjl, ?_⟩
      · exact seq_at hjl
      have hf5 : L2.upd H4 lf (.lst (us.eraseIdx j)) fo = some (.lst ys) := by rw [upd_ne lfo.symm]; exact hf4
      refine ⟨fo, ys, _, rfl, rfl, hf5, Evl.sz_lt (by omega), ?_⟩
      refine ⟨_, us.eraseIdx j, ys ++ [us[j]], rfl, ?_, ?_, upd_same, ?_, ?_⟩
      · exact ((d4.put hlf hla hlc).put fo0 hfa hfc)
      · rw [upd_ne lfo, upd_same]
      · rw [List.length_eraseIdx_of_lt hjl]
        omega
      · have q1 : (us[j] :: us.eraseIdx j).Perm us := perm_erase us j hjl
        have q2 : (us.eraseIdx j ++ (ys ++ [us[j]])).Perm ((us[j] :: us.eraseIdx j) ++ ys) := by
          rw [← List.append_assoc]
          exact List.perm_append_comm
        exact (q2.trans (q1.append_right ys)).trans hperm
    · rintro σ H3 ⟨v, us, ys, rfl, d3, hl3, hf3, hlen, hperm⟩
      rw [Int.toNat_natCast] at d3 hlen
      have : us = [] := List.eq_nil_of_length_eq_zero (by omega)
      subst this
      exact ⟨_, rfl, k fo H3 ys fo0 d3 hf3 hperm⟩
end
end W09
set_option Elab.async false
set_option linter.all false
set_option maxRecDepth 100000
set_option maxHeartbeats 1000000
namespace W09
open PySem L2 PySem.Spec PyProof.Rows WR WB
/-! ### a dict of pairs -/
theorem valV_out {kvs : List (Key × V)} {k : Key} (h : k ∉ kvs.map (·.1)) : valV kvs k = none := by
  cases e : valV kvs k with
  | none => rfl
  | some v => exact absurd (valV_in e) h
theorem merge_val : ∀ (kvs acc : List (Key × V)) (k : Key), (kvs.map (·.1)).Nodup → valV (mergeK acc kvs) k = (valV kvs k).or (valV acc k)
  | [], acc, k, _ => rfl
  | p :: r, acc, k, nd => by
    rw [List.map_cons, List.nodup_cons] at nd
    show valV (mergeK (putK acc p.1 p.2) r) k = _
    rw [merge_val r _ k nd.2, valV_put]
    by_cases e : p.1 = k
    · rw [valV_pos e, if_pos e.symm, valV_out (e ▸ nd.1)]
      rfl
    · rw [valV_neg e, if_neg (fun z => e z.symm)]
/-- the tuple of a kind and a list with its letter -/
def PrD (K : PySem.W.Frag) (D : Addr) (H : Hp) (v : V) (p : Int × Int) : Prop := ∃ q r : Addr, v = .ref q ∧ SqT K H q [.int p.1, .ref r] ∧ r ≠ D ∧ H r = some (.lst [.int p.2])
theorem PrD.same {K : PySem.W.Frag} {D : Addr} {H H' : Hp} {v : V} {p : Int × Int} (h : PrD K D H v p) (s : Same H H') : PrD K D H' v p := by
  obtain ⟨q, r, e, h1, n, h2⟩ := h
  exact ⟨q, r, e, WR.Same.seqT s h1, n, s _ _ h2⟩
theorem PrD.put {K : PySem.W.Frag} {D : Addr} {H : Hp} {ws : List V} {o : HO} {v : V} {p : Int × Int} (hD : H D = some (.lst ws)) (h : PrD K D H v p) : PrD K D (L2.upd H D o) v p := by
  obtain ⟨q, r, e, h1, n, h2⟩ := h
  exact ⟨q, r, e, SqT.keptL hD Kept.upd h1, n, by rw [upd_ne n]; exact h2⟩
theorem PrD.split {K : PySem.W.Frag} {D : Addr} {H : Hp} {ws : List V} {prs : List (Int × Int)} (h : All2 (PrD K D H) ws prs) : ∃ (ps : List Addr) (kvs : List (Key × V)), ws = ps.map V.ref ∧ Paired (fun p kv => SqT K H p [kV kv.1, kv.2]) ps kvs ∧ kvs.map (·.1) = prs.map (fun p => (Sum.inl p.1 : Key)) ∧
    ∀ k : Int, (Fr.told? prs k = none → valV kvs (Sum.inl k) = none) ∧ ∀ l, Fr.told? prs k = some l → ∃ r, valV kvs (Sum.inl k) = some (.ref r) ∧ H r = some (.lst (iv [l])) := by
  induction h with
  | nil => exact ⟨[], [], rfl, .nil, rfl, fun k => ⟨fun _ => rfl, fun l h => nomatch h⟩⟩
  | @cons a b as bs h _ ih =>
    obtain ⟨q, r, rfl, h1, _, h2⟩ := h
    obtain ⟨ps, kvs, rfl, i2, i3, i4⟩ := ih
    refine ⟨q :: ps, (Sum.inl b.1, .ref r) :: kvs, rfl, .cons h1 i2, by rw [List.map_cons, List.map_cons, i3], fun k => ?_⟩
    rw [Fr.told_cons]
    by_cases e : b.1 = k
    · rw [if_pos e]
      exact ⟨(fun z => nomatch z), fun l hl => ⟨r, valV_pos (by rw [e]), by obtain rfl := Option.some.inj hl; exact h2⟩⟩
    · rw [if_neg e, valV_neg (fun z => e (by injection z))]
      exact i4 k
/-- what the pairs tell of a kind, as a list -/
def gOf (prs : List (Int × Int)) (k : Int) : List Int := [(Fr.told? prs k).getD k]
theorem tab_pairs {K : PySem.W.Frag} {D d : Addr} {H : Hp} {prs : List (Int × Int)} {kvs : List (Key × V)} (nd : (prs.map (·.1)).Nodup) (h3 : kvs.map (·.1) = prs.map (fun p => (Sum.inl p.1 : Key)))
    (h4 : ∀ k : Int, (Fr.told? prs k = none → valV kvs (Sum.inl k) = none) ∧ ∀ l, Fr.told? prs k = some l → ∃ r, valV kvs (Sum.inl k) = some (.ref r) ∧ H r = some (.lst (iv [l]))) (hd : H d = some (.dK (mergeK [] kvs))) (ns : List Int) : TabL H d (gOf prs) ns := by
  have ndk : (kvs.map (·.1)).Nodup := by
    rw [h3]
    have : prs.map (fun p => (Sum.inl p.1 : Key)) = (prs.map (·.1)).map (fun i => (Sum.inl i : Key)) := by rw [List.map_map]; rfl
    rw [this]
    exact List.Pairwise.map _ (fun a b n e => n (by injection e)) nd
  refine ⟨_, hd, fun x _ => ?_⟩
  rw [merge_val _ _ _ ndk]
  have e0 : valV ([] : List (Key × V)) (Sum.inl (x.natAbs : Int)) = none := rfl
  rw [e0, Option.or_none]
  unfold gOf
  obtain ⟨i1, i2⟩ := h4 (x.natAbs : Int)
  cases e : Fr.told? prs (x.natAbs : Int) with
  | none => exact .inr ⟨i1 e, rfl⟩
  | some l => exact .inl (i2 l e)
theorem tab_ren {prs : List (Int × Int)} {ns : List Int} : Fr.sub (Fr.tabF (gOf prs)) ns = ns.map (Fr.ren prs) := by
  rw [← Fr.sub_map]
  refine Fr.sub_congr fun x _ => ?_
  unfold Fr.tabF gOf Fr.ren
  by_cases h : 0 < x
  · rw [if_pos h, if_pos h]
  · rw [if_neg h, if_neg h]
    rfl
/-- one kind's letters, as the law tells them -/
theorem tab_put {k : Int} (hk : 0 < k) (os : List Int) {ns : List Int} (nz : Fr.NZ ns) : Fr.sub (Fr.tabF fun y => if y = k then os else [y]) ns = Fr.sub (Fr.putF k os) ns :=
  Fr.sub_congr fun x hx => Fr.tabF_put hk os (nz x hx)
theorem tab_one {H : Hp} {d r : Addr} {k : Int} {os : List Int} (hd : H d = some (.dK [(Sum.inl k, .ref r)])) (hr : H r = some (.lst (iv os))) (ns : List Int) : TabL H d (fun y => if y = k then os else [y]) ns := by
  refine ⟨_, hd, fun x _ => ?_⟩
  by_cases e : (x.natAbs : Int) = k
  · exact .inl ⟨r, valV_pos (by rw [e]), by dsimp only; rw [if_pos e]; exact hr⟩
  · exact .inr ⟨by rw [valV_neg (fun z => e (by injection z with z; exact z.symm))]; rfl, by dsimp only; rw [if_neg e]⟩
/-! ### there and back -/
def backP (p : Int × Int) : Int × Int := ((p.2.natAbs : Int), if 0 < p.2 then p.1 else -p.1)
theorem ren_back {prs : List (Int × Int)} (hp : ∀ p ∈ prs, 0 < p.1 ∧ p.2 ≠ 0) (nb : ((prs.map backP).map (·.1)).Nodup) {x : Int} (hx : ∃ l, Fr.told? prs (x.natAbs : Int) = some l) : Fr.ren (prs.map backP) (Fr.ren prs x) = x := by
  obtain ⟨l, hl⟩ := hx
  have hm := Fr.told_some hl
  obtain ⟨h1, h2⟩ := hp _ hm
  have hb : Fr.told? (prs.map backP) (l.natAbs : Int) = some (if 0 < l then (x.natAbs : Int) else -(x.natAbs : Int)) := Fr.told_in nb (List.mem_map.mpr ⟨_, hm, rfl⟩)
  have e1 : Fr.ren prs x = if 0 < x then l else -l := by
    unfold Fr.ren
    by_cases h : 0 < x
    · rw [if_pos h, if_pos h, show x = (x.natAbs : Int) by omega]
      rw [hl]
      rfl
    · rw [if_neg h, if_neg h, show -x = (x.natAbs : Int) by omega, hl]
      rfl
  rw [e1]
  unfold Fr.ren
  have hl0 : l ≠ 0 := h2
  by_cases h : 0 < x
  · rw [if_pos h]
    by_cases h3 : 0 < l
    · rw [if_pos h3, show l = (l.natAbs : Int) by omega, hb, if_pos h3]
      show (x.natAbs : Int) = x
      omega
    · rw [if_neg h3, show -l = (l.natAbs : Int) by omega, hb, if_neg h3]
      show -(-(x.natAbs : Int)) = x
      omega
  · rw [if_neg h]
    by_cases h3 : 0 < l
    · rw [if_neg (by omega), show - -l = (l.natAbs : Int) by omega, hb, if_pos h3]
      show -(x.natAbs : Int) = x
      have : x ≠ 0 := fun z => by
        have h1' : 0 < (x.natAbs : Int) := h1
        omega
      omega
    · rw [if_pos (by omega), show -l = (l.natAbs : Int) by omega, hb, if_neg h3]
      show -(x.natAbs : Int) = x
      omega
/-! ### lists of lists -/
def LL (ts : List (List Int)) : PyData := .list (ts.map fun t => PyData.list (t.map .int))
theorem shapedLL (ts : List (List Int)) : SeqAt.shaped (LL ts) = true := by
  have lay : ∀ ts : List (List Int), PyData.canLayAll0 (ts.map fun t => PyData.list (t.map .int)) = true ∧ PyData.depthAll (ts.map fun t => PyData.list (t.map .int)) ≤ 1 := by
    intro ts
    induction ts with
    | nil => exact ⟨rfl, by simp [PyData.depthAll]⟩
    | cons t r ih =>
      obtain ⟨h1, h2⟩ := ih
      obtain ⟨h3, h4⟩ := lay_ints t
      refine ⟨by simp [PyData.canLayAll0, PyData.canLay0, h1, h3], ?_⟩
      simp only [List.map_cons, PyData.depthAll, PyData.depth, h4]
      omega
  obtain ⟨h1, h2⟩ := lay ts
  unfold LL
  simp [SeqAt.shaped, PyData.canLay0, PyData.depth, h1]
  omega
theorem eqvLL_self (ts : List (List Int)) : PyData.eqv (LL ts) (LL ts) = true := by
  show PyData.eqvAll _ _ = true
  induction ts with
  | nil => rfl
  | cons t r ih =>
    show (PyData.eqv (.list (t.map .int)) (.list (t.map .int)) && PyData.eqvAll _ _) = true
    rw [ih, eqvL_ints, decide_eq_true rfl]
    rfl
/-- a list of two ints that is not D -/
def PrL (D : Addr) (H : Hp) (v : V) (p : Int × Int) : Prop := ∃ q : Addr, v = .ref q ∧ q ≠ D ∧ H q = some (.lst [.int p.1, .int p.2])
theorem PrL.same {D : Addr} {H H' : Hp} {v : V} {p : Int × Int} (h : PrL D H v p) (s : Same H H') : PrL D H' v p := by
  obtain ⟨q, e, n, h⟩ := h
  exact ⟨q, e, n, s _ _ h⟩
theorem PrL.put {D : Addr} {H : Hp} {o : HO} {v : V} {p : Int × Int} (h : PrL D H v p) : PrL D (L2.upd H D o) v p := by
  obtain ⟨q, e, n, h⟩ := h
  exact ⟨q, e, n, by rw [upd_ne n]; exact h⟩
theorem PrL.dpA {K : PySem.W.Frag} {D : Addr} {H : Hp} {vs : List V} {ps : List (Int × Int)} (h : All2 (PrL D H) vs ps) : DpAll K H vs ((ps.map fun p => [p.1, p.2]).map fun t => PyData.list (t.map .int)) := by
  induction h with
  | nil => exact .nil
  | cons h _ ih =>
    obtain ⟨q, rfl, _, h⟩ := h
    exact .cons (.lst (SqL.of h) (.cons (.int _) (.cons (.int _) .nil))) ih
theorem PrL.e {K : PySem.W.Frag} {D : Addr} {H : Hp} {v : V} {p : Int × Int} (h : PrL D H v p) : PrE K H v p := by
  obtain ⟨q, e, _, h⟩ := h
  exact ⟨q, e, .inl (SqL.of h)⟩
theorem PrT.e {K : PySem.W.Frag} {H : Hp} {v : V} {p : Int × Int} (h : PrT K H v p) : PrE K H v p := by
  obtain ⟨q, e, h⟩ := h
  exact ⟨q, e, .inr h⟩
theorem GoodP.rev {prs : List (Int × Int)} (g : GoodP prs) : GoodP prs.reverse :=
  ⟨by rw [List.length_reverse]; exact g.len, fun p hp => g.kind p (List.mem_reverse.mp hp), fun p hp => g.lett p (List.mem_reverse.mp hp), by rw [List.map_reverse]; exact List.pairwise_reverse.mpr (g.nd.imp fun h => h.symm)⟩
theorem ren_rev {prs : List (Int × Int)} (g : GoodP prs) (x : Int) : Fr.ren prs.reverse x = Fr.ren prs x := Fr.ren_perm g.rev.nd (fun p => List.mem_reverse) g.nd x
theorem map_con {f : Int → Int} (h : ∀ x, x ≠ 0 → f (-x) = -f x) {ns : List Int} (nz : Fr.NZ ns) : (Fr.con ns).map f = Fr.con (ns.map f) := by
  rw [← Fr.sub_map, ← Fr.sub_map]
  exact Fr.sub_con (fun x hx => by show [f (-x)] = Fr.con [f x]; rw [h x hx]; rfl) nz
theorem map_shr {f : Int → Int} (h : ∀ x, x ≠ 0 → f (-x) = -f x) {ns : List Int} (nz : Fr.NZ ns) : Fr.shr ((Fr.shr ns).map f) = Fr.shr (ns.map f) := by
  rw [← Fr.sub_map, ← Fr.sub_map]
  exact Fr.shr_of_sm (Fr.sub_shr (fun x hx => by show [f (-x)] = Fr.con [f x]; rw [h x hx]; rfl) nz)
end W09
set_option Elab.async false
set_option linter.all false
set_option maxRecDepth 100000
set_option maxHeartbeats 1000000
namespace W09
open PySem L2 PySem.Spec PyProof.Rows WR WB
abbrev sRenR : Stmt := top 59
theorem ixl {X : Cx} {K : PySem.W.Frag} (h : X.K = K) : IxR X (rIxL K) := h ▸ ix_list
theorem call_listK {X : Cx} {K : PySem.W.Frag} (h : X.K = K) : CallR X (.type "list") (fun xs H Q => ∃ p ys, xs = [.ref p] ∧ (SqL K H p ys ∨ SqT K H p ys) ∧ ∀ l, H l = none → Q (.ref l) (L2.upd H l (.lst ys))) := by
  subst h
  exact call_list_of
/-- the defs of the law's own that these call -/
structure LawC (P : Program) (w : World) (K : PySem.W.Frag) (mg : Str → Option Value) (base : Heap) : Prop where
  draw : Cal P w K mg base "_law_draw" 1 ["_law_jar_here", "_law_many"] spTake
  pick : Cal P w K mg base "_law_pick" 2 ["_law_jar_here", "_law_some"] spPick
  lets : Cal P w K mg base "_law_letters" 2 ["_law_jar_here", "_law_many", "_law_kinds"] spLetters
  conL : Cal P w K mg base "_law_contrary" 1 ["_law_letters_here"] spConL
  putL : Cal P w K mg base "_law_put" 2 ["_law_letters_here", "_law_told"] spPutL
  balL : Cal P w K mg base "_law_balance" 1 ["_law_letters_here"] (spBalL K)
  mixed : Cal P w K mg base "_law_mixed" 2 ["_law_jar_here", "_law_some"] spMixed
  abs : mg "abs" = none
  len : mg "len" = none
  tuple : mg "tuple" = none
  list : mg "list" = none
  range : mg "range" = none
  dict : mg "dict" = none
  enum : mg "enumerate" = none
  repr : mg "repr" = none
def toI : V → Int
  | .int i => i
  | _ => 0
theorem perm_iv {ys : List V} {ks0 : List Int} (h : ys.Perm (iv ks0)) : ∃ ks, ys = iv ks ∧ ks.Perm ks0 := by
  refine ⟨ys.map toI, ?_, ?_⟩
  · unfold iv
    rw [List.map_map]
    have : ∀ y ∈ ys, y = (V.int ∘ toI) y := fun y hy => by
      obtain ⟨i, _, rfl⟩ := List.mem_map.mp (h.mem_iff.mp hy)
      rfl
    have e := List.map_congr_left this
    rw [← e]
    simp
  · have := h.map toI
    have e : (iv ks0).map toI = ks0 := by
      unfold iv
      rw [List.map_map]
      have : (toI ∘ V.int) = id := rfl
      rw [this, List.map_id]
    rw [e] at this
    exact this
theorem erase_iv : ∀ (ks : List Int) (m : Nat), (iv ks).eraseIdx m = iv (ks.eraseIdx m)
  | [], _ => rfl
  | _ :: _, 0 => rfl
  | a :: t, m + 1 => by
    show V.int a :: (iv t).eraseIdx m = V.int a :: iv (t.eraseIdx m)
    rw [erase_iv t m]
/-- what stands while the law looks at renaming -/
structure RS (K : PySem.W.Frag) (C : Addr) (H0 H : Hp) (a c : Addr) (n : Nat) (p x lf pr : Addr) (ns lv : List Int) (prs : List (Int × Int)) : Prop where
  d : Drew a c n H0 H
  pa : p ≠ a
  p : H p = some (.lst (iv ns))
  w : WordAt K C H x ns
  la : lf ≠ a
  lf : H lf = some (.lst (iv lv))
  ra : pr ≠ a
  pr : ∃ ws, H pr = some (.lst ws) ∧ All2 (PrT K H) ws prs
section
variable {K : PySem.W.Frag} {C : Addr} {H0 H H' : Hp} {a c : Addr} {n m : Nat} {p x lf pr : Addr} {ns lv : List Int} {prs : List (Int × Int)}
theorem SqT.drew {q : Addr} {xs : List V} (hH : HandAt H a c n) (d : Drew a c m H H') (h : SqT K H q xs) : SqT K H' q xs := by
  obtain ⟨cs, i, r, hA, _⟩ := hH
  exact SqT.keptL hA d.2 h
theorem PrT.drew {v : V} {b : Int × Int} (hH : HandAt H a c n) (d : Drew a c m H H') (h : PrT K H v b) : PrT K H' v b := by
  obtain ⟨q, e, h⟩ := h
  exact ⟨q, e, SqT.drew hH d h⟩
theorem RS.same (h : RS K C H0 H a c n p x lf pr ns lv prs) (s : Same H H') : RS K C H0 H' a c n p x lf pr ns lv prs := by
  obtain ⟨ws, h1, h2⟩ := h.pr
  exact ⟨h.d.same s, h.pa, s _ _ h.p, h.w.same s, h.la, s _ _ h.lf, h.ra, ws, s _ _ h1, h2.imp fun _ _ r => r.same s⟩
theorem RS.drew (h : RS K C H0 H a c n p x lf pr ns lv prs) (d : Drew a c m H H') : RS K C H0 H' a c m p x lf pr ns lv prs := by
  obtain ⟨ws, h1, h2⟩ := h.pr
  exact ⟨h.d.trans d, h.pa, d.2 _ _ h.pa h.p, h.w.drew h.d.1 d, h.la, d.2 _ _ h.la h.lf, h.ra, ws, d.2 _ _ h.ra h1, h2.imp fun _ _ r => r.drew h.d.1 d⟩
theorem RS.pairs (h : RS K C H0 H a c n p x lf pr ns lv prs) : PairsAt K H pr prs := by
  obtain ⟨ws, h1, h2⟩ := h.pr
  exact ⟨ws, .inl (SqL.of h1), h2.imp fun _ _ r => r.e⟩
end
theorem put_lc {r : List V → Hp → VK → Prop} {wi : TI} {g : TG} {tt : TT} {te : TE} {gg : TG} {vs : List Nat} {D : Ends} {σ : L2.St} {H : Hp} {p : Addr} (hi : σ[1]? = some (some (.ref p)))
    (h : wi σ H fun J H1 => tLc (fun _ H R => R J H) g tt te vs σ H1 fun y H2 => r [y] H2 fun d H3 => spPutL [V.ref p, d] H3 (fun z H4 => gg z σ H4 D.nx) E0) :
    tAsg (tCall spPutL [] E0 (tCons (tVar 1) (tCons (tCB r (tCons (tLc wi g tt te vs) tNil)) tNil))) gg D σ H := ⟨_, hi, h⟩
theorem test_lc {r : R2} {wi : TI} {g : TG} {tt : TT} {te : TE} {vs : List Nat} {i : Nat} {v : V} {σ : L2.St} {H : Hp} {Qb : Bool → Hp → Prop} (hi : σ[i]? = some (some v))
    (h : wi σ H fun J H1 => tLc (fun _ H R => R J H) g tt te vs σ H1 fun y H2 => r v y H2 fun u H3 => ∃ c, u = .bl c ∧ Qb c H3) : tTest (tOp r (tVar i) (tLc wi g tt te vs)) σ H Qb := ⟨_, hi, h⟩
def spRenR : Sp := fun vs H Q _ => ∃ (a c p : Addr) (ns : List Int) (n : Nat), vs = [.ref a, .ref p] ∧ HandAt H a c n ∧ p ≠ a ∧ H p = some (.lst (iv ns)) ∧ ns.length ≤ 100 ∧ (∀ x ∈ ns, 1 ≤ x.natAbs ∧ x.natAbs ≤ 4) ∧ n ≤ 7000 ∧ ∀ H', Drew a c (n + 30) H H' → Q (.bl true) H'
abbrev nRenR : List Str := ["_law_jar_here", "_law_letters_here", "_law_word", "_law_left", "_law_pairs", "_law_kind", "_law_letter", "_law_held", "_law_due", "_law_told", "_law_whole", "_law_back", "_law_one", "_law_pair"]
section
variable {P : Program} {w : World} {K : PySem.W.Frag} {mg : Str → Option Value} {base : Heap} {C : Addr}
theorem scRenR : FnScope nRenR ["_law_jar_here", "_law_letters_here"] (defScope sRenR) := ⟨rfl, rfl, rfl, by decide +kernel, rfl, by decide +kernel, by decide +kernel⟩
theorem ok_renR {f : Addr} {fd : FuncData} (F : Fun K "_law_renamed_right" "_law_renamed_right" sRenR f fd) (T : TxW K mg C) (W : AllW P w K mg base C) (N : LawC P w K mg base) : FnOk P w K mg base CX0 7 f fd ["_law_jar_here", "_law_letters_here"] spRenR := by
  refine F.ok scRenR (fun vs H Q E h => ?_) (fun cdv A outer s H vs Q E hr h => ?_)
  · obtain ⟨a, c, p, ns, n, rfl, _⟩ := h
    rfl
  · obtain ⟨a, c, p, ns, n, rfl, hH, hpa, hp, hlen, h4, hn, k⟩ := h
    refine ⟨_, pss_cons (ps_asg (pe_tup (pa_cons (pe_word W.mkw T hr (by decide) (by rfl) (pa_cons (pv 1) pa_nil)) (pa_cons (pe_listRg rfl (by rfl) N.list (prg_2 (by rfl) N.range pe_int pe_int)) (pa_cons (pe_lst pa_nil) pa_nil)))) (pg_tup (n := 3) rfl (pgs_cons (pg_name (i := 2) scRenR.nd rfl (Or.inl rfl)) (pgs_cons (pg_name (i := 3) scRenR.nd rfl (Or.inr rfl)) (pgs_cons (pg_name (i := 4) scRenR.nd rfl (Or.inl rfl)) pgs_nil)))))
      (pss_cons (ps_for PassesOwn.never rfl (pi_list (pe_slice sl_list (pe_cal N.mixed hr (by decide) (by rfl) (pa_cons (pv 0) (pa_cons (pe_lst (pa_cons pe_int (pa_cons pe_int (pa_cons pe_int (pa_cons pe_int (pa_cons pe_int pa_nil)))))) pa_nil))) po_none (po_some (pe_cal N.draw hr (by decide) (by rfl) (pa_cons (pv 0) (pa_cons pe_int pa_nil)))))) (pg_name (i := 5) scRenR.nd rfl (Or.inl rfl))
        (pss_cons (ps_set (i := 6) scRenR.nd rfl (Or.inl rfl) (pe_op op_mul (pe_bm PySem.F.plainAttrs_list PySem.F.slot_list_pop PySem.F.type_list_pop mt_popAt (pv 3) (pa_cons (pe_cal N.draw hr (by decide) (by rfl) (pa_cons (pv 0) (pa_cons (pe_callB call_len_seq (by rfl) N.len PySem.boot_len (pa_cons (pv 3) pa_nil)) pa_nil))) pa_nil)) (pe_op op_sub pe_int (pe_op op_mul pe_int (pe_cal N.draw hr (by decide) (by rfl) (pa_cons (pv 0) (pa_cons pe_int pa_nil)))))))
        (pss_one (ps_expr (pe_bm PySem.F.plainAttrs_list PySem.F.slot_list_append PySem.F.type_list_append mt_append (pv 4) (pa_cons (pe_tup (pa_cons (pv 5) (pa_cons (pv 6) pa_nil))) pa_nil))))))
      (Evl.pss_cut (ps_setLc (i := 7) (own := [("_law_pair", 13)]) (g := gName 13) (tt := tYes) rfl scRenR.nd rfl rfl (sw_true rfl rfl rfl (by decide +kernel)) (pi_list (pv 4)) (blkOk_by (N := nRenR) (sc := defScope sRenR) (by decide +kernel)) (fun _ _ _ _ _ => pg_name (i := 13) scRenR.nd rfl (Or.inl rfl)) (fun _ _ _ _ _ => pts_nil)
          (fun _ _ _ _ _ => pe_callTy (call_listK (K := K) rfl) (by rfl) N.list (by decide +kernel) (pa_cons (pv 13) pa_nil)))
      (Evl.pss_cut (ps_set (i := 8) scRenR.nd rfl (Or.inl rfl) (pe_cal N.putL hr (by decide) (by rfl) (pa_cons (pv 1) (pa_cons (pe_callTy (call_dictP rfl) (by rfl) N.dict (by decide +kernel) (pa_cons (pe_lc (own := [("_law_kind", 5), ("_law_letter", 6)]) (g := gTup K 2 (gCons (gName 5) (gCons (gName 6) gNil))) (tt := tYes) rfl scRenR.nd (pi_list (pv 4)) (blkOk_by (N := nRenR) (sc := defScope sRenR) (by decide +kernel))
          (fun _ _ _ _ _ => pg_tup (n := 2) rfl (pgs_cons (pg_name (i := 5) scRenR.nd rfl (Or.inl rfl)) (pgs_cons (pg_name (i := 6) scRenR.nd rfl (Or.inl rfl)) pgs_nil))) (fun _ _ _ _ _ => pts_nil) (fun _ _ _ _ _ => pe_tup (pa_cons (pv 5) (pa_cons (pe_lst (pa_cons (pv 6) pa_nil)) pa_nil)))) pa_nil)) pa_nil))))
      (pss_cons (ps_set (i := 9) scRenR.nd rfl (Or.inl rfl) (pe_calK W.renK hr (by decide) (by rfl) (pk_cons (pv 2) (pk_cons (pv 7) pk_nil))))
      (Evl.pss_cut (ps_if (PW.pt (pw_or (pt_not (pt_val (pe_callB call_isi (by rfl) T.isin (by decide +kernel) (pa_cons (pv 9) (pa_cons (pe_glob (v := .ref C) (by rfl) T.mgW rfl) pa_nil)))))
          (pw_or (pt_cmpR (op_neD hr.units) (pe_callTy call_list_of (by rfl) N.list (by decide +kernel) (pa_cons (pe_fld (pv 9) rfl) pa_nil)) (pv 8) (nomark _))
          (pw_or (pt_cmpR (op_neW W.eq W.ne T.cm hr (by decide)) (pe_cal W.ren hr (by decide) (by rfl) (pa_cons (pv 2) (pa_cons (pe_callTy call_tuple_of (by rfl) N.tuple (by decide +kernel) (pa_cons (pe_revL (pv 4)) pa_nil)) pa_nil))) (pv 9) (nomark _))
          (pw_or1 (pt_cmpR (op_neD hr.units) (pv 7) (pe_lc (own := [("_law_pair", 13)]) (g := gName 13) (tt := tYes) rfl scRenR.nd (pi_list (pv 4)) (blkOk_by (N := nRenR) (sc := defScope sRenR) (by decide +kernel)) (fun _ _ _ _ _ => pg_name (i := 13) scRenR.nd rfl (Or.inl rfl)) (fun _ _ _ _ _ => pts_nil)
            (fun _ _ _ _ _ => pe_callTy (call_listK (K := K) rfl) (by rfl) N.list (by decide +kernel) (pa_cons (pv 13) pa_nil))) (nomark _))))))) (pss_one (ps_ret pe_bl)) pss_nil)
      (Evl.pss_cut (ps_if (PW.pt (pw_or (pt_cmpR (op_neW W.eq W.ne T.cm hr (by decide)) (pe_cal W.ren hr (by decide) (by rfl) (pa_cons (pe_w0 W.con T.cl hr (by decide) (pv 2)) (pa_cons (pv 4) pa_nil))) (pe_w0 W.con T.cl hr (by decide) (pv 9)) (nomark _))
          (pw_or (pt_cmpR (op_neW W.eq W.ne T.cm hr (by decide)) (pe_w0 W.sht T.cl hr (by decide) (pe_cal W.ren hr (by decide) (by rfl) (pa_cons (pe_w0 W.sht T.cl hr (by decide) (pv 2)) (pa_cons (pv 4) pa_nil)))) (pe_w0 W.sht T.cl hr (by decide) (pv 9)) (nomark _))
          (pw_or1 (pt_cmpR (op_neW W.eq W.ne T.cm hr (by decide)) (pe_cal W.ren hr (by decide) (by rfl) (pa_cons (pv 2) (pa_cons (pe_lst pa_nil) pa_nil))) (pv 2) (nomark _)))))) (pss_one (ps_ret pe_bl)) pss_nil)
      (Evl.pss_cut (ps_setLc (i := 10) (own := [("_law_kind", 5)]) (g := gName 5) (tt := tYes) rfl scRenR.nd rfl rfl (sw_true rfl rfl rfl (by decide +kernel)) (pi_range2 (by rfl) N.range (pa_cons pe_int (pa_cons pe_int pa_nil))) (blkOk_by (N := nRenR) (sc := defScope sRenR) (by decide +kernel)) (fun _ _ _ _ _ => pg_name (i := 5) scRenR.nd rfl (Or.inl rfl)) (fun _ _ _ _ _ => pts_nil)
          (fun _ _ _ _ _ => pe_tup (pa_cons (pv 5) (pa_cons (pe_op op_mul (pe_cal N.pick hr (by decide) (by rfl) (pa_cons (pv 0) (pa_cons (pe_lst (pa_cons (pe_un un_neg pe_int) (pa_cons pe_int pa_nil))) pa_nil))) (pe_ix (ixl (K := K) rfl) (pv 3) (pv 5) (fun _ _ => rfl))) pa_nil))))
      (Evl.pss_cut (ps_setLc (i := 11) (own := [("_law_kind", 5), ("_law_letter", 6)]) (g := gTup K 2 (gCons (gName 5) (gCons (gName 6) gNil))) (tt := tYes) rfl scRenR.nd rfl rfl (sw_true rfl rfl rfl (by decide +kernel)) (pi_list (pv 10)) (blkOk_by (N := nRenR) (sc := defScope sRenR) (by decide +kernel))
          (fun _ _ _ _ _ => pg_tup (n := 2) rfl (pgs_cons (pg_name (i := 5) scRenR.nd rfl (Or.inl rfl)) (pgs_cons (pg_name (i := 6) scRenR.nd rfl (Or.inl rfl)) pgs_nil))) (fun _ _ _ _ _ => pts_nil)
          (fun _ _ _ _ _ => pe_tup (pa_cons (pe_callB call_abs (by rfl) N.abs (by decide +kernel) (pa_cons (pv 6) pa_nil)) (pa_cons (pe_ifExp (pt_cmpR op_gt (pv 6) pe_int (nomark _)) (pv 5) (pe_un un_neg (pv 5))) pa_nil))))
      (Evl.pss_cut (ps_if (PW.pt (pw_or (pt_cmpR op_lt (pe_callB call_len_seq (by rfl) N.len PySem.boot_len (pa_cons (pv 3) pa_nil)) pe_int (nomark _)) (pw_or1 (pt_cmpR (op_neW W.eq W.ne T.cm hr (by decide)) (pe_cal W.ren hr (by decide) (by rfl) (pa_cons (pe_cal W.ren hr (by decide) (by rfl) (pa_cons (pv 2) (pa_cons (pv 10) pa_nil))) (pa_cons (pv 11) pa_nil))) (pv 2) (nomark _))))) (pss_one (ps_ret pe_bl)) pss_nil)
      (pss_cons (ps_set (i := 12) scRenR.nd rfl (Or.inl rfl) (pe_cal N.pick hr (by decide) (by rfl) (pa_cons (pv 0) (pa_cons (pe_lst (pa_cons (pe_un un_neg pe_int) (pa_cons pe_int (pa_cons pe_int pa_nil)))) pa_nil))))
      (pss_one (ps_ret (pe_cmpR (op_eqD hr.units) (pe_callTy call_list_of (by rfl) N.list (by decide +kernel) (pa_cons (pe_fld (pe_cal W.ren hr (by decide) (by rfl) (pa_cons (pv 2) (pa_cons (pe_tup (pa_cons (pe_tup (pa_cons pe_int (pa_cons (pv 12) pa_nil))) (pa_cons (pe_lst (pa_cons pe_int (pa_cons (pv 12) pa_nil))) pa_nil))) pa_nil))) rfl) pa_nil))
          (pe_cal N.putL hr (by decide) (by rfl) (pa_cons (pv 1) (pa_cons (pe_disp (pps_cons pe_int (pe_lst (pa_cons (pv 12) pa_nil)) (pps_cons pe_int (pe_lst (pa_cons (pv 12) pa_nil)) pps_nil)) (by rfl) (by rfl) (fun z => by cases z) (by decide)) pa_nil))) (nomark _)))))))))))))), ?_⟩
    have hl : Lts ns := fun z hz => ⟨(h4 z hz).1, Nat.le_trans (h4 z hz).2 (by decide)⟩
    -- the word, what is left, the pairs
    refine ⟨_, rfl, fun x dx nx ndx _ => make_at nx ndx (.inl (SqL.of hp)) (by omega) hl fun H1 s1 W1 => ?_⟩
    refine ⟨1, 27, rfl, rfl, RgOk.of_le (by decide) (by decide) (by decide) (by decide), fun lf hlf => ?_⟩
    have s2 := same_upd (o := .lst (rgV 1 27)) hlf
    have elv : rgV 1 27 = iv ((List.range 26).map fun (i : Nat) => 1 + (i : Int)) := by
      unfold rgV iv
      rw [List.map_map]
      rfl
    have g2 : L2.upd H1 lf (.lst (rgV 1 27)) lf = some (.lst (iv ((List.range 26).map fun (i : Nat) => 1 + (i : Int)))) := by rw [upd_same, elv]
    obtain ⟨H2, e2⟩ : ∃ H2, H2 = L2.upd H1 lf (.lst (rgV 1 27)) := ⟨_, rfl⟩
    rw [← e2] at s2 g2 ⊢
    refine ⟨Nat.zero_le _, fun pr hpr => ?_⟩
    have s3 := same_upd (o := .lst []) hpr
    have g3 : L2.upd H2 pr (.lst []) pr = some (.lst []) := upd_same
    obtain ⟨H3, e3⟩ : ∃ H3, H3 = L2.upd H2 pr (.lst []) := ⟨_, rfl⟩
    rw [← e3] at s3 g3 ⊢
    refine ⟨by show 3 ≤ sizeLine; decide, fun T0 hT0 => ⟨T0, _, rfl, SqT.of upd_same, rfl, _, _, rfl, _, _, rfl, _, _, rfl, rfl, ?_⟩⟩
    have s4 := same_upd (o := .tup [.ref x, .ref lf, .ref pr]) hT0
    have lf0 : H lf = none := s1.free hlf
    have pr0 : H pr = none := (s1.trans s2).free hpr
    have lpr : lf ≠ pr := ne_of_none g2 hpr
    have R0 : RS K C H (L2.upd H3 T0 (.tup [.ref x, .ref lf, .ref pr])) a c n p x lf pr ns ((List.range 26).map fun (i : Nat) => 1 + (i : Int)) [] :=
      ⟨(Drew.refl hH).same (((s1.trans s2).trans s3).trans s4), hpa, (((s1.trans s2).trans s3).trans s4) _ _ hp, W1.same ((s2.trans s3).trans s4), hH.ne lf0, (s3.trans s4) _ _ g2, hH.ne pr0, [], s4 _ _ g3, .nil⟩
    obtain ⟨H4, e4⟩ : ∃ H4, H4 = L2.upd H3 T0 (.tup [.ref x, .ref lf, .ref pr]) := ⟨_, rfl⟩
    rw [← e4] at R0 ⊢
    clear e2 e3 e4 g2 g3 s1 s2 s3 s4 hT0 hlf hpr W1
    -- the pairs are drawn
    refine ⟨_, rfl, by show 5 ≤ sizeLine; decide, fun q hq => ?_⟩
    have s5 := same_upd (o := .lst (iv [1, 2, 3, 4, 9])) hq
    have R1 := R0.same s5
    refine ⟨a, c, q, iv [1, 2, 3, 4, 9], n, rfl, R1.d.1, upd_same, by decide, by omega, fun l H5 ys hl0 d5 g5 hperm => ?_⟩
    obtain ⟨ks, rfl, hks⟩ := perm_iv hperm
    have R2 := R1.drew d5
    have nla := R1.d.1.ne hl0
    have kl : ks.length = 5 := hks.length_eq
    refine ⟨_, rfl, a, c, 6, n + 5, rfl, R2.d.1, by omega, by decide, by decide, fun H6 j j0 j1 hH6 hK6 => ?_⟩
    have d6 : Drew a c (n + 6) H5 H6 := ⟨hH6, hK6⟩
    have R3 := R2.drew d6
    have g6 := hK6 _ _ nla g5
    obtain ⟨j, rfl⟩ : ∃ j' : Nat, j = (j' : Int) := ⟨j.toNat, by omega⟩
    refine ⟨_, rfl, l, _, rfl, SqL.of g6, fun q2 hq2 => ?_⟩
    rw [cut_to (by omega)]
    have s7 := same_upd (o := .lst (iv (ks.take j))) hq2
    have g7 : L2.upd H6 q2 (.lst (iv (ks.take j))) q2 = some (.lst (iv (ks.take j))) := upd_same
    have R4 := R3.same s7
    have q2a := R3.d.1.ne hq2
    have q2lf : q2 ≠ lf := (ne_of_none R3.lf hq2).symm
    have q2pr : q2 ≠ pr := by
      obtain ⟨ws, h1, _⟩ := R3.pr
      exact (ne_of_none h1 hq2).symm
    obtain ⟨H7, e7⟩ : ∃ H7, H7 = L2.upd H6 q2 (.lst (iv (ks.take j))) := ⟨_, rfl⟩
    rw [← e7] at s7 g7 R4 ⊢
    have hkr : ∀ z ∈ ks, 1 ≤ z ∧ z ≤ 26 := fun z hz => by
      have := hks.mem_iff.mp hz
      simp only [List.mem_cons, List.mem_nil_iff, or_false] at this
      omega
    have hkn : ks.Nodup := hks.nodup_iff.mpr (by decide)
    have ltj : (ks.take j).length = j := by rw [List.length_take]; omega
    refine ⟨q2, rfl, ⟨_, SqL.of g7⟩, for_list (K := K) (a := q2) (xs := iv (ks.take j)) (fun i σ H' => ∃ (v5 v6 : Option V) (lv : List Int) (prs : List (Int × Int)), σ = [some (.ref a), some (.ref p), some (.ref x), some (.ref lf), some (.ref pr), v5, v6, none, none, none, none, none, none, none] ∧
        RS K C H H' a c (n + 6 + 2 * i) p x lf pr ns lv prs ∧ H' q2 = some (.lst (iv (ks.take j))) ∧ lv.length + i = 26 ∧ lv.Nodup ∧ (∀ z ∈ lv, 1 ≤ z ∧ z ≤ 26) ∧ prs.map (·.1) = (ks.take j).take i ∧ (∀ b ∈ prs, 1 ≤ b.2.natAbs ∧ b.2.natAbs ≤ 26))
      ⟨none, none, _, [], rfl, R4, g7, by rw [List.length_map, List.length_range], ?_, ?_, rfl, fun b hb => nomatch hb⟩ (fun i σ H1 _ q => ?_) ?_ ?_⟩
    · refine List.Pairwise.map _ (fun u v n e => n (by omega)) (List.nodup_range (n := 26))
    · intro z hz
      obtain ⟨i, hi, rfl⟩ := List.mem_map.mp hz
      have := List.mem_range.mp hi
      omega
    · obtain ⟨_, _, _, _, _, _, g, _⟩ := q
      exact SqL.of g
    · rintro i y σ H8 hi ⟨v5, v6, lv, prs, rfl, R, gq, hlv, ndl, rl, hpk, hpl⟩
      obtain ⟨kk, hkk, rfl⟩ : ∃ z, (ks.take j)[i]? = some z ∧ y = V.int z := by
        rw [List.getElem?_map] at hi
        cases e : (ks.take j)[i]? with
        | none => rw [e] at hi; cases hi
        | some z => rw [e] at hi; exact ⟨z, rfl, (Option.some.inj hi).symm⟩
      have hij : i < j := by
        have := (List.getElem?_eq_some_iff.mp hkk).1
        omega
      obtain ⟨ws, hpr8, hu⟩ := R.pr
      -- a letter that is left
      refine ⟨_, rfl, .inl ⟨rfl, _, SqL.of R.lf⟩, _, rfl, _, rfl, lf, _, rfl, .inl (SqL.of R.lf), a, c, ((lv.length : Nat) : Int), n + 6 + 2 * i, congrArg (fun z => [V.ref a, V.int z]) (by show (((iv lv).length : Nat) : Int) = _; rw [List.length_map]), R.d.1, by omega, by omega, ?_, fun H9 m m0 m1 hH9 hK9 => ?_⟩
      · have : (((lv.length : Nat) : Int)).natAbs ≤ 26 := by omega
        exact Nat.lt_of_le_of_lt this (by decide)
      have d9 : Drew a c (n + 6 + 2 * i + 1) H8 H9 := ⟨hH9, hK9⟩
      have R9 := R.drew d9
      have gq9 := hK9 _ _ q2a gq
      obtain ⟨m, rfl⟩ : ∃ m' : Nat, m = (m' : Int) := ⟨m.toNat, by omega⟩
      have hml : m < lv.length := by omega
      refine ⟨lf, iv lv, (m : Int), m, V.int lv[m], rfl, rfl, R9.lf, by omega, by omega, seq_at (by rw [List.length_map]; exact hml), iv_get (List.getElem?_eq_getElem hml), ?_⟩
      have R9' : RS K C H (L2.upd H9 lf (.lst ((iv lv).eraseIdx m))) a c (n + 6 + 2 * i + 1) p x lf pr ns (lv.eraseIdx m) prs := by
        obtain ⟨ws, g1, g2⟩ := R9.pr
        have npl : p ≠ lf := fun z => by
          have h0 := lf0
          rw [← z, hp] at h0
          cases h0
        refine ⟨R9.d.put lf0 R9.la (hH.neC lf0), hpa, by rw [upd_ne npl]; exact R9.p, ?_, R9.la, upd_same.trans (congrArg (fun z => some (HO.lst z)) (erase_iv lv m)), R9.ra, ws, by rw [upd_ne lpr.symm]; exact g1, g2.imp fun _ _ r => PrT.put R9.lf r⟩
        obtain ⟨dx, tl, tk, us, w1, w2, w3, w4⟩ := R9.w
        refine ⟨dx, tl, tk, us, by rw [upd_ne (fun z => by rw [z, R9.lf] at w1; cases w1)]; exact w1, ⟨SqT.keptL R9.lf Kept.upd w2.sq, fun ne => ?_⟩, SqT.keptL R9.lf Kept.upd w3, w4⟩
        obtain ⟨o, u, e, dn⟩ := w2.bare ne
        exact ⟨o, u, by rw [upd_ne (fun z => by rw [z, R9.lf] at e; cases e)]; exact e, dn⟩
      have gq9' : L2.upd H9 lf (.lst ((iv lv).eraseIdx m)) q2 = some (.lst (iv (ks.take j))) := by rw [upd_ne q2lf]; exact gq9
      obtain ⟨HA, eA⟩ : ∃ HA, HA = L2.upd H9 lf (.lst ((iv lv).eraseIdx m)) := ⟨_, rfl⟩
      rw [← eA] at R9' gq9' ⊢
      have hlm := rl lv[m] (List.getElem_mem hml)
      refine ⟨_, rfl, a, c, 2, n + 6 + 2 * i + 1, rfl, R9'.d.1, by omega, by decide, by decide, fun HB b b0 b1 hHB hKB => ?_⟩
      have dB : Drew a c (n + 6 + 2 * (i + 1)) HA HB := ⟨hHB, hKB⟩
      have RB := R9'.drew dB
      have gqB := hKB _ _ q2a gq9'
      refine ⟨_, _, rfl, rfl, .inl ⟨by decide, by omega⟩, _, _, rfl, rfl, _, _, rfl, rfl, .inl ⟨by omega, by omega⟩, ?_⟩
      obtain ⟨ll, ell⟩ : ∃ ll, ll = lv[m] * (1 - 2 * b) := ⟨_, rfl⟩
      have hll : ll.natAbs = lv[m].natAbs := by
        have : b = 0 ∨ b = 1 := by omega
        rcases this with rfl | rfl
        · rw [ell]; simp
        · rw [ell]; simp
      dsimp only
      rw [← ell]
      refine at_set ?_
      try dsimp only
      obtain ⟨ws2, hprB, huB⟩ := RB.pr
      have lws := huB.length
      have lprs : prs.length = i := by
        have := congrArg List.length hpk
        rw [List.length_map, List.length_take, ltj] at this
        omega
      refine ⟨_, rfl, .inl ⟨rfl, _, SqL.of hprB⟩, _, rfl, _, rfl, by show 2 ≤ sizeLine; decide, fun t ht => ?_⟩
      have st := same_upd (o := .tup [.int kk, .int ll]) ht
      have RC := RB.same st
      have hprC := st _ _ hprB
      refine ⟨pr, ws2, _, rfl, rfl, hprC, Evl.sz_lt (by omega), ?_⟩
      have ta : SqT K (L2.upd HB t (.tup [.int kk, .int ll])) t [.int kk, .int ll] := SqT.of upd_same
      refine ⟨_, _, lv.eraseIdx m, prs ++ [(kk, ll)], rfl, ?_, ?_, ?_, ?_, ?_, ?_, ?_⟩
      · have npp : p ≠ pr := fun z => by
          have h0 := pr0
          rw [← z, hp] at h0
          cases h0
        refine ⟨RC.d.put pr0 RC.ra (hH.neC pr0), hpa, by rw [upd_ne npp]; exact RC.p, ?_, RC.la, by rw [upd_ne lpr]; exact RC.lf, RC.ra, _, upd_same, ?_⟩
        · obtain ⟨dx, tl, tk, us, w1, w2, w3, w4⟩ := RC.w
          refine ⟨dx, tl, tk, us, by rw [upd_ne (fun z => by rw [z, hprC] at w1; cases w1)]; exact w1, ⟨SqT.keptL hprC Kept.upd w2.sq, fun ne => ?_⟩, SqT.keptL hprC Kept.upd w3, w4⟩
          obtain ⟨o, u, e, dn⟩ := w2.bare ne
          exact ⟨o, u, by rw [upd_ne (fun z => by rw [z, hprC] at e; cases e)]; exact e, dn⟩
        · exact All2.app (huB.imp fun _ _ r => PrT.put hprC (r.same st)) (.cons (PrT.put hprC ⟨t, rfl, ta⟩) .nil)
      · rw [upd_ne q2pr]
        exact st _ _ gqB
      · rw [List.length_eraseIdx_of_lt hml]
        omega
      · exact ndl.sublist (List.eraseIdx_sublist lv m)
      · exact fun z hz => rl z (List.mem_of_mem_eraseIdx hz)
      · rw [List.map_append, hpk]
        have hit : i < (ks.take j).length := by rw [ltj]; exact hij
        rw [List.take_succ_eq_append_getElem hit]
        congr 1
        show [kk] = [(ks.take j)[i]]
        rw [(List.getElem?_eq_some_iff.mp hkk).2]
      · intro b' hb'
        rcases List.mem_append.mp hb' with hb' | hb'
        · exact hpl b' hb'
        · rw [List.mem_singleton.mp hb']
          show 1 ≤ ll.natAbs ∧ ll.natAbs ≤ 26
          rw [hll]
          omega
    rintro σ H8 ⟨v5, v6, lv, prs, rfl, R, gq, hlv, ndl, rl, hpk, hpl⟩
    have el : (iv (ks.take j)).length = j := by rw [List.length_map, ltj]
    rw [el] at hlv hpk R
    rw [List.take_of_length_le (by rw [ltj]; exact Nat.le_refl _)] at hpk
    have lprs : prs.length = j := by
      have := congrArg List.length hpk
      rw [List.length_map, ltj] at this
      exact this
    have g : GoodP prs := ⟨by omega, fun b hb => by
      have : b.1 ∈ prs.map (·.1) := List.mem_map_of_mem hb
      rw [hpk] at this
      exact hkr _ (List.mem_of_mem_take this), hpl, by rw [hpk]; exact hkn.sublist (List.take_sublist _ _)⟩
    have hlv20 : 20 ≤ lv.length := by omega
    have RR : RS K C H H8 a c (n + 16) p x lf pr ns lv prs := ⟨R.d.mono (by omega), R.pa, R.p, R.w, R.la, R.lf, R.ra, R.pr⟩
    clear R gq hlv hpk hpl el lprs hkr hkn ltj q2a q2lf q2pr g7 s7 e7 R4 R3 g6 R2 R1 R0 g5 d5 d6 hperm hks kl nla
    -- the pairs are held
    refine ⟨fun σ' H' => ∃ (hd : Addr) (us : List V), σ' = [some (.ref a), some (.ref p), some (.ref x), some (.ref lf), some (.ref pr), v5, v6, some (.ref hd), none, none, none, none, none, none] ∧ RS K C H H' a c (n + 16) p x lf pr ns lv prs ∧ H' hd = some (.lst us) ∧ All2 (PrL hd H') us prs, ?_, ?_⟩
    · obtain ⟨ws, hpr8, hu⟩ := RR.pr
      have lw := hu.length
      have lg := g.len
      refine as_lc ?_
      refine ⟨_, rfl, pr, rfl, ⟨_, SqL.of hpr8⟩, ?_⟩
      refine lcM (walk_list (K := K) (a := pr) (xs := ws)) prs (fun D H v p => PrL D H v p) (fun _ _ _ _ _ h s => h.same s) (fun _ _ _ _ _ _ _ h => h.put) (by omega) lw (fun H2 s2 => SqL.of (s2 _ _ hpr8)) ?_ (fun x σ1 H A B k h => gName_mono k h) ?_
      · intro i y b hx hb D H2 hD ⟨us, hus⟩ s2 Qy ky
        obtain ⟨b', hb', r⟩ := hu.at hx
        rw [hb] at hb'
        obtain rfl := Option.some.inj hb'
        obtain ⟨q, rfl, hq⟩ := r.same s2
        refine ⟨rfl, ?_⟩
        refine ⟨_, rfl, q, _, rfl, .inr hq, fun l hl => ?_⟩
        exact ky _ _ (same_upd hl) ⟨l, rfl, (ne_of_none hus hl).symm, upd_same⟩
      intro D H2 ws2 hD s2 h2 r2
      refine at_set ?_
      exact ⟨D, ws2, rfl, RR.same s2, h2, r2⟩
    rintro σ H9 ⟨hd, us, rfl, R, hhd, hus⟩
    clear RR
    -- what is due
    refine ⟨fun σ' H' => ∃ (du : Addr), σ' = [some (.ref a), some (.ref p), some (.ref x), some (.ref lf), some (.ref pr), v5, v6, some (.ref hd), some (.ref du), none, none, none, none, none] ∧ RS K C H H' a c (n + 16) p x lf pr ns lv prs ∧ H' hd = some (.lst us) ∧ All2 (PrL hd H') us prs ∧ H' du = some (.lst (iv (ns.map (Fr.ren prs)))), ?_, ?_⟩
    · obtain ⟨ws, hpr8, hu⟩ := R.pr
      have lw := hu.length
      have lg := g.len
      refine put_lc rfl ?_
      refine ⟨_, rfl, pr, rfl, ⟨_, SqL.of hpr8⟩, ?_⟩
      refine lcM (walk_list (K := K) (a := pr) (xs := ws)) prs (fun D H v p => PrD K D H v p) (fun _ _ _ _ _ h s => h.same s) (fun _ _ _ _ _ _ hD h => h.put hD) (by omega) lw (fun H2 s2 => SqL.of (s2 _ _ hpr8)) ?_ (fun x σ1 H A B k h => gTup_mono k h) ?_
      · intro i y b hx hb D H2 hD ⟨us, hus⟩ s2 Qy ky
        obtain ⟨b', hb', r⟩ := hu.at hx
        rw [hb] at hb'
        obtain rfl := Option.some.inj hb'
        obtain ⟨q, rfl, hq⟩ := r.same s2
        refine ⟨q, _, rfl, hq, rfl, _, _, rfl, _, _, rfl, rfl, ?_⟩
        refine ⟨rfl, ?_⟩
        refine ⟨_, rfl, _, rfl, by show 1 ≤ sizeLine; decide, fun l hl => ⟨by show 2 ≤ sizeLine; decide, fun t ht => ?_⟩⟩
        have s3 := same_upd (o := .lst [.int b.2]) hl
        have s4 := same_upd (o := .tup [.int b.1, .ref l]) ht
        have gl : L2.upd H2 l (.lst [.int b.2]) l = some (.lst [.int b.2]) := upd_same
        exact ky _ _ (s3.trans s4) ⟨t, l, rfl, SqT.of upd_same, (ne_of_none hus hl).symm, s4 _ _ gl⟩
      intro D H2 ws2 hD s2 h2 r2
      obtain ⟨ps, kvs, rfl, p2, p3, p4⟩ := PrD.split r2
      refine ⟨D, ps, kvs, rfl, SqL.of h2, p2, fun d hd' => ?_⟩
      have sd := same_upd (o := .dK (mergeK [] kvs)) hd'
      have R2 := (R.same s2).same sd
      refine ⟨p, d, ns, gOf prs, rfl, R2.p, tab_pairs (K := K) (D := D) g.nd p3 (fun k => ⟨(p4 k).1, fun l hl => ?_⟩) upd_same ns, hl, by omega, ?_, fun z _ => by show 1 ≤ 1000; decide, fun du H3 hdu s3 h3 => ?_⟩
      · obtain ⟨r, e1, e2⟩ := (p4 k).2 l hl
        exact ⟨r, e1, sd _ _ e2⟩
      · rw [tab_ren, List.length_map]
        omega
      · rw [tab_ren] at h3
        refine at_set ?_
        have sA := (s2.trans sd).trans s3
        exact ⟨du, rfl, R.same sA, sA _ _ hhd, hus.imp fun _ _ r => r.same sA, h3⟩
    rintro σ HA ⟨du, rfl, R, hhd, hus, hdu⟩
    -- what is told
    have lts2 : Lts (ns.map (Fr.ren prs)) := ren_lts g.lett hl
    refine ⟨_, rfl, _, rfl, rfl, x, hd, ns, prs, rfl, R.w, by omega, hl, ⟨us, .inl (SqL.of hhd), hus.imp fun _ _ r => r.e⟩, g, fun tw HB sB WB_ => ?_⟩
    have R := R.same sB
    have hhd := sB _ _ hhd
    have hus := hus.imp fun _ _ r => PrL.same r sB
    have hdu := sB _ _ hdu
    refine at_set ?_
    try dsimp only
    refine ⟨fun σ' H' => σ' = [some (.ref a), some (.ref p), some (.ref x), some (.ref lf), some (.ref pr), v5, v6, some (.ref hd), some (.ref du), some (.ref tw), none, none, none, none] ∧ RS K C H H' a c (n + 16) p x lf pr ns lv prs ∧ WordAt K C H' tw (ns.map (Fr.ren prs)), ?_, ?_⟩
    · obtain ⟨ws, hprB, hu⟩ := R.pr
      refine ⟨_, rfl, _, _, _, _, _, rfl, .own C, WB_.tyx T, kit_self C, _, rfl, iteF ?_⟩
      obtain ⟨dx, tl, tk, kk, w1, w2, _⟩ := id WB_
      refine ⟨_, rfl, tw, C, dx, _, _, rfl, w1, T.cl, T.nL, wf_letters, tl, _, rfl, .inr w2.sq, fun l1 hl1 => ?_⟩
      have s1 := same_upd (o := .lst (iv (ns.map (Fr.ren prs)))) hl1
      refine ⟨_, rfl, _, _, .lst (SqL.of upd_same) (dp_iv _), .lst (SqL.of (s1 _ _ hdu)) (dp_iv _), PySem.W.ke_shaped_ints _, PySem.W.ke_shaped_ints _, _, rfl, ?_⟩
      refine no_ne (by rw [eqvL_ints, decide_eq_true rfl]) ?_
      have hpr1 := s1 _ _ hprB
      obtain ⟨H1, e1⟩ : ∃ H1, H1 = L2.upd HB l1 (.lst (iv (ns.map (Fr.ren prs)))) := ⟨_, rfl⟩
      rw [← e1] at s1 hpr1 ⊢
      refine ⟨_, rfl, _, rfl, pr, ws, rfl, SqL.of hpr1, fun rv hrv => ⟨rv, _, rfl, .inl ⟨SqL.of upd_same, fun tp htp => ?_⟩⟩⟩
      have s2 := same_upd (o := .lst ws.reverse) hrv
      have s3 := same_upd (o := .tup ws.reverse) htp
      have s123 := (s1.trans s2).trans s3
      have htp3 : SqT K (L2.upd (L2.upd H1 rv (.lst ws.reverse)) tp (.tup ws.reverse)) tp ws.reverse := SqT.of upd_same
      obtain ⟨H3, e3⟩ : ∃ H3, H3 = L2.upd (L2.upd H1 rv (.lst ws.reverse)) tp (.tup ws.reverse) := ⟨_, rfl⟩
      rw [← e3] at s123 htp3 ⊢
      have R3 := R.same s123
      refine ⟨x, tp, ns, prs.reverse, rfl, R3.w, by omega, hl, ⟨ws.reverse, .inr htp3, (hu.imp fun _ _ r => (r.same s123).e).rev⟩, g.rev, fun y H4 s4 W4 => ?_⟩
      have erev : ns.map (Fr.ren prs.reverse) = ns.map (Fr.ren prs) := List.map_congr_left fun z _ => ren_rev g z
      rw [erev] at W4
      have s14 := s123.trans s4
      refine ⟨_, rfl, y, tw, _, _, rfl, rfl, W4, WB_.same s14, _, rfl, no_ne (decide_eq_true rfl) ?_⟩
      have R4 := R.same s14
      have hpr4 := s14 _ _ hprB
      refine test_lc rfl ?_
      refine ⟨_, rfl, pr, rfl, ⟨_, SqL.of hpr4⟩, ?_⟩
      have lw := hu.length
      have lg := g.len
      refine lcM (walk_list (K := K) (a := pr) (xs := ws)) prs (fun D H v p => PrL D H v p) (fun _ _ _ _ _ h s => h.same s) (fun _ _ _ _ _ _ _ h => h.put) (by omega) lw (fun H2 s2 => SqL.of (s2 _ _ hpr4)) ?_ (fun x σ1 H A B k h => gName_mono k h) ?_
      · intro i y b hx hb D H2 hD ⟨us, hus⟩ s2 Qy ky
        obtain ⟨b', hb', r⟩ := hu.at hx
        rw [hb] at hb'
        obtain rfl := Option.some.inj hb'
        obtain ⟨q, rfl, hq⟩ := r.same (s14.trans s2)
        refine ⟨rfl, ?_⟩
        refine ⟨_, rfl, q, _, rfl, .inr hq, fun l hl => ?_⟩
        exact ky _ _ (same_upd hl) ⟨l, rfl, (ne_of_none hus hl).symm, upd_same⟩
      intro D H5 ws2 hD s5 h5 r5
      have sA := s14.trans s5
      refine ⟨LL (prs.map fun p => [p.1, p.2]), LL (prs.map fun p => [p.1, p.2]), .lst (SqL.of (sA _ _ hhd)) (PrL.dpA (D := hd) (hus.imp fun _ _ r => r.same sA)), .lst (SqL.of h5) (PrL.dpA r5), shapedLL _, shapedLL _, _, rfl, ?_⟩
      refine no_ne (eqvLL_self _) ?_
      exact ⟨rfl, R.same sA, WB_.same sA⟩
    rintro σ HC ⟨rfl, R, Wt⟩
    clear hus hhd hdu WB_
    -- contraries, shortened
    refine ⟨fun σ' H' => σ' = [some (.ref a), some (.ref p), some (.ref x), some (.ref lf), some (.ref pr), v5, v6, some (.ref hd), some (.ref du), some (.ref tw), none, none, none, none] ∧ RS K C H H' a c (n + 16) p x lf pr ns lv prs, ?_, ?_⟩
    · have lc := hl.con
      have lm : (ns.map (Fr.ren prs)).length ≤ 100 := by rw [List.length_map]; exact hlen
      obtain ⟨dx, fs, h1, h2⟩ := R.w.no nm1
      refine ⟨_, rfl, x, dx, fs, rfl, h1, h2, x, ns, rfl, R.w, by omega, hl, fun y1 H1 s1 W1 => ?_⟩
      have R1 := R.same s1
      refine ⟨_, rfl, y1, pr, _, prs, rfl, W1, by rw [Fr.con_length]; omega, lc, R1.pairs, g, fun y2 H2 s2 W2 => ?_⟩
      have Wt2 := Wt.same (s1.trans s2)
      obtain ⟨dx, fs, h1, h2⟩ := Wt2.no nm1
      refine ⟨_, rfl, tw, dx, fs, rfl, h1, h2, tw, _, rfl, Wt2, by omega, lts2, fun y3 H3 s3 W3 => ?_⟩
      refine ⟨y2, y3, _, _, rfl, rfl, W2.same s3, W3, _, rfl, no_ne (decide_eq_true (map_con (fun z hz => Fr.ren_odd prs hz) hl.nz)) ?_⟩
      have R3 := (R1.same s2).same s3
      have Wt3 := Wt2.same s3
      -- shortened
      obtain ⟨dx, fs, h1, h2⟩ := R3.w.no nm2
      refine ⟨_, rfl, x, dx, fs, rfl, h1, h2, x, ns, rfl, R3.w, by omega, hl, fun y4 H4 s4 W4 => ?_⟩
      have R4 := R3.same s4
      have nsh := shr_len ns
      refine ⟨_, rfl, y4, pr, _, prs, rfl, W4, by omega, hl.shr, R4.pairs, g, fun y5 H5 s5 W5 => ?_⟩
      obtain ⟨dx, fs, h1, h2⟩ := W5.no nm2
      refine ⟨y5, dx, fs, rfl, h1, h2, y5, _, rfl, W5, by rw [List.length_map]; omega, ren_lts g.lett hl.shr, fun y6 H6 s6 W6 => ?_⟩
      have Wt6 := ((Wt3.same s4).same s5).same s6
      obtain ⟨dx, fs, h1, h2⟩ := Wt6.no nm2
      refine ⟨_, rfl, tw, dx, fs, rfl, h1, h2, tw, _, rfl, Wt6, by omega, lts2, fun y7 H7 s7 W7 => ?_⟩
      refine ⟨y6, y7, _, _, rfl, rfl, W6.same s7, W7, _, rfl, no_ne (decide_eq_true (map_shr (fun z hz => Fr.ren_odd prs hz) hl.nz)) ?_⟩
      have R7 := ((R4.same s5).same s6).same s7
      -- nothing told
      refine ⟨_, rfl, Nat.zero_le _, fun l8 hl8 => ?_⟩
      have s8 := same_upd (o := .lst []) hl8
      have R8 := R7.same s8
      refine ⟨x, l8, ns, [], rfl, R8.w, by omega, hl, ⟨[], .inl (SqL.of upd_same), .nil⟩, ⟨by decide, fun _ h => (nomatch h), fun _ h => (nomatch h), .nil⟩, fun y9 H9 s9 W9 => ?_⟩
      have R9 := R8.same s9
      refine ⟨_, rfl, y9, x, _, _, rfl, rfl, W9, R9.w, _, rfl, no_ne (decide_eq_true ?_) ?_⟩
      · have : ∀ z ∈ ns, Fr.ren [] z = id z := fun z _ => by
          unfold Fr.ren
          rw [Fr.told_nil, Fr.told_nil]
          split
          · rfl
          · exact Int.neg_neg z
        rw [List.map_congr_left this, List.map_id]
      · exact ⟨rfl, R9⟩
    rintro σ HD ⟨rfl, R⟩
    clear Wt
    -- four kinds, each with a letter that is left
    refine ⟨fun σ' H' => ∃ (wh : Addr) (us : List V) (whl : List (Int × Int)), σ' = [some (.ref a), some (.ref p), some (.ref x), some (.ref lf), some (.ref pr), v5, v6, some (.ref hd), some (.ref du), some (.ref tw), some (.ref wh), none, none, none] ∧ RS K C H H' a c (n + 20) p x lf pr ns lv prs ∧ H' wh = some (.lst us) ∧ All2 (PrT K H') us whl ∧
      whl.map (fun p => (p.1, (p.2.natAbs : Int))) = (List.range 4).map (fun (i : Nat) => ((1 : Int) + (i : Nat), lv.getD (1 + i) 0)), ?_, ?_⟩
    · refine as_lc ?_
      refine ⟨1, 5, rfl, by decide, fun D hD => ?_⟩
      have Da := R.d.1.ne hD
      have Dc := R.d.1.neC hD
      refine lc_range (lo := 1) (n := ((5 : Int) - 1).toNat) (fun i H' => RS K C H H' a c (n + 16 + i) p x lf pr ns lv prs ∧ ∃ (us : List V) (whl : List (Int × Int)), H' D = some (.lst us) ∧ us.length = i ∧ All2 (PrT K H') us whl ∧ whl.map (fun p => (p.1, (p.2.natAbs : Int))) = (List.range i).map (fun (i : Nat) => ((1 : Int) + (i : Nat), lv.getD (1 + i) 0)))
        ⟨R.same (same_upd hD), [], [], upd_same, rfl, .nil, rfl⟩ ?_ ?_
      · rintro i H1 hi ⟨R1, us, whl, hus, lus, hu, hw⟩
        have hi4 : i < 4 := hi
        refine ⟨rfl, yes_te ?_⟩
        refine ⟨_, rfl, _, rfl, _, rfl, by show 2 ≤ sizeLine; decide, fun q hq => ?_⟩
        have s2 := same_upd (o := .lst [.int (-1), .int 1]) hq
        have R2 := R1.same s2
        refine ⟨a, c, q, _, n + 16 + i, rfl, R2.d.1, by omega, R1.d.1.ne hq, upd_same, by show 0 < 2; decide, by show 2 ≤ 1000; decide, fun v hv H3 d3 => ?_⟩
        obtain ⟨e, rfl, he⟩ : ∃ e : Int, v = .int e ∧ (e = -1 ∨ e = 1) := by
          simp only [List.mem_cons, List.mem_nil_iff, or_false] at hv
          rcases hv with rfl | rfl
          · exact ⟨_, rfl, .inl rfl⟩
          · exact ⟨_, rfl, .inr rfl⟩
        have R3 := R2.drew d3
        have hus3 := d3.2 _ _ Da (s2 _ _ hus)
        have hu3 := hu.imp fun _ _ r => (PrT.same r s2).drew R2.d.1 d3
        have hlt : 1 + i < lv.length := by omega
        have hz := rl lv[1 + i] (List.getElem_mem hlt)
        have hix : atI (iv lv) ((1 : Int) + (i : Nat)) = some (V.int lv[1 + i]) := by
          have : (1 : Int) + (i : Nat) = ((1 + i : Nat) : Int) := by omega
          rw [this]
          exact atI_nat (iv_get (List.getElem?_eq_getElem hlt))
        refine ⟨_, rfl, _, rfl, lf, iv lv, _, _, rfl, rfl, SqL.of R3.lf, hix, _, _, rfl, rfl, .inl ⟨by omega, by omega⟩, by show 2 ≤ sizeLine; decide, fun t ht => ?_⟩
        have s4 := same_upd (o := .tup [.int (1 + (i : Nat)), .int (e * lv[1 + i])]) ht
        have R4 := R3.same s4
        have hus4 := s4 _ _ hus3
        have nD : H D = none := by
          cases eD : H D with
          | none => rfl
          | some o =>
            have := R.d.2 _ _ Da eD
            rw [hD] at this
            cases this
        refine ⟨us, hus4, Evl.sz_lt (by omega), ?_, us ++ [.ref t], whl ++ [((1 : Int) + (i : Nat), e * lv[1 + i])], upd_same, by rw [List.length_append, lus]; rfl, ?_, ?_⟩
        · obtain ⟨ws, g1, g2⟩ := R4.pr
          have ne : ∀ {q : Addr} {o : HO}, H q = some o → q ≠ D := fun h => ne_of_none h nD
          have nlf : lf ≠ D := (ne_of_none R.lf hD)
          have npr : pr ≠ D := by
            obtain ⟨ws, g1, _⟩ := R.pr
            exact ne_of_none g1 hD
          refine ⟨R4.d.put nD Da Dc, hpa, by rw [upd_ne (ne hp)]; exact R4.p, ?_, R4.la, by rw [upd_ne nlf]; exact R4.lf, R4.ra, ws, by rw [upd_ne npr]; exact g1, g2.imp fun _ _ r => PrT.put hus4 r⟩
          obtain ⟨dx, tl, tk, us', w1, w2, w3, w4⟩ := R4.w
          refine ⟨dx, tl, tk, us', by rw [upd_ne (fun z => by rw [z, hus4] at w1; cases w1)]; exact w1, ⟨SqT.keptL hus4 Kept.upd w2.sq, fun ne => ?_⟩, SqT.keptL hus4 Kept.upd w3, w4⟩
          obtain ⟨o, u, e, dn⟩ := w2.bare ne
          exact ⟨o, u, by rw [upd_ne (fun z => by rw [z, hus4] at e; cases e)]; exact e, dn⟩
        · exact All2.app (hu3.imp fun _ _ r => PrT.put hus4 (r.same s4)) (.cons (PrT.put hus4 (p := ((1 : Int) + (i : Nat), e * lv[1 + i])) ⟨t, rfl, SqT.of upd_same⟩) .nil)
        · rw [List.map_append, hw, List.range_succ, List.map_append]
          congr 1
          show [((1 : Int) + (i : Nat), (((e * lv[1 + i]).natAbs : Nat) : Int))] = [((1 : Int) + (i : Nat), lv.getD (1 + i) 0)]
          have e2 : ((e * lv[1 + i]).natAbs : Int) = lv.getD (1 + i) 0 := by
            rw [List.getD_eq_getElem?_getD, List.getElem?_eq_getElem hlt]
            show _ = lv[1 + i]
            rcases he with rfl | rfl
            · rw [Int.neg_one_mul, Int.natAbs_neg]; omega
            · rw [Int.one_mul]; omega
          rw [e2]
      · rintro H1 ⟨R1, us, whl, hus, lus, hu, hw⟩
        refine at_set ?_
        exact ⟨D, us, whl, rfl, ⟨R1.d.mono (show n + 16 + ((5 : Int) - 1).toNat ≤ n + 20 from Nat.le_refl _), R1.pa, R1.p, R1.w, R1.la, R1.lf, R1.ra, R1.pr⟩, hus, hu, hw⟩
    rintro σ HE ⟨wh, us, whl, rfl, R, hwh, hus, hwl⟩
    have lwl : whl.length = 4 := by
      have := congrArg List.length hwl
      rw [List.length_map, List.length_map, List.length_range] at this
      exact this
    have hwm : ∀ b ∈ whl, ∃ i : Nat, i < 4 ∧ b.1 = 1 + (i : Int) ∧ (b.2.natAbs : Int) = lv.getD (1 + i) 0 := fun b hb => by
      have h : (b.1, (b.2.natAbs : Int)) ∈ whl.map (fun p => (p.1, (p.2.natAbs : Int))) := List.mem_map.mpr ⟨b, hb, rfl⟩
      rw [hwl] at h
      obtain ⟨i, hi, e⟩ := List.mem_map.mp h
      injection e with e1 e2
      exact ⟨i, List.mem_range.mp hi, e1.symm, e2.symm⟩
    have hget : ∀ i : Nat, i < 4 → 1 ≤ lv.getD (1 + i) 0 ∧ lv.getD (1 + i) 0 ≤ 26 := fun i hi => by
      have hlt : 1 + i < lv.length := by omega
      rw [List.getD_eq_getElem?_getD, List.getElem?_eq_getElem hlt]
      exact rl _ (List.getElem_mem hlt)
    have gw : GoodP whl := by
      refine ⟨by omega, fun b hb => ?_, fun b hb => ?_, ?_⟩
      · obtain ⟨i, hi, e1, _⟩ := hwm b hb
        omega
      · obtain ⟨i, hi, _, e2⟩ := hwm b hb
        have := hget i hi
        omega
      · have e : whl.map (·.1) = (whl.map (fun p => (p.1, (p.2.natAbs : Int)))).map (·.1) := by rw [List.map_map]; rfl
        rw [e, hwl, List.map_map]
        exact List.Pairwise.map _ (fun u v n e => n (by have e : (1 : Int) + (u : Nat) = 1 + (v : Nat) := e; omega)) List.nodup_range
    have nb : ((whl.map backP).map (·.1)).Nodup := by
      have e : (whl.map backP).map (·.1) = (whl.map (fun p => (p.1, (p.2.natAbs : Int)))).map (·.2) := by rw [List.map_map, List.map_map]; rfl
      rw [e, hwl, List.map_map]
      refine List.pairwise_map.mpr (List.nodup_range.imp_of_mem fun {u v} hu hv n e => ?_)
      have hu := List.mem_range.mp hu
      have hv := List.mem_range.mp hv
      have e : lv.getD (1 + u) 0 = lv.getD (1 + v) 0 := e
      have h1 : 1 + u < lv.length := by omega
      have h2 : 1 + v < lv.length := by omega
      rw [List.getD_eq_getElem?_getD, List.getElem?_eq_getElem h1, List.getD_eq_getElem?_getD, List.getElem?_eq_getElem h2] at e
      have e : lv[1 + u] = lv[1 + v] := e
      rcases Nat.lt_or_gt_of_ne n with h | h
      · exact List.pairwise_iff_getElem.mp ndl (1 + u) (1 + v) h1 h2 (by omega) e
      · exact List.pairwise_iff_getElem.mp ndl (1 + v) (1 + u) h2 h1 (by omega) e.symm
    have gb : GoodP (whl.map backP) := by
      refine ⟨by rw [List.length_map]; omega, fun b hb => ?_, fun b hb => ?_, nb⟩
      · obtain ⟨b0, hb0, rfl⟩ := List.mem_map.mp hb
        have := gw.lett b0 hb0
        show 1 ≤ (b0.2.natAbs : Int) ∧ (b0.2.natAbs : Int) ≤ 26
        omega
      · obtain ⟨b0, hb0, rfl⟩ := List.mem_map.mp hb
        have := gw.kind b0 hb0
        show 1 ≤ (if 0 < b0.2 then b0.1 else -b0.1).natAbs ∧ (if 0 < b0.2 then b0.1 else -b0.1).natAbs ≤ 26
        split <;> omega
    have hback : (ns.map (Fr.ren whl)).map (Fr.ren (whl.map backP)) = ns := by
      rw [List.map_map]
      have : ∀ z ∈ ns, (Fr.ren (whl.map backP) ∘ Fr.ren whl) z = id z := fun z hz => by
        refine ren_back (fun b hb => ?_) nb ?_
        · have h1 := gw.kind b hb
          have h2 := gw.lett b hb
          exact ⟨by omega, fun e => by rw [e] at h2; simp at h2⟩
        · have h := h4 z hz
          have hm : ((z.natAbs : Int), lv.getD (1 + (z.natAbs - 1)) 0) ∈ whl.map (fun p => (p.1, (p.2.natAbs : Int))) := by
            rw [hwl]
            refine List.mem_map.mpr ⟨z.natAbs - 1, List.mem_range.mpr (by omega), ?_⟩
            have : (1 : Int) + ((z.natAbs - 1 : Nat) : Int) = (z.natAbs : Int) := by omega
            rw [this]
          obtain ⟨b, hb, e⟩ := List.mem_map.mp hm
          injection e with e1 e2
          exact ⟨b.2, Fr.told_in gw.nd (by rw [← e1]; exact hb)⟩
      rw [List.map_congr_left this, List.map_id]
    -- the way back
    refine ⟨fun σ' H' => ∃ (bk : Addr) (us2 : List V), σ' = [some (.ref a), some (.ref p), some (.ref x), some (.ref lf), some (.ref pr), v5, v6, some (.ref hd), some (.ref du), some (.ref tw), some (.ref wh), some (.ref bk), none, none] ∧ RS K C H H' a c (n + 20) p x lf pr ns lv prs ∧ H' wh = some (.lst us) ∧ All2 (PrT K H') us whl ∧
      H' bk = some (.lst us2) ∧ All2 (PrT K H') us2 (whl.map backP), ?_, ?_⟩
    · have lu := hus.length
      refine as_lc ?_
      refine ⟨_, rfl, wh, rfl, ⟨_, SqL.of hwh⟩, ?_⟩
      refine lcM (walk_list (K := K) (a := wh) (xs := us)) (whl.map backP) (fun D H v p => PrT K H v p) (fun _ _ _ _ _ h s => h.same s) (fun _ _ _ _ _ _ hD h => PrT.put hD h) (by omega) (by rw [List.length_map]; exact lu) (fun H2 s2 => SqL.of (s2 _ _ hwh)) ?_ (fun x σ1 H A B k h => gTup_mono k h) ?_
      · intro i y b hx hb D H2 hD ⟨us', hus'⟩ s2 Qy ky
        obtain ⟨b0, hb0, r⟩ := hus.at hx
        rw [List.getElem?_map, hb0] at hb
        obtain rfl := Option.some.inj hb
        obtain ⟨q, rfl, hq⟩ := r.same s2
        refine ⟨q, _, rfl, hq, rfl, _, _, rfl, _, _, rfl, rfl, ?_⟩
        refine ⟨rfl, ?_⟩
        refine ⟨_, rfl, b0.2, rfl, _, rfl, _, _, rfl, rfl, _, rfl, ?_⟩
        refine ite2 (fun hp2 => ?_) (fun hp2 => ?_)
        · have hp2 : 0 < b0.2 := of_decide_eq_true hp2
          refine ⟨_, rfl, by show 2 ≤ sizeLine; decide, fun t ht => ky _ _ (same_upd ht) ⟨t, rfl, ?_⟩⟩
          rw [abs_nat]
          have : backP b0 = ((b0.2.natAbs : Int), b0.1) := by unfold backP; rw [if_pos hp2]
          rw [this]
          exact SqT.of upd_same
        · have hp2 : ¬ 0 < b0.2 := fun z => hp2 (decide_eq_true z)
          refine ⟨_, rfl, _, rfl, by show 2 ≤ sizeLine; decide, fun t ht => ky _ _ (same_upd ht) ⟨t, rfl, ?_⟩⟩
          rw [abs_nat]
          have : backP b0 = ((b0.2.natAbs : Int), -b0.1) := by unfold backP; rw [if_neg hp2]
          rw [this]
          exact SqT.of upd_same
      intro D H2 ws2 hD s2 h2 r2
      refine at_set ?_
      exact ⟨D, ws2, rfl, R.same s2, s2 _ _ hwh, hus.imp fun _ _ r => r.same s2, h2, r2⟩
    rintro σ HF ⟨bk, us2, rfl, R, hwh, hus, hbk, hus2⟩
    refine ⟨fun σ' H' => σ' = [some (.ref a), some (.ref p), some (.ref x), some (.ref lf), some (.ref pr), v5, v6, some (.ref hd), some (.ref du), some (.ref tw), some (.ref wh), some (.ref bk), none, none] ∧ RS K C H H' a c (n + 20) p x lf pr ns lv prs, ?_, ?_⟩
    · refine ⟨_, rfl, lf, _, rfl, .inl (SqL.of R.lf), _, _, rfl, rfl, _, rfl, ?_⟩
      refine iteF' (decide_eq_false (by rw [List.length_map]; omega)) ?_
      refine ⟨_, rfl, _, rfl, x, wh, ns, whl, rfl, R.w, by omega, hl, ⟨us, .inl (SqL.of hwh), hus.imp fun _ _ r => r.e⟩, gw, fun y1 H1 s1 W1 => ?_⟩
      refine ⟨_, rfl, y1, bk, _, _, rfl, W1, by rw [List.length_map]; omega, ren_lts gw.lett hl, ⟨us2, .inl (SqL.of (s1 _ _ hbk)), hus2.imp fun _ _ r => (r.same s1).e⟩, gb, fun y2 H2 s2 W2 => ?_⟩
      have R2 := (R.same s1).same s2
      refine ⟨_, rfl, y2, x, _, _, rfl, rfl, W2, R2.w, _, rfl, no_ne (decide_eq_true hback) ?_⟩
      exact ⟨rfl, R2⟩
    rintro σ HG ⟨rfl, R⟩
    -- one letter for two kinds
    refine ⟨_, rfl, _, rfl, by show 3 ≤ sizeLine; decide, fun q hq => ?_⟩
    have s1 := same_upd (o := .lst [.int (-2), .int 2, .int 5]) hq
    have R1 := R.same s1
    refine ⟨a, c, q, _, n + 20, rfl, R1.d.1, by omega, R.d.1.ne hq, upd_same, by show 0 < 3; decide, by show 3 ≤ 1000; decide, fun v hv H2 d2 => ?_⟩
    obtain ⟨e, rfl, he⟩ : ∃ e : Int, v = .int e ∧ (1 ≤ e.natAbs ∧ e.natAbs ≤ 26) := by
      simp only [List.mem_cons, List.mem_nil_iff, or_false] at hv
      rcases hv with rfl | rfl | rfl
      · exact ⟨_, rfl, by decide⟩
      · exact ⟨_, rfl, by decide⟩
      · exact ⟨_, rfl, by decide⟩
    have R2 := R1.drew d2
    refine at_set ?_
    try dsimp only
    have gg : GoodP [((1 : Int), e), (3, e)] := ⟨by show 2 ≤ 30; decide, fun b hb => by
      simp only [List.mem_cons, List.mem_nil_iff, or_false] at hb
      rcases hb with rfl | rfl
      · show (1 : Int) ≤ 1 ∧ (1 : Int) ≤ 26; decide
      · show (1 : Int) ≤ 3 ∧ (3 : Int) ≤ 26; decide, fun b hb => by
      simp only [List.mem_cons, List.mem_nil_iff, or_false] at hb
      rcases hb with rfl | rfl <;> exact he, by show [(1 : Int), 3].Nodup; decide⟩
    refine ⟨_, rfl, _, rfl, by show 2 ≤ sizeLine; decide, fun t1 ht1 => ⟨_, rfl, by show 2 ≤ sizeLine; decide, fun l1 hl1 => ⟨by show 2 ≤ sizeLine; decide, fun t2 ht2 => ?_⟩⟩⟩
    have s3 := same_upd (o := .tup [.int 1, .int e]) ht1
    have g3 : L2.upd H2 t1 (.tup [.int 1, .int e]) t1 = some (.tup [.int 1, .int e]) := upd_same
    have s4 := same_upd (o := .lst [.int 3, .int e]) hl1
    have g4 : L2.upd (L2.upd H2 t1 (.tup [.int 1, .int e])) l1 (.lst [.int 3, .int e]) l1 = some (.lst [.int 3, .int e]) := upd_same
    have s5 := same_upd (o := .tup [.ref t1, .ref l1]) ht2
    have R5 := ((R2.same s3).same s4).same s5
    refine ⟨x, t2, ns, [(1, e), (3, e)], rfl, R5.w, by omega, hl, ⟨[.ref t1, .ref l1], .inr (SqT.of upd_same), .cons ⟨t1, rfl, .inr (SqT.of ((s4.trans s5) _ _ g3))⟩ (.cons ⟨l1, rfl, .inl (SqL.of (s5 _ _ g4))⟩ .nil)⟩, gg, fun y H6 s6 W6 => ?_⟩
    have R6 := R5.same s6
    obtain ⟨dx, tl, tk, kk, w1, w2, _⟩ := id W6
    refine ⟨y, C, dx, _, _, rfl, w1, T.cl, T.nL, wf_letters, tl, _, rfl, .inr w2.sq, fun l7 hl7 => ?_⟩
    have s7 := same_upd (o := .lst (iv (ns.map (Fr.ren [(1, e), (3, e)])))) hl7
    have g7 : L2.upd H6 l7 (.lst (iv (ns.map (Fr.ren [(1, e), (3, e)])))) l7 = some (.lst (iv (ns.map (Fr.ren [(1, e), (3, e)])))) := upd_same
    obtain ⟨H7, e7⟩ : ∃ H7, H7 = L2.upd H6 l7 (.lst (iv (ns.map (Fr.ren [(1, e), (3, e)])))) := ⟨_, rfl⟩
    rw [← e7] at s7 g7 ⊢
    have R7 := R6.same s7
    refine ⟨_, rfl, fun d hd8 => ?_⟩
    have s8 := same_upd (o := .dK []) hd8
    refine ⟨_, rfl, by show 1 ≤ sizeLine; decide, fun m1 hm1 => ?_⟩
    have s9 := same_upd (o := .lst [.int e]) hm1
    refine ⟨_, rfl, by show 1 ≤ sizeLine; decide, fun m2 hm2 => ?_⟩
    have sA := same_upd (o := .lst [.int e]) hm2
    have s9A := s9.trans sA
    have nm1d : m1 ≠ d := (ne_of_none (upd_same (H := H7) (a := d) (o := .dK [])) hm1).symm
    have nm2d : m2 ≠ d := (ne_of_none (s9 _ _ (upd_same (H := H7) (a := d) (o := .dK []))) hm2).symm
    have gd := s9A _ _ (upd_same (H := H7) (a := d) (o := .dK []))
    have gm1 := sA _ _ (upd_same (H := L2.upd H7 d (.dK [])) (a := m1) (o := .lst [.int e]))
    have gm2 : L2.upd (L2.upd (L2.upd H7 d (.dK [])) m1 (.lst [.int e])) m2 (.lst [.int e]) m2 = some (.lst [.int e]) := upd_same
    have s8A := s8.trans s9A
    obtain ⟨HB, eB⟩ : ∃ HB, HB = L2.upd (L2.upd (L2.upd H7 d (.dK [])) m1 (.lst [.int e])) m2 (.lst [.int e]) := ⟨_, rfl⟩
    rw [← eB] at s8A gd gm1 gm2 ⊢
    refine ⟨gd, [(Sum.inl 1, .ref m1), (Sum.inl 3, .ref m2)], rfl, by show 2 ≤ 15; decide, ?_⟩
    have sC : Same H7 (L2.upd HB d (.dK (mergeK [] [((Sum.inl 1 : Key), V.ref m1), (Sum.inl 3, .ref m2)]))) := fun b u e => by
      rw [upd_ne (ne_of_none e hd8)]
      exact s8A _ _ e
    have R8 := R7.same sC
    have htab : TabL (L2.upd HB d (.dK (mergeK [] [((Sum.inl 1 : Key), V.ref m1), (Sum.inl 3, .ref m2)]))) d (gOf [(1, e), (3, e)]) ns := by
      refine tab_pairs (K := K) (D := d) gg.nd rfl (fun k => ?_) upd_same ns
      have f1 : L2.upd HB d (.dK (mergeK [] [((Sum.inl 1 : Key), V.ref m1), (Sum.inl 3, .ref m2)])) m1 = some (.lst [.int e]) := by rw [upd_ne nm1d]; exact gm1
      have f2 : L2.upd HB d (.dK (mergeK [] [((Sum.inl 1 : Key), V.ref m1), (Sum.inl 3, .ref m2)])) m2 = some (.lst [.int e]) := by rw [upd_ne nm2d]; exact gm2
      rw [Fr.told_cons, Fr.told_cons, Fr.told_nil]
      by_cases k1 : (1 : Int) = k
      · rw [if_pos k1, valV_pos (by rw [k1])]
        exact ⟨(fun z => nomatch z), fun l hl => ⟨m1, rfl, by obtain rfl := Option.some.inj hl; exact f1⟩⟩
      · rw [if_neg k1, valV_neg (fun z => k1 (by injection z))]
        by_cases k3 : (3 : Int) = k
        · rw [if_pos k3, valV_pos (by rw [k3])]
          exact ⟨(fun z => nomatch z), fun l hl => ⟨m2, rfl, by obtain rfl := Option.some.inj hl; exact f2⟩⟩
        · rw [if_neg k3, valV_neg (fun z => k3 (by injection z))]
          exact ⟨fun _ => rfl, fun l hl => nomatch hl⟩
    refine ⟨p, d, ns, gOf [(1, e), (3, e)], rfl, R8.p, htab, hl, by omega, by rw [tab_ren, List.length_map]; omega, fun z _ => by show 1 ≤ 1000; decide, fun lz HZ _ sZ gZ => ?_⟩
    rw [tab_ren] at gZ
    refine ⟨_, _, .lst (SqL.of ((sC.trans sZ) _ _ g7)) (dp_iv _), .lst (SqL.of gZ) (dp_iv _), PySem.W.ke_shaped_ints _, PySem.W.ke_shaped_ints _, ?_⟩
    rw [eqvL_ints, decide_eq_true rfl]
    exact k HZ ((R8.same sZ).d.mono (by omega))
end
end W09
set_option Elab.async false
set_option linter.all false
set_option maxRecDepth 100000
set_option maxHeartbeats 1000000
namespace W09
open PySem L2 PySem.Spec PyProof.Rows WR WB
abbrev sPutR : Stmt := top 60
def spPutR : Sp := fun vs H Q _ => ∃ (a c p q : Addr) (ns ms : List Int) (n : Nat), vs = [.ref a, .ref p, .ref q] ∧ HandAt H a c n ∧ p ≠ a ∧ q ≠ a ∧ H p = some (.lst (iv ns)) ∧ H q = some (.lst (iv ms)) ∧ ns.length ≤ 30 ∧ ms.length ≤ 4 ∧ Lts ns ∧ Lts ms ∧ n ≤ 7500 ∧ ∀ H', Drew a c (n + 1) H H' → Q (.bl true) H'
abbrev nPutR : List Str := ["_law_jar_here", "_law_letters_here", "_law_others", "_law_word", "_law_other", "_law_kind", "_law_due", "_law_told", "_law_short"]
theorem put_len {k : Int} {ms ns : List Int} (hm : ms.length ≤ 4) : (Fr.sub (Fr.putF k ms) ns).length ≤ ns.length * 4 := by
  refine Fr.sub_length fun x _ => ?_
  have := putF_len (k := k) (ms := ms) (x := x)
  omega
theorem putF_sm {k : Int} {us vs : List Int} (h : Fr.Sm us vs) (x : Int) : Fr.Sm (Fr.putF k us x) (Fr.putF k vs x) := by
  unfold Fr.putF
  by_cases h1 : x = k
  · rw [if_pos h1, if_pos h1]; exact h
  · rw [if_neg h1, if_neg h1]
    by_cases h2 : x = -k
    · rw [if_pos h2, if_pos h2]; exact h.con
    · rw [if_neg h2, if_neg h2]; exact Fr.Sm.refl _
theorem putF_self {k x : Int} : Fr.putF k [k] x = [x] := by
  unfold Fr.putF
  by_cases h1 : x = k
  · rw [if_pos h1, h1]
  · rw [if_neg h1]
    by_cases h2 : x = -k
    · rw [if_pos h2, h2]; rfl
    · rw [if_neg h2]
theorem putF_neg {k x : Int} (hk : 0 < k) : Fr.putF k [-k] x = [Fr.ren [(k, -k)] x] := by
  unfold Fr.putF Fr.ren
  rw [Fr.told_cons, Fr.told_cons, Fr.told_nil, Fr.told_nil]
  by_cases h1 : x = k
  · rw [if_pos h1, if_pos (by omega), if_pos h1.symm]; rfl
  · rw [if_neg h1]
    by_cases h2 : x = -k
    · rw [if_pos h2, if_neg (by omega), if_pos (by omega)]; rfl
    · rw [if_neg h2, if_neg (show ¬ k = x from fun z => h1 z.symm), if_neg (show ¬ k = -x by omega)]
      by_cases h3 : 0 < x
      · rw [if_pos h3]; rfl
      · rw [if_neg h3]
        show [x] = [- -x]
        rw [Int.neg_neg]
section
variable {P : Program} {w : World} {K : PySem.W.Frag} {mg : Str → Option Value} {base : Heap} {C : Addr}
theorem scPutR : FnScope nPutR ["_law_jar_here", "_law_letters_here", "_law_others"] (defScope sPutR) := ⟨rfl, rfl, rfl, by decide +kernel, rfl, by decide +kernel, by decide +kernel⟩
theorem ok_putR {f : Addr} {fd : FuncData} (F : Fun K "_law_put_right" "_law_put_right" sPutR f fd) (T : TxW K mg C) (W : AllW P w K mg base C) (N : LawC P w K mg base) : FnOk P w K mg base CX0 7 f fd ["_law_jar_here", "_law_letters_here", "_law_others"] spPutR := by
  refine F.ok scPutR (fun vs H Q E h => ?_) (fun cdv A outer s H vs Q E hr h => ?_)
  · obtain ⟨a, c, p, q, ns, ms, n, rfl, _⟩ := h
    rfl
  · obtain ⟨a, c, p, q, ns, ms, n, rfl, hH, hpa, hqa, hp, hq, ln, lm, hn, hm, hb, k⟩ := h
    refine ⟨_, pss_cons (ps_par3 (i := 3) (j := 4) (l := 5) (by rfl) scPutR.nd rfl rfl rfl (by decide) (by decide) (by decide) rfl rfl rfl (pa_cons (pe_word W.mkw T hr (by decide) (by rfl) (pa_cons (pv 1) pa_nil)) (pa_cons (pe_word W.mkw T hr (by decide) (by rfl) (pa_cons (pv 2) pa_nil)) (pa_cons (pe_op op_add pe_int (pe_cal N.draw hr (by decide) (by rfl) (pa_cons (pv 0) (pa_cons pe_int pa_nil)))) pa_nil))) (by rfl))
      (pss_cons (ps_set (i := 6) scPutR.nd rfl (Or.inl rfl) (pe_cal N.putL hr (by decide) (by rfl) (pa_cons (pv 1) (pa_cons (pe_disp (pps_cons (pv 5) (pv 2) pps_nil) (by rfl) (by rfl) (fun z => by cases z) (by decide)) pa_nil))))
      (pss_cons (ps_set (i := 7) scPutR.nd rfl (Or.inl rfl) (pe_calK W.putK hr (by decide) (by rfl) (pk_cons (pv 4) (pk_cons (pv 5) (pk_cons (pv 3) pk_nil)))))
      (pss_cons (ps_if (PW.pt (pw_or (pt_not (pt_val (pe_callB call_isi (by rfl) T.isin (by decide +kernel) (pa_cons (pv 7) (pa_cons (pe_glob (v := .ref C) (by rfl) T.mgW rfl) pa_nil)))))
          (pw_or (pt_cmpR (op_neD hr.units) (pe_callTy call_list_of (by rfl) N.list (by decide +kernel) (pa_cons (pe_fld (pv 7) rfl) pa_nil)) (pv 6) (nomark _))
          (pw_or (pt_cmpR (op_neW W.eq W.ne T.cm hr (by decide)) (pe_cal W.put hr (by decide) (by rfl) (pa_cons (pv 3) (pa_cons (pv 5) (pa_cons (pv 4) pa_nil)))) (pv 7) (nomark _))
          (pw_or1 (pt_cmpR (op_neD hr.units) (pe_fld (pv 3) rfl) (pe_callTy call_tuple_of (by rfl) N.tuple (by decide +kernel) (pa_cons (pv 1) pa_nil)) (nomark _))))))) (pss_one (ps_ret pe_bl)) pss_nil)
      (pss_cons (ps_set (i := 8) scPutR.nd rfl (Or.inl rfl) (pe_w0 W.sht T.cl hr (by decide) (pv 7)))
      (pss_cons (ps_if (PW.pt (pw_or (pt_cmpR (op_neW W.eq W.ne T.cm hr (by decide)) (pe_w0 W.sht T.cl hr (by decide) (pe_cal W.put hr (by decide) (by rfl) (pa_cons (pe_w0 W.sht T.cl hr (by decide) (pv 3)) (pa_cons (pv 5) (pa_cons (pv 4) pa_nil))))) (pv 8) (nomark _))
          (pw_or1 (pt_cmpR (op_neW W.eq W.ne T.cm hr (by decide)) (pe_w0 W.sht T.cl hr (by decide) (pe_cal W.put hr (by decide) (by rfl) (pa_cons (pv 3) (pa_cons (pv 5) (pa_cons (pe_w0 W.sht T.cl hr (by decide) (pv 4)) pa_nil))))) (pv 8) (nomark _))))) (pss_one (ps_ret pe_bl)) pss_nil)
      (pss_cons (ps_if (PW.pt (pw_or (pt_cmpR (op_neW W.eq W.ne T.cm hr (by decide)) (pe_cal W.put hr (by decide) (by rfl) (pa_cons (pe_w0 W.con T.cl hr (by decide) (pv 3)) (pa_cons (pv 5) (pa_cons (pv 4) pa_nil)))) (pe_w0 W.con T.cl hr (by decide) (pv 7)) (nomark _))
          (pw_or1 (pt_cmpR (op_neW W.eq W.ne T.cm hr (by decide)) (pe_cal W.put hr (by decide) (by rfl) (pa_cons (pe_w1 W.thn T.cl hr (by decide) (pv 3) (pa_cons (pv 3) pa_nil)) (pa_cons (pv 5) (pa_cons (pv 4) pa_nil)))) (pe_w1 W.thn T.cl hr (by decide) (pv 7) (pa_cons (pv 7) pa_nil)) (nomark _))))) (pss_one (ps_ret pe_bl)) pss_nil)
      (pss_one (ps_ret (pe_and (pe_cmpR (op_eqW W.eq hr (by decide)) (pe_cal W.put hr (by decide) (by rfl) (pa_cons (pv 3) (pa_cons (pv 5) (pa_cons (pe_word W.mkw T hr (by decide) (by rfl) (pa_cons (pe_lst (pa_cons (pv 5) pa_nil)) pa_nil)) pa_nil)))) (pv 3) (nomark _))
          (pe_one (pe_cmpR (op_eqW W.eq hr (by decide)) (pe_cal W.put hr (by decide) (by rfl) (pa_cons (pv 3) (pa_cons (pv 5) (pa_cons (pe_word W.mkw T hr (by decide) (by rfl) (pa_cons (pe_lst (pa_cons (pe_un un_neg (pv 5)) pa_nil)) pa_nil)) pa_nil)))) (pe_cal W.ren hr (by decide) (by rfl) (pa_cons (pv 3) (pa_cons (pe_lst (pa_cons (pe_tup (pa_cons (pv 5) (pa_cons (pe_un un_neg (pv 5)) pa_nil))) pa_nil)) pa_nil))) (nomark _)))))))))))), ?_⟩
    -- the two words and the kind
    refine ⟨_, rfl, fun x dx nx ndx _ => make_at nx ndx (.inl (SqL.of hp)) (by omega) hn fun H1 s1 W1 => ?_⟩
    refine ⟨_, rfl, fun y dy ny ndy _ => make_at ny ndy (.inl (SqL.of (s1 _ _ hq))) (by omega) hm fun H2 s2 W2 => ?_⟩
    have s12 := s1.trans s2
    refine ⟨_, rfl, a, c, 5, n, rfl, hH.same s12, by omega, by decide, by decide, fun H3 dd d0 d1 hH3 hK3 => ?_⟩
    have d3 : Drew a c (n + 1) H2 H3 := ⟨hH3, hK3⟩
    have Wx := (W1.same s2).drew (hH.same s12) d3
    have Wy := W2.drew (hH.same s12) d3
    have hp3 := hK3 _ _ hpa (s12 _ _ hp)
    have hq3 := hK3 _ _ hqa (s12 _ _ hq)
    have D3 : Drew a c (n + 1) H H3 := ((Drew.refl hH).same s12).trans d3
    obtain ⟨kd, ekd⟩ : ∃ kd : Int, kd = 1 + dd := ⟨_, rfl⟩
    have k1 : 1 ≤ kd := by omega
    have k2 : kd ≤ 26 := by omega
    have k0 : kd ≠ 0 := by omega
    refine ⟨_, _, rfl, rfl, _, _, _, rfl, ?_⟩
    dsimp only
    rw [← ekd]
    have o : Fr.Odd (Fr.putF kd ms) := Fr.putF_odd k0 ms
    have lp : ∀ us : List Int, us.length ≤ 60 → (Fr.sub (Fr.putF kd ms) us).length ≤ 240 := fun us hu => by
      have := put_len (k := kd) (ns := us) lm
      omega
    have lpn := lp ns (by omega)
    -- what is due
    refine ⟨_, rfl, fun d hd => ?_⟩
    have sd := same_upd (o := .dK []) hd
    refine ⟨_, rfl, _, rfl, upd_same, [(Sum.inl kd, .ref q)], rfl, by show 1 ≤ 15; decide, ?_⟩
    have sC : Same H3 (L2.upd (L2.upd H3 d (.dK [])) d (.dK (mergeK [] [((Sum.inl kd : Key), V.ref q)]))) := fun b u e => by
      rw [upd_ne (ne_of_none e hd)]
      exact sd _ _ e
    have gd : L2.upd (L2.upd H3 d (.dK [])) d (.dK (mergeK [] [((Sum.inl kd : Key), V.ref q)])) d = some (.dK [(Sum.inl kd, .ref q)]) := upd_same
    refine ⟨p, d, ns, _, rfl, sC _ _ hp3, tab_one gd (sC _ _ hq3) ns, hn, by omega, ?_, fun z _ => ?_, fun du H4 _ s4 g4 => ?_⟩
    · rw [tab_put k1 ms hn.nz]; omega
    · split
      · omega
      · show 1 ≤ 1000; decide
    rw [tab_put k1 ms hn.nz] at g4
    have s34 := sC.trans s4
    have Wx4 := Wx.same s34
    have Wy4 := Wy.same s34
    have hp4 := s34 _ _ hp3
    -- what is told
    refine at_set ?_
    try dsimp only
    refine ⟨_, rfl, _, rfl, _, rfl, rfl, x, y, kd, ns, ms, rfl, Wx4, Wy4, k1, k2, by omega, by omega, by omega, hn, hm, fun t H5 s5 Wt => ?_⟩
    have lpl : Lts (Fr.sub (Fr.putF kd ms) ns) := putF_lts hm hn
    have Wx5 := Wx4.same s5
    have Wy5 := Wy4.same s5
    refine at_set ?_
    try dsimp only
    refine ⟨_, rfl, _, _, _, _, _, rfl, .own C, Wt.tyx T, kit_self C, _, rfl, iteF ?_⟩
    obtain ⟨dx, tl, tk, kk, w1, w2, _⟩ := id Wt
    refine ⟨_, rfl, t, C, dx, _, _, rfl, w1, T.cl, T.nL, wf_letters, tl, _, rfl, .inr w2.sq, fun l6 hl6 => ?_⟩
    have s6 := same_upd (o := .lst (iv (Fr.sub (Fr.putF kd ms) ns))) hl6
    refine ⟨_, rfl, _, _, .lst (SqL.of upd_same) (dp_iv _), .lst (SqL.of (s6 _ _ (s5 _ _ g4))) (dp_iv _), PySem.W.ke_shaped_ints _, PySem.W.ke_shaped_ints _, _, rfl, ?_⟩
    refine no_ne (by rw [eqvL_ints, decide_eq_true rfl]) ?_
    have Wx6 := Wx5.same s6
    have Wy6 := Wy5.same s6
    have Wt6 := Wt.same s6
    refine ⟨_, rfl, _, rfl, _, rfl, x, y, kd, ns, ms, rfl, Wx6, Wy6, k1, k2, by omega, by omega, by omega, hn, hm, fun t7 H7 s7 W7 => ?_⟩
    have Wt7 := Wt6.same s7
    refine ⟨_, rfl, t7, t, _, _, rfl, rfl, W7, Wt7, _, rfl, no_ne (decide_eq_true rfl) ?_⟩
    have Wx7 := Wx6.same s7
    obtain ⟨dx, tl, tk, kk, w1, w2, _⟩ := id Wx7
    have s47 := (s5.trans s6).trans s7
    have hp7 := s47 _ _ hp4
    refine ⟨_, rfl, x, C, dx, _, _, rfl, w1, T.cl, T.nL, wf_letters, _, rfl, p, _, rfl, .inl ⟨SqL.of hp7, fun tp htp => ?_⟩⟩
    have s8 := same_upd (o := .tup (iv ns)) htp
    refine ⟨_, _, .tup (WR.Same.seqT s8 w2.sq) (dp_iv _), .tup (SqT.of upd_same) (dp_iv _), shaped_ints _, shaped_ints _, _, rfl, ?_⟩
    refine no_ne (by rw [eqv_ints, decide_eq_true rfl]) ?_
    have Wx8 := Wx7.same s8
    have Wy8 := (Wy6.same s7).same s8
    have Wt8 := Wt7.same s8
    have s38 := ((s34.trans s47).trans s8)
    have D8 := D3.same s38
    -- its short form
    obtain ⟨dx, fs, h1, h2⟩ := Wt8.no nm2
    refine ⟨_, rfl, t, dx, fs, rfl, h1, h2, t, _, rfl, Wt8, by omega, lpl, fun sh H9 s9 Ws => ?_⟩
    have Wx9 := Wx8.same s9
    have Wy9 := Wy8.same s9
    have Wt9 := Wt8.same s9
    refine at_set ?_
    try dsimp only
    have nsn := shr_len ns
    have nsm := shr_len ms
    obtain ⟨dx, fs, h1, h2⟩ := Wx9.no nm2
    refine ⟨_, rfl, x, dx, fs, rfl, h1, h2, x, ns, rfl, Wx9, by omega, hn, fun e1 I1 t1 V1 => ?_⟩
    have lq1 := lp (Fr.shr ns) (by omega)
    refine ⟨_, rfl, _, rfl, e1, y, kd, _, ms, rfl, V1, Wy9.same t1, k1, k2, by omega, by omega, by omega, hn.shr, hm, fun e2 I2 t2 V2 => ?_⟩
    obtain ⟨dx, fs, h1, h2⟩ := V2.no nm2
    refine ⟨e2, dx, fs, rfl, h1, h2, e2, _, rfl, V2, by omega, putF_lts hm hn.shr, fun e3 I3 t3 V3 => ?_⟩
    have t13 := (t1.trans t2).trans t3
    refine ⟨_, rfl, e3, sh, _, _, rfl, rfl, V3, Ws.same t13, _, rfl, no_ne (decide_eq_true (Fr.shr_of_sm (Fr.sub_shr o hn.nz))) ?_⟩
    have Wx10 := Wx9.same t13
    have Wy10 := Wy9.same t13
    have Ws10 := Ws.same t13
    have Wt10 := Wt9.same t13
    obtain ⟨dx, fs, h1, h2⟩ := Wy10.no nm2
    refine ⟨_, rfl, _, rfl, _, rfl, y, dx, fs, rfl, h1, h2, y, ms, rfl, Wy10, by omega, hm, fun e4 I4 t4 V4 => ?_⟩
    have lq4 := put_len (k := kd) (ns := ns) (ms := Fr.shr ms) (by omega)
    refine ⟨x, e4, kd, ns, _, rfl, Wx10.same t4, V4, k1, k2, by omega, by omega, by omega, hn, hm.shr, fun e5 I5 t5 V5 => ?_⟩
    obtain ⟨dx, fs, h1, h2⟩ := V5.no nm2
    refine ⟨e5, dx, fs, rfl, h1, h2, e5, _, rfl, V5, by omega, putF_lts hm.shr hn, fun e6 I6 t6 V6 => ?_⟩
    have t46 := (t4.trans t5).trans t6
    refine ⟨_, rfl, e6, sh, _, _, rfl, rfl, V6, Ws10.same t46, _, rfl, no_ne (decide_eq_true (Fr.shr_of_sm (Fr.sub_sm (fun z _ => putF_sm (Fr.sm_shr ms) z) hn.nz))) ?_⟩
    have Wx11 := Wx10.same t46
    have Wy11 := Wy10.same t46
    have Wt11 := Wt10.same t46
    -- its contrary, one behind the other
    obtain ⟨dx, fs, h1, h2⟩ := Wx11.no nm1
    refine ⟨_, rfl, x, dx, fs, rfl, h1, h2, x, ns, rfl, Wx11, by omega, hn, fun e7 J1 u1 V7 => ?_⟩
    have lcn : (Fr.con ns).length ≤ 30 := by rw [Fr.con_length]; exact ln
    have lq7 := lp (Fr.con ns) (by omega)
    refine ⟨_, rfl, _, rfl, e7, y, kd, _, ms, rfl, V7, Wy11.same u1, k1, k2, by omega, by omega, by omega, hn.con, hm, fun e8 J2 u2 V8 => ?_⟩
    have Wt12 := (Wt11.same u1).same u2
    obtain ⟨dx, fs, h1, h2⟩ := Wt12.no nm1
    refine ⟨_, rfl, t, dx, fs, rfl, h1, h2, t, _, rfl, Wt12, by omega, lpl, fun e9 J3 u3 V9 => ?_⟩
    have u13 := (u1.trans u2).trans u3
    refine ⟨e8, e9, _, _, rfl, rfl, V8.same u3, V9, _, rfl, no_ne (decide_eq_true (Fr.sub_con o hn.nz)) ?_⟩
    have Wx13 := Wx11.same u13
    have Wy13 := Wy11.same u13
    have Wt13 := Wt11.same u13
    obtain ⟨dx, fs, h1, h2⟩ := Wx13.no nm4
    refine ⟨_, rfl, x, dx, fs, rfl, h1, h2, _, rfl, x, x, ns, ns, rfl, Wx13, Wx13, by omega, hn, hn, fun f1 J4 u4 X1 => ?_⟩
    have ltt : (ns ++ ns).length ≤ 60 := by rw [List.length_append]; omega
    have lq10 := lp (ns ++ ns) ltt
    refine ⟨_, rfl, _, rfl, f1, y, kd, _, ms, rfl, X1, Wy13.same u4, k1, k2, by omega, by omega, by omega, hn.app hn, hm, fun f2 J5 u5 X2 => ?_⟩
    have Wt14 := (Wt13.same u4).same u5
    obtain ⟨dx, fs, h1, h2⟩ := Wt14.no nm4
    refine ⟨_, rfl, t, dx, fs, rfl, h1, h2, _, rfl, t, t, _, _, rfl, Wt14, Wt14, by omega, lpl, lpl, fun f3 J6 u6 X3 => ?_⟩
    have u46 := (u4.trans u5).trans u6
    refine ⟨f2, f3, _, _, rfl, rfl, X2.same u6, X3, _, rfl, no_ne (decide_eq_true (Fr.sub_app _ ns ns)) ?_⟩
    have Wx14 := Wx13.same u46
    -- the kind for itself, its contrary for it
    have lk : Lts [kd] := fun z hz => by
      rw [List.mem_singleton.mp hz]
      omega
    have lkn : Lts [-kd] := fun z hz => by
      rw [List.mem_singleton.mp hz, Int.natAbs_neg]
      omega
    refine ⟨_, rfl, _, rfl, _, rfl, by show 1 ≤ sizeLine; decide, fun l1 hl1 wx dx nx ndx _ => make_at (ms := [kd]) nx ndx (.inl (SqL.of upd_same)) (by show 1 ≤ 500; decide) lk fun L1 v1 Y1 => ?_⟩
    have vv1 := (same_upd (o := .lst [.int kd]) hl1).trans v1
    have eself : Fr.sub (Fr.putF kd [kd]) ns = ns := Fr.sub_id fun z _ => putF_self
    refine ⟨x, wx, kd, ns, [kd], rfl, Wx14.same vv1, Y1, k1, k2, by omega, by show 1 ≤ 500; decide, by rw [eself]; omega, hn, lk, fun g1 L2 v2 Y2 => ?_⟩
    have Wx15 := (Wx14.same vv1).same v2
    refine ⟨_, rfl, g1, x, _, _, rfl, rfl, Y2, Wx15, _, rfl, ?_⟩
    refine iteT' (decide_eq_true eself) ?_
    refine ⟨_, rfl, _, rfl, _, rfl, _, rfl, by show 1 ≤ sizeLine; decide, fun l2 hl2 wy dy ny ndy _ => make_at (ms := [-kd]) ny ndy (.inl (SqL.of upd_same)) (by show 1 ≤ 500; decide) lkn fun L3 v3 Y3 => ?_⟩
    have vv3 := (same_upd (o := .lst [.int (-kd)]) hl2).trans v3
    have eneg : Fr.sub (Fr.putF kd [-kd]) ns = ns.map (Fr.ren [(kd, -kd)]) := by
      rw [← Fr.sub_map]
      exact Fr.sub_congr fun z _ => putF_neg (by omega)
    have Wx16 := Wx15.same vv3
    refine ⟨x, wy, kd, ns, [-kd], rfl, Wx16, Y3, k1, k2, by omega, by show 1 ≤ 500; decide, by rw [eneg, List.length_map]; omega, hn, lkn, fun g2 L4 v4 Y4 => ?_⟩
    have Wx17 := Wx16.same v4
    refine ⟨_, rfl, _, rfl, _, rfl, _, rfl, by show 2 ≤ sizeLine; decide, fun t1 ht1 => ⟨by show 1 ≤ sizeLine; decide, fun l3 hl3 => ?_⟩⟩
    have v5 := same_upd (o := .tup [.int kd, .int (-kd)]) ht1
    have v6 := same_upd (o := .lst [.ref t1]) hl3
    have gt1 := v6 _ _ (upd_same (H := L4) (a := t1) (o := .tup [.int kd, .int (-kd)]))
    have gg : GoodP [(kd, -kd)] := ⟨by show 1 ≤ 30; decide, fun b hb => by rw [List.mem_singleton.mp hb]; exact ⟨k1, k2⟩, fun b hb => by rw [List.mem_singleton.mp hb]; show 1 ≤ (-kd).natAbs ∧ (-kd).natAbs ≤ 26; rw [Int.natAbs_neg]; omega, by simp⟩
    refine ⟨x, l3, ns, [(kd, -kd)], rfl, (Wx17.same v5).same v6, by omega, hn, ⟨[.ref t1], .inl (SqL.of upd_same), .cons ⟨t1, rfl, .inr (SqT.of gt1)⟩ .nil⟩, gg, fun g3 L5 v7 Y5 => ?_⟩
    refine ⟨g2, g3, _, _, rfl, rfl, (Y4.same (v5.trans v6)).same v7, Y5, ?_⟩
    rw [decide_eq_true eneg]
    exact k L5 (D8.same (((((s9.trans t13).trans t46).trans (u13.trans u46)).trans (vv1.trans v2)).trans ((vv3.trans v4).trans ((v5.trans v6).trans v7))))
end
end W09
set_option Elab.async false
set_option linter.all false
set_option maxRecDepth 100000
set_option maxHeartbeats 1000000
namespace W09
open PySem L2 PySem.Spec PyProof.Rows WR WB
abbrev sAllR : Stmt := top 61
abbrev nAllR : List Str := ["_law_jar_here", "_law_letters_here", "_law_told", "_law_word", "_law_far", "_law_kind"]
def spAllR : Sp := fun vs H Q _ => ∃ (a c p : Addr) (ns : List Int) (n : Nat), vs = [.ref a, .ref p] ∧ HandAt H a c n ∧ p ≠ a ∧ H p = some (.lst (iv ns)) ∧ ns.length ≤ 30 ∧ (∀ x ∈ ns, 1 ≤ x.natAbs ∧ x.natAbs ≤ 4) ∧ n ≤ 7500 ∧ ∀ H', Drew a c (n + 36) H H' → Q (.bl true) H'
theorem SqT.keptD {K : PySem.W.Frag} {H H' : Hp} {l q : Addr} {kvs : List (Key × V)} {xs : List V} (hl : H l = some (.dK kvs)) (d : Kept l H H') (h : SqT K H q xs) : SqT K H' q xs := by
  rcases h with h | h
  · left
    rcases h with h | ⟨o, h⟩
    · exact .inl (d _ _ (fun z => by rw [z, hl] at h; cases h) h)
    · exact .inr ⟨o, d _ _ (fun z => by rw [z, hl] at h; cases h) h⟩
  · exact .inr h
theorem WordAt.putD {K : PySem.W.Frag} {C : Addr} {H : Hp} {x dd : Addr} {ns : List Int} {kvs : List (Key × V)} {o : HO} (hD : H dd = some (.dK kvs)) (h : WordAt K C H x ns) : WordAt K C (L2.upd H dd o) x ns := by
  obtain ⟨dx, tl, tk, us, w1, w2, w3, w4⟩ := h
  refine ⟨dx, tl, tk, us, by rw [upd_ne (fun z => by rw [z, hD] at w1; cases w1)]; exact w1, ⟨SqT.keptD hD Kept.upd w2.sq, fun ne => ?_⟩, SqT.keptD hD Kept.upd w3, w4⟩
  obtain ⟨o, u, e, dn⟩ := w2.bare ne
  exact ⟨o, u, by rw [upd_ne (fun z => by rw [z, hD] at e; cases e)]; exact e, dn⟩
/-- what stands while the law looks at all kinds -/
structure AR (K : PySem.W.Frag) (C : Addr) (H0 H : Hp) (a c : Addr) (n : Nat) (p dd x fa : Addr) (ns ms far : List Int) (ls : List (List Int)) : Prop where
  d : Drew a c n H0 H
  pa : p ≠ a
  p : H p = some (.lst (iv ns))
  d0 : H0 dd = none
  da : dd ≠ a
  dc : dd ≠ c
  tab : ∃ kvs : List (Key × V), H dd = some (.dK kvs) ∧ kvs.length ≤ ls.length ∧ ∀ m, m < ls.length → ∃ r, valV kvs (Sum.inl ((m : Int) + 1)) = some (.ref r) ∧ r ≠ a ∧ H r = some (.lst (iv (ls.getD m [])))
  w : WordAt K C H x ms
  fna : fa ≠ a
  f : H fa = some (.lst (iv far))
section
variable {K : PySem.W.Frag} {C : Addr} {H0 H H' : Hp} {a c : Addr} {n m : Nat} {p dd x fa : Addr} {ns ms far : List Int} {ls : List (List Int)}
theorem AR.same (h : AR K C H0 H a c n p dd x fa ns ms far ls) (s : Same H H') : AR K C H0 H' a c n p dd x fa ns ms far ls := by
  obtain ⟨kvs, h1, h2, h3⟩ := h.tab
  refine ⟨h.d.same s, h.pa, s _ _ h.p, h.d0, h.da, h.dc, ⟨kvs, s _ _ h1, h2, fun i hi => ?_⟩, h.w.same s, h.fna, s _ _ h.f⟩
  obtain ⟨r, r1, r2, r3⟩ := h3 i hi
  exact ⟨r, r1, r2, s _ _ r3⟩
theorem AR.drew (h : AR K C H0 H a c n p dd x fa ns ms far ls) (d : Drew a c m H H') : AR K C H0 H' a c m p dd x fa ns ms far ls := by
  obtain ⟨kvs, h1, h2, h3⟩ := h.tab
  refine ⟨h.d.trans d, h.pa, d.2 _ _ h.pa h.p, h.d0, h.da, h.dc, ⟨kvs, d.2 _ _ h.da h1, h2, fun i hi => ?_⟩, h.w.drew h.d.1 d, h.fna, d.2 _ _ h.fna h.f⟩
  obtain ⟨r, r1, r2, r3⟩ := h3 i hi
  exact ⟨r, r1, r2, d.2 _ _ r2 r3⟩
theorem AR.mono (h : AR K C H0 H a c n p dd x fa ns ms far ls) (l : n ≤ m) : AR K C H0 H a c m p dd x fa ns ms far ls := ⟨h.d.mono l, h.pa, h.p, h.d0, h.da, h.dc, h.tab, h.w, h.fna, h.f⟩
theorem AR.word (h : AR K C H0 H a c n p dd x fa ns ms far ls) {y : Addr} {us : List Int} (w : WordAt K C H y us) : AR K C H0 H a c n p dd y fa ns us far ls := ⟨h.d, h.pa, h.p, h.d0, h.da, h.dc, h.tab, w, h.fna, h.f⟩
end
theorem ren_lc {K : PySem.W.Frag} {C x : Addr} {wi : TI} {g : TG} {tt : TT} {te : TE} {gg : TG} {vs : List Nat} {D : Ends} {σ : L2.St} {H : Hp} (hi : σ[3]? = some (some (.ref x)))
    (h : wi σ H fun J H1 => tLc (fun _ H R => R J H) g tt te vs σ H1 fun y H2 => spRen K C [V.ref x, y] H2 (fun z H4 => gg z σ H4 D.nx) E0) :
    tAsg (tCall (spRen K C) [] E0 (tCons (tVar 3) (tCons (tLc wi g tt te vs) tNil))) gg D σ H := ⟨_, hi, h⟩
/-! ### one kind after the other -/
def farA (far : List Int) (x : Int) : Int := far.getD (x.natAbs - 1) 0
def allF (far : List Int) (g : Int → List Int) (S : List Int) (x : Int) : List Int := if (x.natAbs : Int) ∈ S then Fr.tabF g x else [if 0 < x then farA far x else -farA far x]
def farP (far : List Int) (i : Nat) : List (Int × Int) := (List.range i).map fun j => ((1 : Int) + (j : Nat), far.getD j 0)
structure FarOk (far : List Int) : Prop where
  len : far.length = 4
  nd : far.Nodup
  big : ∀ z ∈ far, 11 ≤ z ∧ z ≤ 26
theorem FarOk.of {far : List Int} (h : far.Perm [11, 12, 13, 26]) : FarOk far :=
  ⟨h.length_eq, h.nodup_iff.mpr (by decide), fun z hz => by
    have := h.mem_iff.mp hz
    simp only [List.mem_cons, List.mem_nil_iff, or_false] at this
    omega⟩
theorem FarOk.at {far : List Int} (h : FarOk far) {i : Nat} (hi : i < 4) : 11 ≤ far.getD i 0 ∧ far.getD i 0 ≤ 26 := by
  have hl : i < far.length := by rw [h.len]; exact hi
  rw [List.getD_eq_getElem?_getD, List.getElem?_eq_getElem hl]
  exact h.big _ (List.getElem_mem hl)
theorem FarOk.inj {far : List Int} (h : FarOk far) {i j : Nat} (hi : i < 4) (hj : j < 4) (e : far.getD i 0 = far.getD j 0) : i = j := by
  have h1 : i < far.length := by rw [h.len]; exact hi
  have h2 : j < far.length := by rw [h.len]; exact hj
  rw [List.getD_eq_getElem?_getD, List.getElem?_eq_getElem h1, List.getD_eq_getElem?_getD, List.getElem?_eq_getElem h2] at e
  have e : far[i] = far[j] := e
  refine Decidable.byContradiction fun n => ?_
  rcases Nat.lt_or_gt_of_ne n with q | q
  · exact List.pairwise_iff_getElem.mp h.nd i j h1 h2 q e
  · exact List.pairwise_iff_getElem.mp h.nd j i h2 h1 q e.symm
theorem farP_good {far : List Int} (h : FarOk far) : GoodP (farP far 4) := by
  have hm : ∀ b ∈ farP far 4, ∃ j : Nat, j < 4 ∧ b = ((1 : Int) + (j : Nat), far.getD j 0) := fun b hb => by
    obtain ⟨j, hj, rfl⟩ := List.mem_map.mp hb
    exact ⟨j, List.mem_range.mp hj, rfl⟩
  refine ⟨by show (farP far 4).length ≤ 30; unfold farP; rw [List.length_map, List.length_range]; decide, fun b hb => ?_, fun b hb => ?_, ?_⟩
  · obtain ⟨j, hj, rfl⟩ := hm b hb
    show 1 ≤ (1 : Int) + (j : Nat) ∧ (1 : Int) + (j : Nat) ≤ 26
    omega
  · obtain ⟨j, hj, rfl⟩ := hm b hb
    have := h.at hj
    show 1 ≤ (far.getD j 0).natAbs ∧ (far.getD j 0).natAbs ≤ 26
    omega
  · unfold farP
    rw [List.map_map]
    exact List.Pairwise.map _ (fun u v n e => n (by have e : (1 : Int) + (u : Nat) = 1 + (v : Nat) := e; omega)) List.nodup_range
theorem all_start {far : List Int} (h : FarOk far) (g : Int → List Int) {ns : List Int} (h4 : ∀ x ∈ ns, 1 ≤ x.natAbs ∧ x.natAbs ≤ 4) : ns.map (Fr.ren (farP far 4)) = Fr.sub (allF far g []) ns := by
  rw [← Fr.sub_map]
  refine Fr.sub_congr fun x hx => ?_
  obtain ⟨x1, x2⟩ := h4 x hx
  have told : ∀ z : Int, 0 < z → z ≤ 4 → Fr.told? (farP far 4) z = some (far.getD (z.natAbs - 1) 0) := fun z z1 z2 => by
    refine Fr.told_in (farP_good h).nd (List.mem_map.mpr ⟨z.natAbs - 1, List.mem_range.mpr (by omega), ?_⟩)
    have : (1 : Int) + ((z.natAbs - 1 : Nat) : Int) = z := by omega
    rw [this]
  have e0 : allF far g [] x = [if 0 < x then farA far x else -farA far x] := if_neg List.not_mem_nil
  rw [e0]
  unfold Fr.ren farA
  by_cases h0 : 0 < x
  · rw [if_pos h0, if_pos h0, told x h0 (by omega)]
    rfl
  · rw [if_neg h0, if_neg h0, told (-x) (by omega) (by omega), Int.natAbs_neg]
    rfl
theorem tabF_lett {g : Int → List Int} (hg : ∀ k : Int, ∀ y ∈ g k, 1 ≤ y.natAbs ∧ y.natAbs ≤ 4) {x y : Int} (h : y ∈ Fr.tabF g x) : 1 ≤ y.natAbs ∧ y.natAbs ≤ 4 := by
  unfold Fr.tabF at h
  by_cases h0 : 0 < x
  · rw [if_pos h0] at h
    exact hg _ y h
  · rw [if_neg h0] at h
    have h : y ∈ Fr.con (g (-x)) := h
    unfold Fr.con at h
    obtain ⟨z, hz, rfl⟩ := List.mem_map.mp h
    rw [List.mem_reverse] at hz
    rw [Int.natAbs_neg]
    exact hg _ z hz
theorem all_step {far : List Int} (h : FarOk far) {g : Int → List Int} (hg : ∀ k : Int, ∀ y ∈ g k, 1 ≤ y.natAbs ∧ y.natAbs ≤ 4) {S : List Int} {kk : Int} (k1 : 1 ≤ kk) (k4 : kk ≤ 4) (hS : kk ∉ S) {ns : List Int} (h4 : ∀ x ∈ ns, 1 ≤ x.natAbs ∧ x.natAbs ≤ 4) :
    Fr.sub (Fr.putF (farA far kk) (g kk)) (Fr.sub (allF far g S) ns) = Fr.sub (allF far g (S ++ [kk])) ns := by
  rw [Fr.sub_sub]
  refine Fr.sub_congr fun x hx => ?_
  obtain ⟨x1, x2⟩ := h4 x hx
  have hk := h.at (i := kk.natAbs - 1) (by omega)
  have hxx := h.at (i := x.natAbs - 1) (by omega)
  unfold allF
  by_cases e : (x.natAbs : Int) ∈ S
  · rw [if_pos e, if_pos (List.mem_append_left _ e)]
    refine Fr.sub_id fun y hy => ?_
    obtain ⟨y1, y2⟩ := tabF_lett hg hy
    unfold Fr.putF farA
    rw [if_neg (by omega), if_neg (by omega)]
  · rw [if_neg e, Fr.sub_one]
    by_cases ek : (x.natAbs : Int) = kk
    · have em : (x.natAbs : Int) ∈ S ++ [kk] := List.mem_append_right _ (by rw [ek]; exact List.mem_cons_self)
      rw [if_pos em]
      have ef : farA far x = farA far kk := by unfold farA; rw [show x.natAbs = kk.natAbs by omega]
      rw [ef]
      unfold Fr.putF Fr.tabF
      by_cases h0 : 0 < x
      · rw [if_pos h0, if_pos h0, if_pos rfl, show x = kk by omega]
      · have : ¬ (-farA far kk = farA far kk) := by unfold farA; omega
        rw [if_neg h0, if_neg h0, if_neg this, if_pos rfl, show -x = kk by omega]
    · have em : ¬ (x.natAbs : Int) ∈ S ++ [kk] := fun q => by
        rcases List.mem_append.mp q with q | q
        · exact e q
        · exact ek (List.mem_singleton.mp q)
      rw [if_neg em]
      have ne : farA far x ≠ farA far kk := fun q => by
        have := h.inj (i := x.natAbs - 1) (j := kk.natAbs - 1) (by omega) (by omega) q
        omega
      have p1 : 0 < farA far x := by unfold farA; omega
      have p2 : 0 < farA far kk := by unfold farA; omega
      unfold Fr.putF
      by_cases h0 : 0 < x
      · rw [if_pos h0, if_neg ne, if_neg (by omega)]
      · rw [if_neg h0, if_neg (by omega), if_neg (by omega)]
theorem all_end {far : List Int} {g : Int → List Int} {S : List Int} (hS : S.Perm [1, 2, 3, 4]) {ns : List Int} (h4 : ∀ x ∈ ns, 1 ≤ x.natAbs ∧ x.natAbs ≤ 4) : Fr.sub (allF far g S) ns = Fr.sub (Fr.tabF g) ns := by
  refine Fr.sub_congr fun x hx => ?_
  obtain ⟨x1, x2⟩ := h4 x hx
  unfold allF
  rw [if_pos (hS.mem_iff.mpr (by simp only [List.mem_cons, List.mem_nil_iff, or_false]; omega))]
theorem all_len {far : List Int} {g : Int → List Int} (hg : ∀ k : Int, (g k).length ≤ 3) {S : List Int} {ns : List Int} : (Fr.sub (allF far g S) ns).length ≤ ns.length * 3 := by
  refine Fr.sub_length fun x _ => ?_
  unfold allF
  split
  · unfold Fr.tabF
    split
    · exact hg _
    · rw [Fr.con_length]; exact hg _
  · show 1 ≤ 3
    decide
theorem all_lts {far : List Int} (h : FarOk far) {g : Int → List Int} (hg : ∀ k : Int, ∀ y ∈ g k, 1 ≤ y.natAbs ∧ y.natAbs ≤ 4) {S : List Int} {ns : List Int} (h4 : ∀ x ∈ ns, 1 ≤ x.natAbs ∧ x.natAbs ≤ 4) : Lts (Fr.sub (allF far g S) ns) := by
  intro y hy
  obtain ⟨x, hx, hy⟩ := Fr.sub_mem hy
  obtain ⟨x1, x2⟩ := h4 x hx
  unfold allF at hy
  split at hy
  · have := tabF_lett hg hy
    omega
  · rw [List.mem_singleton.mp hy]
    have := h.at (i := x.natAbs - 1) (by omega)
    unfold farA
    split <;> omega
section
variable {P : Program} {w : World} {K : PySem.W.Frag} {mg : Str → Option Value} {base : Heap} {C : Addr}
theorem scAllR : FnScope nAllR ["_law_jar_here", "_law_letters_here"] (defScope sAllR) := ⟨rfl, rfl, rfl, by decide +kernel, rfl, by decide +kernel, by decide +kernel⟩
theorem ok_allR {f : Addr} {fd : FuncData} (F : Fun K "_law_all_right" "_law_all_right" sAllR f fd) (T : TxW K mg C) (W : AllW P w K mg base C) (N : LawC P w K mg base) : FnOk P w K mg base CX0 7 f fd ["_law_jar_here", "_law_letters_here"] spAllR := by
  refine F.ok scAllR (fun vs H Q E h => ?_) (fun cdv A outer s H vs Q E hr h => ?_)
  · obtain ⟨a, c, p, ns, n, rfl, _⟩ := h
    rfl
  · obtain ⟨a, c, p, ns, n, rfl, hH, hpa, hp, hlen, h4, hn, k⟩ := h
    refine ⟨_, pss_cons (ps_asg (pe_tup (pa_cons pe_dnewK (pa_cons (pe_word W.mkw T hr (by decide) (by rfl) (pa_cons (pv 1) pa_nil)) (pa_cons (pe_cal N.mixed hr (by decide) (by rfl) (pa_cons (pv 0) (pa_cons (pe_lst (pa_cons pe_int (pa_cons pe_int (pa_cons pe_int (pa_cons pe_int pa_nil))))) pa_nil))) pa_nil)))) (pg_tup (n := 3) rfl (pgs_cons (pg_name (i := 2) scAllR.nd rfl (Or.inl rfl)) (pgs_cons (pg_name (i := 3) scAllR.nd rfl (Or.inl rfl)) (pgs_cons (pg_name (i := 4) scAllR.nd rfl (Or.inr rfl)) pgs_nil)))))
      (pss_cons (ps_for PassesOwn.never rfl (pi_range2 (by rfl) N.range (pa_cons pe_int (pa_cons pe_int pa_nil))) (pg_name (i := 5) scAllR.nd rfl (Or.inl rfl))
        (pss_one (ps_dput (units1 hr) (pv 2) (pv 5) (pe_cal N.lets hr (by decide) (by rfl) (pa_cons (pv 0) (pa_cons (pe_cal N.draw hr (by decide) (by rfl) (pa_cons (pv 0) (pa_cons pe_int pa_nil))) (pa_cons pe_int pa_nil)))) rfl)))
      (pss_cons (ps_set (i := 3) scAllR.nd rfl (Or.inl rfl) (pe_cal W.ren hr (by decide) (by rfl) (pa_cons (pv 3) (pa_cons (pe_lc (own := [("_law_kind", 5)]) (g := gName 5) (tt := tYes) rfl scAllR.nd (pi_range2 (by rfl) N.range (pa_cons pe_int (pa_cons pe_int pa_nil))) (blkOk_by (N := nAllR) (sc := defScope sAllR) (by decide +kernel)) (fun _ _ _ _ _ => pg_name (i := 5) scAllR.nd rfl (Or.inl rfl)) (fun _ _ _ _ _ => pts_nil)
          (fun _ _ _ _ _ => pe_tup (pa_cons (pv 5) (pa_cons (pe_ix (ixl (K := K) rfl) (pv 4) (pe_op op_sub (pv 5) pe_int) (fun _ _ => rfl)) pa_nil)))) pa_nil))))
      (pss_cons (ps_for PassesOwn.never rfl (pi_list (pe_cal N.mixed hr (by decide) (by rfl) (pa_cons (pv 0) (pa_cons (pe_lst (pa_cons pe_int (pa_cons pe_int (pa_cons pe_int (pa_cons pe_int pa_nil))))) pa_nil)))) (pg_name (i := 5) scAllR.nd rfl (Or.inl rfl))
        (pss_one (ps_set (i := 3) scAllR.nd rfl (Or.inl rfl) (pe_cal W.put hr (by decide) (by rfl) (pa_cons (pv 3) (pa_cons (pe_ix (ixl (K := K) rfl) (pv 4) (pe_op op_sub (pv 5) pe_int) (fun _ _ => rfl)) (pa_cons (pe_word W.mkw T hr (by decide) (by rfl) (pa_cons (pe_dget (units1 hr) (pv 2) (pv 5) (fun _ _ => rfl)) pa_nil)) pa_nil)))))))
      (pss_one (ps_ret (pe_cmpR (op_eqD hr.units) (pe_callTy call_list_of (by rfl) N.list (by decide +kernel) (pa_cons (pe_fld (pv 3) rfl) pa_nil)) (pe_cal N.putL hr (by decide) (by rfl) (pa_cons (pv 1) (pa_cons (pv 2) pa_nil))) (nomark _))))))), ?_⟩
    have hl : Lts ns := fun z hz => ⟨(h4 z hz).1, Nat.le_trans (h4 z hz).2 (by decide)⟩
    -- a dict, the word, four far kinds
    refine fun dd hdd => ?_
    have s0 := same_upd (o := .dK []) hdd
    have g0 : L2.upd H dd (.dK []) dd = some (.dK []) := upd_same
    obtain ⟨H0, e0⟩ : ∃ H0, H0 = L2.upd H dd (.dK []) := ⟨_, rfl⟩
    rw [← e0] at s0 g0 ⊢
    refine ⟨_, rfl, fun x dx nx ndx _ => make_at nx ndx (.inl (SqL.of (s0 _ _ hp))) (by omega) hl fun H1 s1 W1 => ?_⟩
    refine ⟨_, rfl, by show 4 ≤ sizeLine; decide, fun q hq => ?_⟩
    have s2 := same_upd (o := .lst (iv [11, 12, 13, 26])) hq
    have s02 := (s0.trans s1).trans s2
    refine ⟨a, c, q, iv [11, 12, 13, 26], n, rfl, hH.same s02, upd_same, by decide, by omega, fun fa H2 ys hf0 d2 g2 hperm => ?_⟩
    obtain ⟨far, rfl, hfar⟩ := perm_iv hperm
    have fo := FarOk.of hfar
    refine ⟨by show 3 ≤ sizeLine; decide, fun T0 hT0 => ⟨T0, _, rfl, SqT.of upd_same, rfl, _, _, rfl, _, _, rfl, _, _, rfl, rfl, ?_⟩⟩
    have s3 := same_upd (o := .tup [.ref dd, .ref x, .ref fa]) hT0
    have hda := hH.ne hdd
    have hdc := hH.neC hdd
    have d02 : Drew a c (n + 4) H H2 := ((Drew.refl hH).same s02).trans d2
    have hfa := (hH.same s02).ne hf0
    have R0 : AR K C H (L2.upd H2 T0 (.tup [.ref dd, .ref x, .ref fa])) a c (n + 4) p dd x fa ns ns far [] :=
      ⟨d02.same s3, hpa, s3 _ _ (d02.2 _ _ hpa hp), hdd, hda, hdc, ⟨[], s3 _ _ (d2.2 _ _ hda ((s1.trans s2) _ _ g0)), Nat.le_refl _, fun m hm => nomatch hm⟩, ((W1.same s2).drew (hH.same s02) d2).same s3, hfa, s3 _ _ g2⟩
    obtain ⟨H3, e3⟩ : ∃ H3, H3 = L2.upd H2 T0 (.tup [.ref dd, .ref x, .ref fa]) := ⟨_, rfl⟩
    rw [← e3] at R0 ⊢
    clear e3 hT0 s3 g2 d02 d2 W1 s1 s2 s02 g0 hq
    -- a word for each of four kinds
    refine ⟨1, 5, rfl, by decide, for_range (lo := 1) (n := ((5 : Int) - 1).toNat) (fun i σ H' => ∃ (v5 : Option V) (ls : List (List Int)), σ = [some (.ref a), some (.ref p), some (.ref dd), some (.ref x), some (.ref fa), v5] ∧ AR K C H H' a c (n + 4 + 7 * i) p dd x fa ns ns far ls ∧ ls.length = i ∧ ∀ l ∈ ls, l.length ≤ 3 ∧ ∀ y ∈ l, 1 ≤ y.natAbs ∧ y.natAbs ≤ 4)
      ⟨none, [], rfl, R0, rfl, fun _ h => nomatch h⟩ ?_ ?_⟩
    · rintro i σ H4 hi ⟨v5, ls, rfl, R, hls, hok⟩
      have hi4 : i < 4 := hi
      refine ⟨_, rfl, _, rfl, a, c, 4, n + 4 + 7 * i, rfl, R.d.1, by omega, by decide, by decide, fun H5 q q0 q1 hH5 hK5 => ?_⟩
      have d5 : Drew a c (n + 4 + 7 * i + 1) H4 H5 := ⟨hH5, hK5⟩
      have R5 := R.drew d5
      obtain ⟨q, rfl⟩ : ∃ q' : Nat, q = (q' : Int) := ⟨q.toNat, by omega⟩
      have hq3 : q ≤ 3 := by omega
      refine ⟨a, c, q, 4, n + 4 + 7 * i + 1, rfl, R5.d.1, by omega, by omega, by decide, by decide, fun r H6 l hr0 d6 g6 ll hl6 => ?_⟩
      have R6 := (R5.drew d6).mono (show n + 4 + 7 * i + 1 + 2 * q ≤ n + 4 + 7 * (i + 1) by omega)
      obtain ⟨kvs, hD, hk, hv⟩ := R6.tab
      have hra := R5.d.1.ne hr0
      refine ⟨_, rfl, _, rfl, dd, _, rfl, DPut.k (k := Sum.inl (1 + (i : Int))) hD (Nat.lt_of_le_of_lt (show kvs.length ≤ 100 by omega) (by decide)), ?_⟩
      have l1 := length_putK kvs (Sum.inl (1 + (i : Int))) (.ref r)
      have npd : ∀ {z : Addr} {us : List V}, H6 z = some (.lst us) → z ≠ dd := fun h z => by rw [z, hD] at h; cases h
      refine ⟨_, ls ++ [l], rfl, ?_, by rw [List.length_append, hls]; rfl, fun z hz => ?_⟩
      · refine ⟨R6.d.put R6.d0 R6.da R6.dc, hpa, by rw [upd_ne (npd R6.p)]; exact R6.p, R6.d0, R6.da, R6.dc, ⟨_, upd_same, by rw [List.length_append]; show _ ≤ _ + 1; omega, fun m hm => ?_⟩, R6.w.putD hD, R6.fna, by rw [upd_ne (npd R6.f)]; exact R6.f⟩
        rw [List.length_append] at hm
        have hm : m < ls.length + 1 := hm
        by_cases e : m = ls.length
        · refine ⟨r, ?_, hra, ?_⟩
          · rw [valV_put, if_pos (by rw [e, hls, Int.add_comm])]
          · rw [upd_ne (npd g6), g6, e]
            simp [List.getD_eq_getElem?_getD]
        · obtain ⟨r', r1, r2, r3⟩ := hv m (by omega)
          refine ⟨r', ?_, r2, ?_⟩
          · rw [valV_put, if_neg (fun z => e (by injection z with z; omega))]
            exact r1
          · rw [upd_ne (npd r3), r3]
            have : (ls ++ [l]).getD m [] = ls.getD m [] := by
              rw [List.getD_eq_getElem?_getD, List.getD_eq_getElem?_getD, List.getElem?_append_left (by omega)]
            rw [this]
      · rcases List.mem_append.mp hz with hz | hz
        · exact hok z hz
        · rw [List.mem_singleton.mp hz]
          exact ⟨by omega, hl6⟩
    rintro σ H4 ⟨v5, ls, rfl, R, hls, hok⟩
    have hls : ls.length = 4 := hls
    have R := R.mono (show n + 4 + 7 * ((5 : Int) - 1).toNat ≤ n + 32 from Nat.le_refl _)
    -- the word with far kinds
    refine ren_lc rfl ?_
    refine ⟨1, 5, rfl, by decide, fun D hD => ?_⟩
    refine lc_range (lo := 1) (n := ((5 : Int) - 1).toNat) (fun i H' => Same H4 H' ∧ ∃ us : List V, H' D = some (.lst us) ∧ us.length = i ∧ All2 (PrT K H') us (farP far i)) ⟨same_upd hD, [], upd_same, rfl, .nil⟩ ?_ ?_
    · rintro i H5 hi ⟨sm, us, hus, lus, hu⟩
      have hi4 : i < 4 := hi
      have hif : i < far.length := by rw [fo.len]; exact hi4
      have hix : atI (iv far) ((1 : Int) + (i : Nat) - 1) = some (V.int (far.getD i 0)) := by
        have e : (1 : Int) + (i : Nat) - 1 = ((i : Nat) : Int) := by omega
        rw [e, List.getD_eq_getElem?_getD, List.getElem?_eq_getElem hif]
        exact atI_nat (iv_get (List.getElem?_eq_getElem hif))
      refine ⟨rfl, yes_te ?_⟩
      refine ⟨_, rfl, _, rfl, _, rfl, _, _, rfl, rfl, fa, iv far, _, _, rfl, rfl, SqL.of (sm _ _ R.f), hix, by show 2 ≤ sizeLine; decide, fun t ht => ?_⟩
      have st := same_upd (o := .tup [.int (1 + (i : Nat)), .int (far.getD i 0)]) ht
      have hus2 := st _ _ hus
      refine ⟨us, hus2, Evl.sz_lt (by omega), fun b o e => ?_, us ++ [.ref t], upd_same, by rw [List.length_append, lus]; rfl, ?_⟩
      · rw [upd_ne (ne_of_none e hD)]
        exact st _ _ (sm _ _ e)
      · unfold farP
        rw [List.range_succ, List.map_append]
        exact All2.app (hu.imp fun _ _ r => PrT.put hus2 (r.same st)) (.cons (PrT.put hus2 (p := ((1 : Int) + (i : Nat), far.getD i 0)) ⟨t, rfl, SqT.of upd_same⟩) .nil)
    rintro H5 ⟨s5, us, hus, lus, hu⟩
    have hu : All2 (PrT K H5) us (farP far 4) := hu
    have R5 := R.same s5
    refine ⟨x, D, ns, farP far 4, rfl, R5.w, by omega, hl, ⟨us, .inl (SqL.of hus), hu.imp fun _ _ r => r.e⟩, farP_good fo, fun x2 H6 s6 W6 => ?_⟩
    have R6 := (R5.same s6).word W6
    rw [all_start fo (fun z => ls.getD (z.toNat - 1) []) h4] at R6
    refine at_set ?_
    try dsimp only
    -- one kind after the other
    refine ⟨_, rfl, by show 4 ≤ sizeLine; decide, fun q hq => ?_⟩
    have s7 := same_upd (o := .lst (iv [1, 2, 3, 4])) hq
    have R7 := R6.same s7
    refine ⟨a, c, q, iv [1, 2, 3, 4], n + 32, rfl, R7.d.1, upd_same, by decide, by omega, fun l H8 ys hl0 d8 g8 hperm2 => ?_⟩
    obtain ⟨ks, rfl, hks⟩ := perm_iv hperm2
    have R8 : AR K C H H8 a c (n + 36) p dd x2 fa ns _ far ls := R7.drew d8
    have hgl : ∀ z : Int, ls.getD (z.toNat - 1) [] ∈ ls ∨ ls.getD (z.toNat - 1) [] = [] := fun z => by
      by_cases h : z.toNat - 1 < ls.length
      · rw [List.getD_eq_getElem?_getD, List.getElem?_eq_getElem h]
        exact .inl (List.getElem_mem h)
      · rw [List.getD_eq_getElem?_getD, List.getElem?_eq_none (by omega)]
        exact .inr rfl
    have hg3 : ∀ z : Int, (ls.getD (z.toNat - 1) []).length ≤ 3 := fun z => by
      rcases hgl z with h | h
      · exact (hok _ h).1
      · rw [h]; decide
    have hg4 : ∀ z : Int, ∀ y ∈ ls.getD (z.toNat - 1) [], 1 ≤ y.natAbs ∧ y.natAbs ≤ 4 := fun z => by
      rcases hgl z with h | h
      · exact (hok _ h).2
      · rw [h]; exact fun _ h => nomatch h
    obtain ⟨g, eg⟩ : ∃ g : Int → List Int, g = fun z => ls.getD (z.toNat - 1) [] := ⟨_, rfl⟩
    have hg3 : ∀ z : Int, (g z).length ≤ 3 := fun z => by rw [eg]; exact hg3 z
    have hg4 : ∀ z : Int, ∀ y ∈ g z, 1 ≤ y.natAbs ∧ y.natAbs ≤ 4 := fun z => by rw [eg]; exact hg4 z
    rw [← eg] at R8
    have kl : ks.length = 4 := hks.length_eq
    have hkn : ks.Nodup := hks.nodup_iff.mpr (by decide)
    refine ⟨l, rfl, ⟨_, SqL.of g8⟩, for_list (K := K) (a := l) (xs := iv ks) (fun i σ H' => ∃ (y : Addr) (v5 : Option V), σ = [some (.ref a), some (.ref p), some (.ref dd), some (.ref y), some (.ref fa), v5] ∧ AR K C H H' a c (n + 36) p dd y fa ns (Fr.sub (allF far g (ks.take i)) ns) far ls ∧ H' l = some (.lst (iv ks)))
      ⟨x2, _, rfl, R8, g8⟩ (fun i σ H1 _ ⟨_, _, _, _, g⟩ => SqL.of g) ?_ ?_⟩
    · rintro i z σ H9 hi ⟨y, v5, rfl, R9, g9⟩
      obtain ⟨kk, hkk, rfl⟩ : ∃ z', ks[i]? = some z' ∧ z = V.int z' := by
        rw [List.getElem?_map] at hi
        cases e : ks[i]? with
        | none => rw [e] at hi; cases hi
        | some z' => rw [e] at hi; exact ⟨z', rfl, (Option.some.inj hi).symm⟩
      have hil : i < ks.length := (List.getElem?_eq_some_iff.mp hkk).1
      have ek : ks[i] = kk := (List.getElem?_eq_some_iff.mp hkk).2
      have hkr := hks.mem_iff.mp (List.mem_of_getElem? hkk)
      simp only [List.mem_cons, List.mem_nil_iff, or_false] at hkr
      have k1 : 1 ≤ kk := by omega
      have k4 : kk ≤ 4 := by omega
      have hnew : kk ∉ ks.take i := fun q => by
        obtain ⟨j, hj, ej⟩ := List.mem_iff_getElem.mp q
        rw [List.length_take] at hj
        rw [List.getElem_take] at ej
        exact absurd (ej.trans ek.symm) (List.pairwise_iff_getElem.mp hkn j i (by omega) hil (by omega))
      have hif : kk.natAbs - 1 < far.length := by rw [fo.len]; omega
      have hix : atI (iv far) (kk - 1) = some (V.int (farA far kk)) := by
        have e : kk - 1 = ((kk.natAbs - 1 : Nat) : Int) := by omega
        unfold farA
        rw [e, List.getD_eq_getElem?_getD, List.getElem?_eq_getElem hif]
        exact atI_nat (iv_get (List.getElem?_eq_getElem hif))
      obtain ⟨kvs, hD9, _, hv⟩ := R9.tab
      obtain ⟨r, r1, r2, r3⟩ := hv (kk.natAbs - 1) (by omega)
      have ekk : ((kk.natAbs - 1 : Nat) : Int) + 1 = kk := by omega
      rw [ekk] at r1
      have egk : ls.getD (kk.natAbs - 1) [] = g kk := by rw [eg, show kk.natAbs = kk.toNat by omega]
      rw [egk] at r3
      have hf := fo.at (i := kk.natAbs - 1) (by omega)
      have hlw := all_len (far := far) hg3 (S := ks.take i) (ns := ns)
      have hlt := all_lts fo hg4 (S := ks.take i) h4
      have lgk := hg3 kk
      have dg := DGet.k (k := Sum.inl kk) hD9
      rw [r1] at dg
      refine ⟨_, rfl, _, rfl, _, rfl, _, _, rfl, rfl, fa, iv far, _, _, rfl, rfl, SqL.of R9.f, hix, _, rfl, _, rfl, dd, _, rfl, dg, fun z dz nz ndz _ => make_at nz ndz (.inl (SqL.of r3)) (by omega) (fun y hy => ⟨(hg4 kk y hy).1, Nat.le_trans (hg4 kk y hy).2 (by decide)⟩) fun HA sA WA => ?_⟩
      have RA := R9.same sA
      have hstep := all_step fo hg4 k1 k4 hnew h4
      have hlw2 := all_len (far := far) hg3 (S := ks.take i ++ [kk]) (ns := ns)
      refine ⟨y, z, farA far kk, _, g kk, rfl, RA.w, WA, by unfold farA; omega, by unfold farA; omega, by omega, by omega, by rw [hstep]; omega, hlt, fun y hy => ⟨(hg4 kk y hy).1, Nat.le_trans (hg4 kk y hy).2 (by decide)⟩, fun y2 HB sB WB_ => ?_⟩
      rw [hstep] at WB_
      refine ⟨y2, _, rfl, ?_, (sA.trans sB) _ _ g9⟩
      rw [List.take_succ_eq_append_getElem hil, ek]
      exact (RA.same sB).word WB_
    rintro σ H9 ⟨y, v5, rfl, R9, g9⟩
    have el : (iv ks).length = 4 := by rw [List.length_map, kl]
    rw [el, List.take_of_length_le (by omega), all_end hks h4] at R9
    have hlw : (Fr.sub (Fr.tabF g) ns).length ≤ ns.length * 3 := by
      rw [← all_end (far := far) hks h4]
      exact all_len hg3
    obtain ⟨dx, tl, tk, kk, w1, w2, _⟩ := id R9.w
    refine ⟨_, rfl, y, C, dx, _, _, rfl, w1, T.cl, T.nL, wf_letters, tl, _, rfl, .inr w2.sq, fun l7 hl7 => ?_⟩
    have s7 := same_upd (o := .lst (iv (Fr.sub (Fr.tabF g) ns))) hl7
    have g7 : L2.upd H9 l7 (.lst (iv (Fr.sub (Fr.tabF g) ns))) l7 = some (.lst (iv (Fr.sub (Fr.tabF g) ns))) := upd_same
    obtain ⟨HA, eA⟩ : ∃ HA, HA = L2.upd H9 l7 (.lst (iv (Fr.sub (Fr.tabF g) ns))) := ⟨_, rfl⟩
    rw [← eA] at s7 g7 ⊢
    have RA := R9.same s7
    obtain ⟨kvs, hDA, _, hv⟩ := RA.tab
    have htab : TabL HA dd g ns := by
      refine ⟨kvs, hDA, fun z hz => .inl ?_⟩
      obtain ⟨z1, z2⟩ := h4 z hz
      obtain ⟨r, r1, _, r3⟩ := hv (z.natAbs - 1) (by omega)
      have e1 : ((z.natAbs - 1 : Nat) : Int) + 1 = (z.natAbs : Int) := by omega
      rw [e1] at r1
      exact ⟨r, r1, by rw [eg]; exact r3⟩
    refine ⟨_, rfl, _, rfl, p, dd, ns, g, rfl, RA.p, htab, hl, by omega, by omega, fun z _ => Nat.le_trans (hg3 _) (by decide), fun lz HZ _ sZ gZ => ?_⟩
    refine ⟨_, _, .lst (SqL.of (sZ _ _ g7)) (dp_iv _), .lst (SqL.of gZ) (dp_iv _), PySem.W.ke_shaped_ints _, PySem.W.ke_shaped_ints _, ?_⟩
    rw [eqvL_ints, decide_eq_true rfl]
    exact k HZ (RA.same sZ).d
end
end W09
set_option Elab.async false
set_option linter.all false
set_option maxRecDepth 100000
set_option maxHeartbeats 1000000
namespace Fr
theorem cnt_rnd {xs : List Int} (nz : NZ xs) (k : Int) : cnt (rnd xs) k = cnt xs k := by
  obtain ⟨u, w, e, c, z⟩ := parted (shr xs) nz.shr (rd_shr xs)
  have h1 : rnd xs = w := by
    unfold rnd
    rw [e, ends_eq c z]
  rw [h1, ← cnt_shr xs, e, cnt_app, cnt_app, cnt_con]
  omega
theorem cnt_rot (xs : List Int) (p : Nat) (k : Int) : cnt (Lt.rot xs p) k = cnt xs k := by
  unfold Lt.rot
  have h : cnt xs k = cnt (xs.take p) k + cnt (xs.drop p) k := by rw [← cnt_app, List.take_append_drop]
  rw [cnt_app, h]
  omega
theorem cnt_le (xs : List Int) (k : Int) : (cnt xs k).natAbs ≤ xs.length := by
  unfold cnt
  have h1 : xs.count k ≤ xs.length := List.count_le_length
  have h2 : xs.count (-k) ≤ xs.length := List.count_le_length
  omega
theorem bal_mul {xs ys : List Int} {c : Int} (hc : c ≠ 0) (h : ∀ k, cnt ys k = c * cnt xs k) : bal ys = (bal xs).map fun p => (p.1, c * p.2) := by
  unfold bal
  induction List.range 26 with
  | nil => rfl
  | cons i L ih =>
    rw [List.map_cons, List.map_cons, List.filter_cons, List.filter_cons, ih, h]
    by_cases e : cnt xs ((i : Int) + 1) = 0
    · rw [e, Int.mul_zero]
      rfl
    · have e2 : c * cnt xs ((i : Int) + 1) ≠ 0 := Int.mul_ne_zero hc e
      rw [if_pos (by simpa using e2), if_pos (by simpa using e)]
      rfl
theorem bal_nd (xs : List Int) : ((bal xs).map (·.1)).Nodup := by
  have h : ((bal xs).map (·.1)).Sublist ((List.range 26).map fun (i : Nat) => (i : Int) + 1) := by
    have e : ((List.range 26).map fun (i : Nat) => (i : Int) + 1) = (((List.range 26).map fun (i : Nat) => ((i : Int) + 1, cnt xs ((i : Int) + 1))).map (·.1)) := by rw [List.map_map]; rfl
    rw [e]
    unfold bal
    exact List.filter_sublist.map _
  refine List.Nodup.sublist h ?_
  exact List.Pairwise.map _ (fun u v n e => n (by omega)) List.nodup_range
theorem cnt_exch (xs ys : List Int) (k : Int) : cnt (xs ++ ys ++ con xs ++ con ys) k = 0 := by
  rw [cnt_app, cnt_app, cnt_app, cnt_con, cnt_con]
  omega
theorem bal_zero {xs : List Int} (h : ∀ k, cnt xs k = 0) : bal xs = [] := by
  have e : bal xs = bal [] := bal_congr fun k => by rw [h, cnt_nil]
  rw [e]
  rfl
end Fr
namespace W09
open PySem L2 PySem.Spec PyProof.Rows WR WB
abbrev sBalR : Stmt := top 62
abbrev nBalR : List Str := ["_law_jar_here", "_law_letters_here", "_law_others", "_law_word", "_law_other", "_law_due", "_law_kind", "_law_mine", "_law_its", "_law_each", "_law_more", "_law_found"]
def spBalR : Sp := fun vs H Q _ => ∃ (a c p q : Addr) (ns ms : List Int) (n : Nat), vs = [.ref a, .ref p, .ref q] ∧ HandAt H a c n ∧ p ≠ a ∧ q ≠ a ∧ H p = some (.lst (iv ns)) ∧ H q = some (.lst (iv ms)) ∧ ns.length ≤ 30 ∧ ms.length ≤ 4 ∧ Lts ns ∧ Lts ms ∧ n ≤ 7500 ∧ ∀ H', Drew a c (n + 1) H H' → Q (.bl true) H'
theorem cb_lc {r : List V → Hp → VK → Prop} {wi : TI} {g : TG} {tt : TT} {te : TE} {vs : List Nat} {σ : L2.St} {H : Hp} {Q : VK}
    (h : wi σ H fun J H1 => tLc (fun _ H R => R J H) g tt te vs σ H1 fun y H2 => r [y] H2 Q) : tCB r (tCons (tLc wi g tt te vs) tNil) σ H Q := h
/-- the dict of a balance -/
def balK (ns : List Int) : List (Key × V) := (Fr.bal ns).map fun b => (Sum.inl b.1, V.int b.2)
theorem PrT.split {K : PySem.W.Frag} {H : Hp} {ws : List V} {prs : List (Int × Int)} (h : All2 (PrT K H) ws prs) : ∃ ps : List Addr, ws = ps.map V.ref ∧ Paired (fun p kv => SqT K H p [kV kv.1, kv.2]) ps (prs.map fun b => ((Sum.inl b.1 : Key), V.int b.2)) := by
  induction h with
  | nil => exact ⟨[], rfl, .nil⟩
  | @cons a b as bs h _ ih =>
    obtain ⟨q, rfl, h1⟩ := h
    obtain ⟨ps, rfl, i2⟩ := ih
    exact ⟨q :: ps, rfl, .cons h1 i2⟩
theorem val_bal (ns : List Int) {e : Int} (e1 : 1 ≤ e) (e2 : e ≤ 26) : (valV (mergeK [] (balK ns)) (Sum.inl e)).getD (.int 0) = V.int (Fr.cnt ns e) := by
  have nd : ((balK ns).map (·.1)).Nodup := by
    have : (balK ns).map (·.1) = ((Fr.bal ns).map (·.1)).map (fun i => (Sum.inl i : Key)) := by
      unfold balK
      rw [List.map_map, List.map_map]
      rfl
    rw [this]
    exact List.Pairwise.map _ (fun a b n e => n (by injection e)) (Fr.bal_nd ns)
  rw [merge_val _ _ _ nd]
  have e0 : valV ([] : List (Key × V)) (Sum.inl e) = none := rfl
  rw [e0, Option.or_none]
  have gen : ∀ L : List Nat, valV ((((L.map fun (i : Nat) => ((i : Int) + 1, Fr.cnt ns ((i : Int) + 1))).filter fun p => decide (p.2 ≠ 0)).map fun b => ((Sum.inl b.1 : Key), V.int b.2))) (Sum.inl e) = if (∃ i ∈ L, (i : Int) + 1 = e) ∧ Fr.cnt ns e ≠ 0 then some (.int (Fr.cnt ns e)) else none := by
    intro L
    induction L with
    | nil => rw [if_neg (fun h => by obtain ⟨⟨i, hi, _⟩, _⟩ := h; cases hi)]; rfl
    | cons i L ih =>
      rw [List.map_cons, List.filter_cons]
      by_cases hc : Fr.cnt ns ((i : Int) + 1) = 0
      · rw [if_neg (by simpa using hc), ih]
        by_cases h : (∃ j ∈ L, (j : Int) + 1 = e) ∧ Fr.cnt ns e ≠ 0
        · obtain ⟨⟨j, hj, ej⟩, h2⟩ := id h
          rw [if_pos h, if_pos ⟨⟨j, List.mem_cons_of_mem _ hj, ej⟩, h2⟩]
        · rw [if_neg h, if_neg]
          rintro ⟨⟨j, hj, ej⟩, h2⟩
          rcases List.mem_cons.mp hj with rfl | hj
          · rw [ej] at hc
            exact h2 hc
          · exact h ⟨⟨j, hj, ej⟩, h2⟩
      · rw [if_pos (by simpa using hc), List.map_cons]
        by_cases he : (i : Int) + 1 = e
        · rw [valV_pos (by rw [he]), if_pos ⟨⟨i, List.mem_cons_self, he⟩, by rw [← he]; exact hc⟩, he]
        · rw [valV_neg (fun z => he (by injection z)), ih]
          by_cases h : (∃ j ∈ L, (j : Int) + 1 = e) ∧ Fr.cnt ns e ≠ 0
          · obtain ⟨⟨j, hj, ej⟩, h2⟩ := id h
            rw [if_pos h, if_pos ⟨⟨j, List.mem_cons_of_mem _ hj, ej⟩, h2⟩]
          · rw [if_neg h, if_neg]
            rintro ⟨⟨j, hj, ej⟩, h2⟩
            rcases List.mem_cons.mp hj with rfl | hj
            · exact he ej
            · exact h ⟨⟨j, hj, ej⟩, h2⟩
  have h := gen (List.range 26)
  have eb : balK ns = (((List.range 26).map fun (i : Nat) => ((i : Int) + 1, Fr.cnt ns ((i : Int) + 1))).filter fun p => decide (p.2 ≠ 0)).map fun b => ((Sum.inl b.1 : Key), V.int b.2) := rfl
  rw [eb, h]
  by_cases hc : Fr.cnt ns e = 0
  · rw [if_neg (fun q => q.2 hc), hc]
    rfl
  · rw [if_pos ⟨⟨(e - 1).toNat, List.mem_range.mpr (by omega), by omega⟩, hc⟩]
    rfl
section
variable {X : Cx} {C : Addr} {o e : Expr} {es : List Expr} {ta : TE} {t : TA} {m : Str} {ps : List Str} {sp : Sp} {apos pos : Pos} {j : Nat}
theorem pe_sw {pl : Sem Bool} (M : SMw X.prog X.w X.K X.mg X.base C m ps sp) (hr : Room j X.A) (hj : 6 ≤ j) (he : PE X o ta) (ha : PA X (e :: es) t)
    (hst : starEach (e :: es) X.env = (false, eval e X.env) :: starEach es X.env := by rfl) (hpl : (backTo pos (starEach es X.env)).any (·.1) = false := by rfl)
    (ht : eval (.Call (.Attribute o m apos) (e :: es) [] pos) X.env = (do
      let ov ← eval o X.env
      standAt apos.atName
      let (f, first) ← holding [ov] (getMethod ov m pl)
      callWith pos f first (backTo pos (starEach (e :: es) X.env)) (backToKw pos (keywordEach [] X.env))) := by rfl) :
    PE X (.Call (.Attribute o m apos) (e :: es) [] pos) (MStat.tSMeth C sp ta t) := by
  obtain ⟨mc, p, g, fd, hm, F, hb⟩ := M.ex
  exact MStat.pe_smeth he hm F (hr.mono hj) hb ha hst hpl ht
end
section
variable {P : Program} {w : World} {K : PySem.W.Frag} {mg : Str → Option Value} {base : Heap} {C : Addr}
theorem scBalR : FnScope nBalR ["_law_jar_here", "_law_letters_here", "_law_others"] (defScope sBalR) := ⟨rfl, rfl, rfl, by decide +kernel, rfl, by decide +kernel, by decide +kernel⟩
theorem ok_balR {f : Addr} {fd : FuncData} (F : Fun K "_law_balance_right" "_law_balance_right" sBalR f fd) (T : TxW K mg C) (W : AllW P w K mg base C) (N : LawC P w K mg base) : FnOk P w K mg base CX0 7 f fd ["_law_jar_here", "_law_letters_here", "_law_others"] spBalR := by
  refine F.ok scBalR (fun vs H Q E h => ?_) (fun cdv A outer s H vs Q E hr h => ?_)
  · obtain ⟨a, c, p, q, ns, ms, n, rfl, _⟩ := h
    rfl
  · obtain ⟨a, c, p, q, ns, ms, n, rfl, hH, hpa, hqa, hp, hq, ln, lm, hn, hm, hb, k⟩ := h
    refine ⟨_, pss_cons (ps_asg (pe_tup (pa_cons (pe_word W.mkw T hr (by decide) (by rfl) (pa_cons (pv 1) pa_nil)) (pa_cons (pe_word W.mkw T hr (by decide) (by rfl) (pa_cons (pv 2) pa_nil)) (pa_cons (pe_cal N.balL hr (by decide) (by rfl) (pa_cons (pv 1) pa_nil)) (pa_cons (pe_op op_add pe_int (pe_cal N.draw hr (by decide) (by rfl) (pa_cons (pv 0) (pa_cons pe_int pa_nil)))) pa_nil)))))
        (pg_tup (n := 4) rfl (pgs_cons (pg_name (i := 3) scBalR.nd rfl (Or.inl rfl)) (pgs_cons (pg_name (i := 4) scBalR.nd rfl (Or.inl rfl)) (pgs_cons (pg_name (i := 5) scBalR.nd rfl (Or.inl rfl)) (pgs_cons (pg_name (i := 6) scBalR.nd rfl (Or.inl rfl)) pgs_nil))))))
      (pss_cons (ps_if (PW.pt (pw_or (pt_cmpR (op_neD hr.units) (pe_calK W.balK hr (by decide) (by rfl) (pk_cons (pv 3) pk_nil)) (pv 5) (nomark _))
          (pw_or1 (pt_cmpR op_ne (pe_callB call_repr_bool (by rfl) N.repr (by decide +kernel) (pa_cons (pe_calK W.isbK hr (by decide) (by rfl) (pk_cons (pv 3) pk_nil)) pa_nil)) (pe_callB call_repr_bool (by rfl) N.repr (by decide +kernel) (pa_cons (pe_cmpR (op_eqD hr.units) (pv 5) (pe_tup pa_nil) (nomark _)) pa_nil)) (nomark _))))) (pss_one (ps_ret pe_bl)) pss_nil)
      (pss_cons (ps_par (i := 7) (j := 8) (by rfl) scBalR.nd rfl rfl (by decide) rfl rfl (pa_cons (pe_callTy (call_dictP rfl) (by rfl) N.dict (by decide +kernel) (pa_cons (pe_callTy call_list_of (by rfl) N.list (by decide +kernel) (pa_cons (pv 5) pa_nil)) pa_nil)) (pa_cons (pe_callTy (call_dictP rfl) (by rfl) N.dict (by decide +kernel) (pa_cons (pe_callTy call_list_of (by rfl) N.list (by decide +kernel) (pa_cons (pe_cal N.balL hr (by decide) (by rfl) (pa_cons (pv 2) pa_nil)) pa_nil)) pa_nil)) pa_nil)) (by rfl))
      (pss_cons (ps_if (PW.pt (pw_or (pt_cmpR (op_neD hr.units) (pe_cal W.bal hr (by decide) (by rfl) (pa_cons (pe_w0 W.con T.cl hr (by decide) (pv 3)) pa_nil)) (pe_callTy call_tuple_of (by rfl) N.tuple (by decide +kernel) (pa_cons (pe_lc (own := [("_law_each", 9), ("_law_more", 10)]) (g := gTup K 2 (gCons (gName 9) (gCons (gName 10) gNil))) (tt := tYes) rfl scBalR.nd (pi_tup (pv 5)) (blkOk_by (N := nBalR) (sc := defScope sBalR) (by decide +kernel))
          (fun _ _ _ _ _ => pg_tup (n := 2) rfl (pgs_cons (pg_name (i := 9) scBalR.nd rfl (Or.inl rfl)) (pgs_cons (pg_name (i := 10) scBalR.nd rfl (Or.inl rfl)) pgs_nil))) (fun _ _ _ _ _ => pts_nil) (fun _ _ _ _ _ => pe_tup (pa_cons (pv 9) (pa_cons (pe_un un_neg (pv 10)) pa_nil)))) pa_nil)) (nomark _))
          (pw_or1 (pt_cmpR (op_neD hr.units) (pe_cal W.bal hr (by decide) (by rfl) (pa_cons (pe_w1 W.trd T.cl hr (by decide) (pv 3) (pa_cons pe_int pa_nil)) pa_nil)) (pv 5) (nomark _))))) (pss_one (ps_ret pe_bl)) pss_nil)
      (pss_cons (ps_if (PW.pt (pw_or (pt_cmpR (op_neD hr.units) (pe_cal W.bal hr (by decide) (by rfl) (pa_cons (pe_w0 W.sht T.cl hr (by decide) (pv 3)) pa_nil)) (pv 5) (nomark _))
          (pw_or (pt_cmpR (op_neD hr.units) (pe_cal W.bal hr (by decide) (by rfl) (pa_cons (pe_w0 W.rnd T.cl hr (by decide) (pv 3)) pa_nil)) (pv 5) (nomark _))
          (pw_or1 (pt_cmpR (op_neD hr.units) (pe_cal W.bal hr (by decide) (by rfl) (pa_cons (pe_w1 W.thn T.cl hr (by decide) (pv 3) (pa_cons (pv 4) pa_nil)) pa_nil)) (pe_cal N.balL hr (by decide) (by rfl) (pa_cons (pe_op op_cat (pv 1) (pv 2)) pa_nil)) (nomark _)))))) (pss_one (ps_ret pe_bl)) pss_nil)
      (pss_cons (ps_set (i := 11) scBalR.nd rfl (Or.inl rfl) (pe_lst pa_nil))
      (pss_cons (ps_for PassesOwn.never rfl (pi_range2 (by rfl) N.range (pa_cons pe_int (pa_cons pe_int pa_nil))) (pg_name (i := 9) scBalR.nd rfl (Or.inl rfl))
        (pss_cons (ps_set (i := 10) scBalR.nd rfl (Or.inl rfl) (pe_op op_add (pe_ifExp (pt_cmpR op_eq (pv 9) (pv 6) (nomark _)) pe_int (pe_dget2 (units1 hr) (pv 7) (pv 9) pe_int ⟨rfl, rfl, rfl, rfl⟩))
            (pe_op op_mul (pe_dget2 (units1 hr) (pv 7) (pv 6) pe_int ⟨rfl, rfl, rfl, rfl⟩) (pe_dget2 (units1 hr) (pv 8) (pv 9) pe_int ⟨rfl, rfl, rfl, rfl⟩))))
        (pss_one (ps_expr (pe_bm PySem.F.plainAttrs_list PySem.F.slot_list_extend PySem.F.type_list_extend mt_extend (pv 11) (pa_cons (pe_ifExp (pt_cmpR op_ne (pv 10) pe_int (nomark _)) (pe_lst (pa_cons (pe_tup (pa_cons (pv 9) (pa_cons (pv 10) pa_nil))) pa_nil)) (pe_lst pa_nil)) pa_nil))))))
      (pss_cons (ps_if (pt_cmpR (op_neD hr.units) (pe_cal W.bal hr (by decide) (by rfl) (pa_cons (pe_cal W.put hr (by decide) (by rfl) (pa_cons (pv 3) (pa_cons (pv 6) (pa_cons (pv 4) pa_nil)))) pa_nil)) (pe_callTy call_tuple_of (by rfl) N.tuple (by decide +kernel) (pa_cons (pv 11) pa_nil)) (nomark _)) (pss_one (ps_ret pe_bl)) pss_nil)
      (pss_one (ps_ret (pe_and (pe_cmpR op_isBl (pe_cal W.isb hr (by decide) (by rfl) (pa_cons (pe_sw W.exc hr (by decide) (pe_glob (v := .ref C) (by rfl) T.mgW rfl) (pa_cons (pv 3) (pa_cons (pv 4) pa_nil))) pa_nil)) pe_bl (nomark _))
          (pe_one (pe_cmpR (op_eqD hr.units) (pe_cal W.bal hr (by decide) (by rfl) (pa_cons (pe_w1 W.tms T.cl hr (by decide) (pv 3) (pa_cons (pe_un un_neg pe_int) pa_nil)) pa_nil)) (pe_callTy call_tuple_of (by rfl) N.tuple (by decide +kernel) (pa_cons (pe_lc (own := [("_law_each", 9), ("_law_more", 10)]) (g := gTup K 2 (gCons (gName 9) (gCons (gName 10) gNil))) (tt := tYes) rfl scBalR.nd (pi_tup (pv 5)) (blkOk_by (N := nBalR) (sc := defScope sBalR) (by decide +kernel))
          (fun _ _ _ _ _ => pg_tup (n := 2) rfl (pgs_cons (pg_name (i := 9) scBalR.nd rfl (Or.inl rfl)) (pgs_cons (pg_name (i := 10) scBalR.nd rfl (Or.inl rfl)) pgs_nil))) (fun _ _ _ _ _ => pts_nil) (fun _ _ _ _ _ => pe_tup (pa_cons (pv 9) (pa_cons (pe_op op_mul (pe_un un_neg pe_int) (pv 10)) pa_nil)))) pa_nil)) (nomark _))))))))))))), ?_⟩
    -- two words, a balance, a kind
    refine ⟨_, rfl, fun x dx nx ndx _ => make_at nx ndx (.inl (SqL.of hp)) (by omega) hn fun H1 s1 W1 => ?_⟩
    refine ⟨_, rfl, fun y dy ny ndy _ => make_at ny ndy (.inl (SqL.of (s1 _ _ hq))) (by omega) hm fun H2 s2 W2 => ?_⟩
    have s12 := s1.trans s2
    refine ⟨_, rfl, p, ns, rfl, s12 _ _ hp, by omega, fun du H3 s3 B3 => ?_⟩
    have s13 := s12.trans s3
    refine ⟨_, rfl, a, c, 4, n, rfl, hH.same s13, by omega, by decide, by decide, fun H4 dd d0 d1 hH4 hK4 => ?_⟩
    have d4 : Drew a c (n + 1) H3 H4 := ⟨hH4, hK4⟩
    have Wx := ((W1.same s2).same s3).drew (hH.same s13) d4
    have Wy := (W2.same s3).drew (hH.same s13) d4
    have hp4 := hK4 _ _ hpa (s13 _ _ hp)
    have hq4 := hK4 _ _ hqa (s13 _ _ hq)
    have D4 : Drew a c (n + 1) H H4 := ((Drew.refl hH).same s13).trans d4
    have B4 : BalAt K H4 du (Fr.bal ns) := by
      obtain ⟨us, b1, b2⟩ := B3
      exact ⟨us, SqT.drew (hH.same s13) d4 b1, b2.imp fun _ _ r => r.drew (hH.same s13) d4⟩
    obtain ⟨kd, ekd⟩ : ∃ kd : Int, kd = 1 + dd := ⟨_, rfl⟩
    have k1 : 1 ≤ kd := by omega
    have k2 : kd ≤ 26 := by omega
    refine ⟨_, _, rfl, rfl, by show 4 ≤ sizeLine; decide, fun T0 hT0 => ⟨T0, _, rfl, SqT.of upd_same, rfl, _, _, rfl, _, _, rfl, _, _, rfl, _, _, rfl, rfl, ?_⟩⟩
    try dsimp only
    rw [← ekd]
    have s5 := same_upd (o := .tup [.ref x, .ref y, .ref du, .int kd]) hT0
    obtain ⟨H5, e5⟩ : ∃ H5, H5 = L2.upd H4 T0 (.tup [.ref x, .ref y, .ref du, .int kd]) := ⟨_, rfl⟩
    rw [← e5] at s5 ⊢
    have Wx := Wx.same s5
    have Wy := Wy.same s5
    have B := B4.same s5
    have hp5 := s5 _ _ hp4
    have hq5 := s5 _ _ hq4
    have D5 := D4.same s5
    clear e5 s5 B4 hp4 hq4 D4 hT0 W1 W2 B3 hK4 hH4 d4 s13 s12 s3 s2 s1
    -- what is told
    refine ⟨_, rfl, rfl, x, ns, rfl, Wx, by omega, hn, fun b1 I1 t1 BB => ?_⟩
    refine ⟨_, rfl, _, _, BB.dp, (B.same t1).dp, shapedPB _, shapedPB _, _, rfl, no_ne (by rw [eqvPB, decide_eq_true rfl]) ?_⟩
    refine ⟨_, rfl, rfl, x, ns, rfl, Wx.same t1, by omega, hn, fun I2 t2 => ?_⟩
    have t12 := t1.trans t2
    refine ⟨_, rfl, _, rfl, Nat.zero_le _, fun t0 ht0 => ?_⟩
    have t3 := same_upd (o := .tup []) ht0
    have t13 := t12.trans t3
    refine ⟨_, PB [], (B.same t13).dp, .tup (SqT.of upd_same) .nil, shapedPB _, shapedPB _, _, rfl, rfl, _, rfl, no_ne (by rw [eqvPB]; exact decide_eq_true rfl) ?_⟩
    have Wx := Wx.same t13
    have Wy := Wy.same t13
    have B := B.same t13
    have hp := t13 _ _ hp5
    have hq := t13 _ _ hq5
    have D := D5.same t13
    obtain ⟨G, eG⟩ : ∃ G, G = L2.upd I2 t0 (.tup []) := ⟨_, rfl⟩
    rw [← eG] at Wx Wy B hp hq D ⊢
    clear eG t13 t12 t3 t2 t1 BB hp5 hq5 D5 ht0
    -- two dicts
    obtain ⟨us, b1, b2⟩ := id B
    obtain ⟨ps, rfl, hpd⟩ := PrT.split b2
    refine ⟨_, rfl, du, _, rfl, .inr b1, fun l1 hl1 => ?_⟩
    have v1 := same_upd (o := .lst (ps.map V.ref)) hl1
    refine ⟨l1, ps, balK ns, rfl, SqL.of upd_same, L2.Paired.mapP hpd fun _ _ r => WR.Same.seqT v1 r, fun d1 hd1 => ?_⟩
    have v2 := v1.trans (same_upd (o := .dK (mergeK [] (balK ns))) hd1)
    have g1 : L2.upd (L2.upd G l1 (.lst (ps.map V.ref))) d1 (.dK (mergeK [] (balK ns))) d1 = some (.dK (mergeK [] (balK ns))) := upd_same
    refine ⟨_, rfl, q, ms, rfl, v2 _ _ hq, by omega, fun bo J1 w1 Bo => ?_⟩
    obtain ⟨us2, c1, c2⟩ := id Bo
    obtain ⟨ps2, rfl, hpd2⟩ := PrT.split c2
    refine ⟨bo, _, rfl, .inr c1, fun l2 hl2 => ?_⟩
    have w2 := same_upd (o := .lst (ps2.map V.ref)) hl2
    refine ⟨l2, ps2, balK ms, rfl, SqL.of upd_same, L2.Paired.mapP hpd2 fun _ _ r => WR.Same.seqT w2 r, fun d2 hd2 => ⟨_, _, rfl, ?_⟩⟩
    try dsimp only
    have w3 := w2.trans (same_upd (o := .dK (mergeK [] (balK ms))) hd2)
    have g2 : L2.upd (L2.upd J1 l2 (.lst (ps2.map V.ref))) d2 (.dK (mergeK [] (balK ms))) d2 = some (.dK (mergeK [] (balK ms))) := upd_same
    have w13 := w1.trans w3
    have g1 := w13 _ _ g1
    have v3 := v2.trans w13
    obtain ⟨J, eJ⟩ : ∃ J, J = L2.upd (L2.upd J1 l2 (.lst (ps2.map V.ref))) d2 (.dK (mergeK [] (balK ms))) := ⟨_, rfl⟩
    rw [← eJ] at g1 g2 v3 ⊢
    have Wx := Wx.same v3
    have Wy := Wy.same v3
    have B := B.same v3
    have hp := v3 _ _ hp
    have hq := v3 _ _ hq
    have D := D.same v3
    clear eJ v3 w13 w3 w2 hpd2 c1 c2 Bo w1 v2 hd1 v1 hpd b1 b2 hl1 hl2 hd2
    -- contraries, turned
    have lcn : (Fr.con ns).length = ns.length := Fr.con_length ns
    have lbal : ∀ zs : List Int, (Fr.bal zs).length ≤ 26 := fun zs => balN_len zs 26
    obtain ⟨dx, fs, h1, h2⟩ := Wx.no nm1
    refine ⟨_, rfl, x, dx, fs, rfl, h1, h2, x, ns, rfl, Wx, by omega, hn, fun e1 I1 t1 V1 => ?_⟩
    refine ⟨e1, _, rfl, V1, by omega, hn.con, fun e2 I2 t2 B2 => cb_lc ?_⟩
    have t12 := t1.trans t2
    obtain ⟨us, b1, b2⟩ := id (B.same t12)
    have lu := b2.length
    have lb := lbal ns
    refine ⟨_, rfl, du, rfl, ⟨_, b1⟩, ?_⟩
    refine lcM (walk_tup (K := K) (a := du) (xs := us)) ((Fr.bal ns).map fun p => (p.1, -1 * p.2)) (fun D H v p => PrT K H v p) (fun _ _ _ _ _ h s => h.same s) (fun _ _ _ _ _ _ hD h => PrT.put hD h) (by omega) (by rw [List.length_map]; exact lu) (fun H2 s2 => WR.Same.seqT s2 b1) ?_ (fun x σ1 H A B k h => gTup_mono k h) ?_
    · intro i y' b hx hb D H2 hD ⟨us', hus'⟩ s2 Qy ky
      obtain ⟨b0, hb0, r⟩ := b2.at hx
      rw [List.getElem?_map, hb0] at hb
      obtain rfl := Option.some.inj hb
      obtain ⟨q', rfl, hq'⟩ := r.same s2
      refine ⟨q', _, rfl, hq', rfl, _, _, rfl, _, _, rfl, rfl, ?_⟩
      refine ⟨rfl, ?_⟩
      refine ⟨_, rfl, _, rfl, _, rfl, by show 2 ≤ sizeLine; decide, fun t ht => ky _ _ (same_upd ht) ⟨t, rfl, ?_⟩⟩
      have : (-1 : Int) * b0.2 = -b0.2 := by omega
      show SqT K _ t [.int b0.1, .int (-1 * b0.2)]
      rw [this]
      exact SqT.of upd_same
    intro D2 I3 ws hD2 t3 h3 r3
    refine ⟨D2, _, rfl, .inl ⟨SqL.of h3, fun tp htp => ?_⟩⟩
    have t4 := same_upd (o := .tup ws) htp
    have t34 := t3.trans t4
    have BN : BalAt K (L2.upd I3 tp (.tup ws)) tp ((Fr.bal ns).map fun p => (p.1, -1 * p.2)) := ⟨ws, SqT.of upd_same, r3.imp fun _ _ r => r.same t4⟩
    refine ⟨_, _, (B2.same t34).dp, BN.dp, shapedPB _, shapedPB _, _, rfl, no_ne (by rw [eqvPB, Fr.bal_mul (xs := ns) (c := -1) (by decide) (fun k => by rw [Fr.cnt_con]; omega)]; exact decide_eq_true rfl) ?_⟩
    have t14 := t12.trans t34
    have Wx := Wx.same t14
    have Wy := Wy.same t14
    have B := B.same t14
    have hp := t14 _ _ hp
    have hq := t14 _ _ hq
    have D := D.same t14
    have g1 := t14 _ _ g1
    have g2 := t14 _ _ g2
    obtain ⟨G2, eG⟩ : ∃ G, G = L2.upd I3 tp (.tup ws) := ⟨_, rfl⟩
    rw [← eG] at Wx Wy B hp hq D g1 g2 ⊢
    clear eG t14 BN t34 t4 r3 h3 t3 B2 V1 t12 t2 t1 htp
    have ltr := trn_length ns 3
    obtain ⟨dx, fs, h1, h2⟩ := Wx.no nm6
    refine ⟨_, rfl, x, dx, fs, rfl, h1, h2, x, 3, ns, rfl, Wx, by omega, hn, fun e1 I1 t1 V1 => ?_⟩
    refine ⟨e1, _, rfl, V1, by omega, hn.trn 3, fun e2 I2 t2 B2 => ?_⟩
    have t12 := t1.trans t2
    refine ⟨_, rfl, _, _, B2.dp, (B.same t12).dp, shapedPB _, shapedPB _, _, rfl, no_ne ?_ ?_⟩
    · rw [eqvPB]
      refine decide_eq_true (Fr.bal_congr fun k => ?_)
      unfold trn
      split
      · rename_i h; rw [h]
      · exact Fr.cnt_rot _ _ _
    have Wx := Wx.same t12
    have Wy := Wy.same t12
    have B := B.same t12
    have hp := t12 _ _ hp
    have hq := t12 _ _ hq
    have D := D.same t12
    have g1 := t12 _ _ g1
    have g2 := t12 _ _ g2
    clear B2 V1 t12 t1 t2
    -- shortened, one behind the other
    have lsh := shr_len ns
    have lrn := rnd_len hn
    obtain ⟨dx, fs, h1, h2⟩ := Wx.no nm2
    refine ⟨_, rfl, x, dx, fs, rfl, h1, h2, x, ns, rfl, Wx, by omega, hn, fun e1 I3 t1 V1 => ?_⟩
    refine ⟨e1, _, rfl, V1, by omega, hn.shr, fun e2 I4 t2 B2 => ?_⟩
    have t12 := t1.trans t2
    refine ⟨_, rfl, _, _, B2.dp, (B.same t12).dp, shapedPB _, shapedPB _, _, rfl, no_ne (by rw [eqvPB, Fr.bal_shr]; exact decide_eq_true rfl) ?_⟩
    obtain ⟨dx, fs, h1, h2⟩ := (Wx.same t12).no nm3
    refine ⟨_, rfl, x, dx, fs, rfl, h1, h2, x, ns, rfl, Wx.same t12, by omega, hn, fun e3 I5 t3 V3 => ?_⟩
    refine ⟨e3, _, rfl, V3, by omega, hn.rnd, fun e4 I6 t4 B4 => ?_⟩
    have t14 := (t12.trans t3).trans t4
    refine ⟨_, rfl, _, _, B4.dp, (B.same t14).dp, shapedPB _, shapedPB _, _, rfl, no_ne (by rw [eqvPB, Fr.bal_congr (Fr.cnt_rnd hn.nz)]; exact decide_eq_true rfl) ?_⟩
    obtain ⟨dx, fs, h1, h2⟩ := (Wx.same t14).no nm4
    have lap : (ns ++ ms).length ≤ 40 := by rw [List.length_append]; omega
    refine ⟨_, rfl, x, dx, fs, rfl, h1, h2, _, rfl, x, y, ns, ms, rfl, Wx.same t14, Wy.same t14, by omega, hn, hm, fun e5 I7 t5 V5 => ?_⟩
    refine ⟨e5, _, rfl, V5, by omega, hn.app hm, fun e6 I8 t6 B6 => ?_⟩
    have t16 := (t14.trans t5).trans t6
    refine ⟨_, rfl, _, rfl, p, q, _, _, rfl, rfl, t16 _ _ hp, t16 _ _ hq, Evl.sz_of (by simp only [List.length_map]; omega), fun pq hpq => ?_⟩
    have t7 := same_upd (o := .lst (iv ns ++ iv ms)) hpq
    have hpq2 : L2.upd I8 pq (.lst (iv ns ++ iv ms)) pq = some (.lst (iv (ns ++ ms))) := by rw [upd_same]; simp [iv]
    refine ⟨pq, ns ++ ms, rfl, hpq2, by omega, fun e7 I9 t8 B8 => ?_⟩
    have t78 := t7.trans t8
    refine ⟨_, _, (B6.same t78).dp, B8.dp, shapedPB _, shapedPB _, _, rfl, no_ne (by rw [eqvPB]; exact decide_eq_true rfl) ?_⟩
    have t18 := t16.trans t78
    have Wx := Wx.same t18
    have Wy := Wy.same t18
    have B := B.same t18
    have D := D.same t18
    have g1 := t18 _ _ g1
    have g2 := t18 _ _ g2
    clear t18 t78 t8 t7 t16 t6 t5 t14 t4 t3 t12 t1 t2 B2 B4 B6 B8 V1 V3 V5 hpq2 hpq hp hq
    -- what is found
    refine ⟨Nat.zero_le _, fun fo hfo => ?_⟩
    have sf := same_upd (o := .lst []) hfo
    refine at_set ?_
    try dsimp only
    obtain ⟨zs, ezs⟩ : ∃ zs, zs = Fr.sub (Fr.putF kd ms) ns := ⟨_, rfl⟩
    have lzs : zs.length ≤ ns.length * 4 := by rw [ezs]; exact put_len lm
    refine ⟨1, 27, rfl, by decide, for_range (lo := 1) (n := ((27 : Int) - 1).toNat) (fun i σ H' => ∃ (v9 v10 : Option V) (us : List V), σ = [some (.ref a), some (.ref p), some (.ref q), some (.ref x), some (.ref y), some (.ref du), some (.int kd), some (.ref d1), some (.ref d2), v9, v10, some (.ref fo)] ∧ Same I9 H' ∧ H' fo = some (.lst us) ∧ All2 (PrT K H') us (balN zs i))
      ⟨none, none, [], rfl, sf, upd_same, .nil⟩ ?_ ?_⟩
    · rintro i σ H1 hi ⟨v9, v10, us, rfl, sm, hL, hu⟩
      have hi26 : i < 26 := hi
      have lu := hu.length
      have lb := balN_len zs i
      have hstep := balN_succ zs i
      have e1 : (1 : Int) + (i : Nat) = (i : Int) + 1 := by omega
      have g1 := sm _ _ g1
      have g2 := sm _ _ g2
      have hv1 := val_bal ns (e := (i : Int) + 1) (by omega) (by omega)
      have hvk := val_bal ns (e := kd) k1 k2
      have hv2 := val_bal ms (e := (i : Int) + 1) (by omega) (by omega)
      have hcs := Fr.cnt_sub (k := kd) (by omega) ms (e := (i : Int) + 1) (by omega) ns hn.nz
      rw [← ezs] at hcs
      generalize hc : Fr.cnt zs ((i : Int) + 1) = cc at hstep hcs
      have hbn := Fr.cnt_le ns kd
      try dsimp only
      rw [e1]
      by_cases he : (i : Int) + 1 = kd
      · rw [if_pos he] at hcs
        refine ⟨_, rfl, _, rfl, rfl, _, rfl, iteT' (decide_eq_true (by rw [he])) ?_⟩
        refine ⟨_, rfl, d1, rfl, .inl ⟨_, .inl g1⟩, _, rfl, _, DGet.k (k := Sum.inl kd) g1, ?_⟩
        rw [hvk]
        refine ⟨_, rfl, d2, rfl, .inl ⟨_, .inl g2⟩, _, rfl, _, DGet.k (k := Sum.inl ((i : Int) + 1)) g2, ?_⟩
        rw [hv2]
        refine ⟨_, _, rfl, rfl, .inl ⟨by omega, by omega⟩, _, _, rfl, rfl, ?_⟩
        show gName 10 (V.int (0 + Fr.cnt ns kd * Fr.cnt ms ((i : Int) + 1))) _ _ _
        rw [← hcs]
        refine at_set ?_
        try dsimp only
        refine ⟨_, rfl, .inl ⟨rfl, _, SqL.of hL⟩, ?_⟩
        refine ⟨_, rfl, rfl, _, rfl, ?_⟩
        refine ite2 (fun hn => ?_) (fun hn => ?_)
        · have hn : cc ≠ 0 := fun z => by
            rw [z] at hn
            exact absurd hn (by decide)
          rw [if_pos hn] at hstep
          refine ⟨_, rfl, _, rfl, by show 2 ≤ sizeLine; decide, fun t ht => ⟨by show 1 ≤ sizeLine; decide, fun q hq => ?_⟩⟩
          have st := same_upd (o := .tup [.int ((i : Int) + 1), .int cc]) ht
          have gt : L2.upd H1 t (.tup [.int ((i : Int) + 1), .int cc]) t = some (.tup [.int ((i : Int) + 1), .int cc]) := upd_same
          have sq := same_upd (o := .lst [.ref t]) hq
          have stq := st.trans sq
          have hL5 := stq _ _ hL
          refine ⟨fo, q, us, _, rfl, rfl, hL5, upd_same, Evl.sz_of (by show us.length + 1 ≤ _; omega), ?_⟩
          refine ⟨_, _, _, rfl, fun b o e => ?_, upd_same, ?_⟩
          · rw [upd_ne (ne_of_none e hfo)]
            exact stq _ _ (sm _ _ e)
          · rw [hstep]
            refine All2.app (hu.imp fun _ _ r => PrT.put hL5 (r.same stq)) (.cons ?_ .nil)
            exact PrT.put hL5 ⟨t, rfl, SqT.of (sq _ _ gt)⟩
        · have hn : ¬ cc ≠ 0 := fun z => hn (by
            have : ¬ (V.int cc = V.int 0) := fun q => z (by injection q)
            simp [this])
          rw [if_neg hn, List.append_nil] at hstep
          refine ⟨Nat.zero_le _, fun q hq => ?_⟩
          have sq := same_upd (o := .lst []) hq
          have hL5 := sq _ _ hL
          refine ⟨fo, q, us, [], rfl, rfl, hL5, upd_same, Evl.sz_of (by show us.length + 0 ≤ _; omega), ?_⟩
          rw [List.append_nil]
          refine ⟨_, _, _, rfl, fun b o e => ?_, upd_same, ?_⟩
          · rw [upd_ne (ne_of_none e hfo)]
            exact sq _ _ (sm _ _ e)
          · rw [hstep]
            exact hu.imp fun _ _ r => PrT.put hL5 (r.same sq)
      · rw [if_neg he] at hcs
        refine ⟨_, rfl, _, rfl, rfl, _, rfl, iteF' (decide_eq_false (fun z => he (by injection z))) ?_⟩
        refine ⟨_, rfl, d1, rfl, .inl ⟨_, .inl g1⟩, _, rfl, _, DGet.k (k := Sum.inl ((i : Int) + 1)) g1, ?_⟩
        rw [hv1]
        refine ⟨_, rfl, d1, rfl, .inl ⟨_, .inl g1⟩, _, rfl, _, DGet.k (k := Sum.inl kd) g1, ?_⟩
        rw [hvk]
        refine ⟨_, rfl, d2, rfl, .inl ⟨_, .inl g2⟩, _, rfl, _, DGet.k (k := Sum.inl ((i : Int) + 1)) g2, ?_⟩
        rw [hv2]
        refine ⟨_, _, rfl, rfl, .inl ⟨by omega, by omega⟩, _, _, rfl, rfl, ?_⟩
        show gName 10 (V.int (Fr.cnt ns ((i : Int) + 1) + Fr.cnt ns kd * Fr.cnt ms ((i : Int) + 1))) _ _ _
        rw [← hcs]
        refine at_set ?_
        try dsimp only
        refine ⟨_, rfl, .inl ⟨rfl, _, SqL.of hL⟩, ?_⟩
        refine ⟨_, rfl, rfl, _, rfl, ?_⟩
        refine ite2 (fun hn => ?_) (fun hn => ?_)
        · have hn : cc ≠ 0 := fun z => by
            rw [z] at hn
            exact absurd hn (by decide)
          rw [if_pos hn] at hstep
          refine ⟨_, rfl, _, rfl, by show 2 ≤ sizeLine; decide, fun t ht => ⟨by show 1 ≤ sizeLine; decide, fun q hq => ?_⟩⟩
          have st := same_upd (o := .tup [.int ((i : Int) + 1), .int cc]) ht
          have gt : L2.upd H1 t (.tup [.int ((i : Int) + 1), .int cc]) t = some (.tup [.int ((i : Int) + 1), .int cc]) := upd_same
          have sq := same_upd (o := .lst [.ref t]) hq
          have stq := st.trans sq
          have hL5 := stq _ _ hL
          refine ⟨fo, q, us, _, rfl, rfl, hL5, upd_same, Evl.sz_of (by show us.length + 1 ≤ _; omega), ?_⟩
          refine ⟨_, _, _, rfl, fun b o e => ?_, upd_same, ?_⟩
          · rw [upd_ne (ne_of_none e hfo)]
            exact stq _ _ (sm _ _ e)
          · rw [hstep]
            refine All2.app (hu.imp fun _ _ r => PrT.put hL5 (r.same stq)) (.cons ?_ .nil)
            exact PrT.put hL5 ⟨t, rfl, SqT.of (sq _ _ gt)⟩
        · have hn : ¬ cc ≠ 0 := fun z => hn (by
            have : ¬ (V.int cc = V.int 0) := fun q => z (by injection q)
            simp [this])
          rw [if_neg hn, List.append_nil] at hstep
          refine ⟨Nat.zero_le _, fun q hq => ?_⟩
          have sq := same_upd (o := .lst []) hq
          have hL5 := sq _ _ hL
          refine ⟨fo, q, us, [], rfl, rfl, hL5, upd_same, Evl.sz_of (by show us.length + 0 ≤ _; omega), ?_⟩
          rw [List.append_nil]
          refine ⟨_, _, _, rfl, fun b o e => ?_, upd_same, ?_⟩
          · rw [upd_ne (ne_of_none e hfo)]
            exact sq _ _ (sm _ _ e)
          · rw [hstep]
            exact hu.imp fun _ _ r => PrT.put hL5 (r.same sq)
    rintro σ HA ⟨v9, v10, us3, rfl, sm, hL, hu⟩
    have hu : All2 (PrT K HA) us3 (Fr.bal zs) := hu
    have Wx := Wx.same sm
    have Wy := Wy.same sm
    have B := B.same sm
    have D := D.same sm
    refine ⟨_, rfl, _, rfl, _, rfl, x, y, kd, ns, ms, rfl, Wx, Wy, k1, k2, by omega, by omega, by rw [← ezs]; omega, hn, hm, fun e1 I1 t1 V1 => ?_⟩
    rw [← ezs] at V1
    refine ⟨e1, _, rfl, V1, by omega, by rw [ezs]; exact putF_lts hm hn, fun e2 I2 t2 B2 => ?_⟩
    have t12 := t1.trans t2
    refine ⟨_, rfl, fo, _, rfl, .inl ⟨SqL.of (t12 _ _ hL), fun tp htp => ?_⟩⟩
    have t3 := same_upd (o := .tup us3) htp
    have BN : BalAt K (L2.upd I2 tp (.tup us3)) tp (Fr.bal zs) := ⟨us3, SqT.of upd_same, hu.imp fun _ _ r => r.same (t12.trans t3)⟩
    refine ⟨_, _, (B2.same t3).dp, BN.dp, shapedPB _, shapedPB _, _, rfl, no_ne (by rw [eqvPB]; exact decide_eq_true rfl) ?_⟩
    have t13 := t12.trans t3
    have Wx := Wx.same t13
    have Wy := Wy.same t13
    have B := B.same t13
    have D := D.same t13
    obtain ⟨G3, eG⟩ : ∃ G, G = L2.upd I2 tp (.tup us3) := ⟨_, rfl⟩
    rw [← eG] at Wx Wy B D ⊢
    clear eG t13 BN t3 t12 t1 t2 B2 V1 htp hL hu sm
    -- exchanged; so many times
    refine ⟨rfl, _, rfl, _, rfl, x, y, ns, ms, rfl, Wx, Wy, by omega, hn, hm, fun e1 I1 t1 V1 => ?_⟩
    have lex := exch_length ns ms
    refine ⟨e1, _, rfl, V1, by omega, hn.exch hm, fun I2 t2 => ?_⟩
    have ez : Fr.bal (exch ns ms) = [] := Fr.bal_zero fun k => Fr.cnt_exch ns ms k
    refine ⟨_, _, rfl, rfl, _, rfl, ?_⟩
    refine iteT' (by rw [decide_eq_true ez]; rfl) ?_
    have t12 := t1.trans t2
    have Wx := Wx.same t12
    have B := B.same t12
    have D := D.same t12
    have ltm := tms_len (-3) ns
    obtain ⟨dx, fs, h1, h2⟩ := Wx.no nm5
    refine ⟨_, rfl, x, dx, fs, rfl, h1, h2, _, rfl, x, -3, ns, rfl, Wx, by omega, by show ns.length * 3 ≤ 500; omega, hn, fun e3 I3 t3 V3 => ?_⟩
    refine ⟨e3, _, rfl, V3, by rw [ltm]; show 3 * ns.length ≤ 500; omega, hn.tms (-3), fun e4 I4 t4 B4 => cb_lc ?_⟩
    have t34 := t3.trans t4
    obtain ⟨us4, b1, b2⟩ := id (B.same t34)
    have lu := b2.length
    have lb := lbal ns
    refine ⟨_, rfl, du, rfl, ⟨_, b1⟩, ?_⟩
    refine lcM (walk_tup (K := K) (a := du) (xs := us4)) ((Fr.bal ns).map fun p => (p.1, -3 * p.2)) (fun D H v p => PrT K H v p) (fun _ _ _ _ _ h s => h.same s) (fun _ _ _ _ _ _ hD h => PrT.put hD h) (by omega) (by rw [List.length_map]; exact lu) (fun H2 s2 => WR.Same.seqT s2 b1) ?_ (fun x σ1 H A B k h => gTup_mono k h) ?_
    · intro i y' b hx hb D H2 hD ⟨us', hus'⟩ s2 Qy ky
      obtain ⟨b0, hb0, r⟩ := b2.at hx
      rw [List.getElem?_map, hb0] at hb
      obtain rfl := Option.some.inj hb
      obtain ⟨q', rfl, hq'⟩ := r.same s2
      refine ⟨q', _, rfl, hq', rfl, _, _, rfl, _, _, rfl, rfl, ?_⟩
      refine ⟨rfl, ?_⟩
      refine ⟨_, rfl, _, rfl, _, rfl, _, _, rfl, rfl, .inl ⟨by decide, by decide⟩, by show 2 ≤ sizeLine; decide, fun t ht => ky _ _ (same_upd ht) ⟨t, rfl, ?_⟩⟩
      exact SqT.of upd_same
    intro D2 I5 ws hD2 t5 h5 r5
    refine ⟨D2, _, rfl, .inl ⟨SqL.of h5, fun tp htp => ?_⟩⟩
    have t6 := same_upd (o := .tup ws) htp
    have t56 := t5.trans t6
    have BN : BalAt K (L2.upd I5 tp (.tup ws)) tp ((Fr.bal ns).map fun p => (p.1, -3 * p.2)) := ⟨ws, SqT.of upd_same, r5.imp fun _ _ r => r.same t6⟩
    refine ⟨_, _, (B4.same t56).dp, BN.dp, shapedPB _, shapedPB _, ?_⟩
    have em : Fr.bal (tms (-3) ns) = (Fr.bal ns).map fun p => (p.1, -3 * p.2) := Fr.bal_mul (by decide) fun k => by
      unfold tms
      rw [if_neg (by decide), Fr.cnt_rep, Fr.cnt_con]
      show ((3 : Nat) : Int) * -Fr.cnt ns k = -3 * Fr.cnt ns k
      omega
    rw [eqvPB, decide_eq_true em]
    exact k _ (D.same (t34.trans t56))
end
end W09
set_option Elab.async false
set_option linter.all false
set_option maxRecDepth 100000
set_option maxHeartbeats 1000000
namespace W09
open PySem L2 PySem.Spec PyProof.Rows WR WB
abbrev sWholeR : Stmt := top 63
abbrev nWholeR : List Str := ["_law_jar_here", "_law_letters_here", "_law_whole", "_law_at", "_law_kind", "_law_back", "_law_told", "_law_letter"]
def spWholeR : Sp := fun vs H Q _ => ∃ (a c : Addr) (n : Nat), vs = [.ref a] ∧ HandAt H a c n ∧ n ≤ 7500 ∧ ∀ H', Drew a c (n + 158) H H' → Q (.bl true) H'
theorem All2.perm {α β : Type} {R : α → β → Prop} {as as' : List α} (p : as'.Perm as) : ∀ {bs : List β}, All2 R as bs → ∃ bs', bs'.Perm bs ∧ All2 R as' bs' := by
  induction p with
  | nil => intro bs h; exact ⟨bs, List.Perm.refl _, h⟩
  | cons x _ ih =>
    intro bs h
    cases h with
    | cons h r =>
      obtain ⟨bs', p', r'⟩ := ih r
      exact ⟨_, p'.cons _, .cons h r'⟩
  | swap x y l =>
    intro bs h
    cases h with
    | cons h r =>
      cases r with
      | cons h2 r => exact ⟨_, List.Perm.swap _ _ _, .cons h2 (.cons h r)⟩
  | trans _ _ ih1 ih2 =>
    intro bs h
    obtain ⟨b1, p1, r1⟩ := ih2 h
    obtain ⟨b2, p2, r2⟩ := ih1 r1
    exact ⟨b2, p2.trans p1, r2⟩
theorem putx_lc {r : List V → Hp → VK → Prop} {wi : TI} {g : TG} {tt : TT} {te : TE} {vs : List Nat} {σ : L2.St} {H : Hp} {p : Addr} {Q : VK} (hi : σ[1]? = some (some (.ref p)))
    (h : wi σ H fun J H1 => tLc (fun _ H R => R J H) g tt te vs σ H1 fun y H2 => r [y] H2 fun d H3 => spPutL [V.ref p, d] H3 Q E0) :
    tCall spPutL [] E0 (tCons (tVar 1) (tCons (tCB r (tCons (tLc wi g tt te vs) tNil)) tNil)) σ H Q := ⟨_, hi, h⟩
/-- all kinds, each with a letter of its own -/
structure WholeOk (whl : List (Int × Int)) (ks : List Int) : Prop where
  len : ks.length = 26
  nd : ks.Nodup
  rg : ∀ z ∈ ks, 1 ≤ z ∧ z ≤ 26
  eq : whl.map (fun p => (p.1, (p.2.natAbs : Int))) = (List.range 26).map (fun (i : Nat) => ((i : Int) + 1, ks.getD i 0))
section
variable {whl : List (Int × Int)} {ks : List Int}
theorem WholeOk.wlen (h : WholeOk whl ks) : whl.length = 26 := by
  have := congrArg List.length h.eq
  rw [List.length_map, List.length_map, List.length_range] at this
  exact this
theorem WholeOk.get (h : WholeOk whl ks) {i : Nat} (hi : i < 26) : 1 ≤ ks.getD i 0 ∧ ks.getD i 0 ≤ 26 := by
  have hlt : i < ks.length := by rw [h.len]; exact hi
  rw [List.getD_eq_getElem?_getD, List.getElem?_eq_getElem hlt]
  exact h.rg _ (List.getElem_mem hlt)
theorem WholeOk.mem (h : WholeOk whl ks) {b : Int × Int} (hb : b ∈ whl) : ∃ i : Nat, i < 26 ∧ b.1 = (i : Int) + 1 ∧ (b.2.natAbs : Int) = ks.getD i 0 := by
  have q : (b.1, (b.2.natAbs : Int)) ∈ whl.map (fun p => (p.1, (p.2.natAbs : Int))) := List.mem_map.mpr ⟨b, hb, rfl⟩
  rw [h.eq] at q
  obtain ⟨i, hi, e⟩ := List.mem_map.mp q
  injection e with e1 e2
  exact ⟨i, List.mem_range.mp hi, e1.symm, e2.symm⟩
theorem WholeOk.good (h : WholeOk whl ks) : GoodP whl := by
  have wl := h.wlen
  refine ⟨by omega, fun b hb => ?_, fun b hb => ?_, ?_⟩
  · obtain ⟨i, hi, e1, _⟩ := h.mem hb
    omega
  · obtain ⟨i, hi, _, e2⟩ := h.mem hb
    have := h.get hi
    omega
  · have e : whl.map (·.1) = (whl.map (fun p => (p.1, (p.2.natAbs : Int)))).map (·.1) := by rw [List.map_map]; rfl
    rw [e, h.eq, List.map_map]
    exact List.Pairwise.map _ (fun u v n e => n (by have e : (u : Int) + 1 = (v : Int) + 1 := e; omega)) List.nodup_range
theorem WholeOk.bnd (h : WholeOk whl ks) : ((whl.map backP).map (·.1)).Nodup := by
  have e : (whl.map backP).map (·.1) = (whl.map (fun p => (p.1, (p.2.natAbs : Int)))).map (·.2) := by rw [List.map_map, List.map_map]; rfl
  rw [e, h.eq, List.map_map]
  refine List.pairwise_map.mpr (List.nodup_range.imp_of_mem fun {u v} hu hv n e => ?_)
  have hu := List.mem_range.mp hu
  have hv := List.mem_range.mp hv
  have e : ks.getD u 0 = ks.getD v 0 := e
  have h1 : u < ks.length := by rw [h.len]; exact hu
  have h2 : v < ks.length := by rw [h.len]; exact hv
  rw [List.getD_eq_getElem?_getD, List.getElem?_eq_getElem h1, List.getD_eq_getElem?_getD, List.getElem?_eq_getElem h2] at e
  have e : ks[u] = ks[v] := e
  rcases Nat.lt_or_gt_of_ne n with q | q
  · exact List.pairwise_iff_getElem.mp h.nd u v h1 h2 q e
  · exact List.pairwise_iff_getElem.mp h.nd v u h2 h1 q e.symm
theorem WholeOk.bgood (h : WholeOk whl ks) : GoodP (whl.map backP) := by
  have wl := h.wlen
  have gw := h.good
  refine ⟨by rw [List.length_map]; omega, fun b hb => ?_, fun b hb => ?_, h.bnd⟩
  · obtain ⟨b0, hb0, rfl⟩ := List.mem_map.mp hb
    have := gw.lett b0 hb0
    show 1 ≤ (b0.2.natAbs : Int) ∧ (b0.2.natAbs : Int) ≤ 26
    omega
  · obtain ⟨b0, hb0, rfl⟩ := List.mem_map.mp hb
    have := gw.kind b0 hb0
    show 1 ≤ (if 0 < b0.2 then b0.1 else -b0.1).natAbs ∧ (if 0 < b0.2 then b0.1 else -b0.1).natAbs ≤ 26
    split <;> omega
theorem WholeOk.back (h : WholeOk whl ks) {ns : List Int} (hl : Lts ns) : (ns.map (Fr.ren whl)).map (Fr.ren (whl.map backP)) = ns := by
  have gw := h.good
  rw [List.map_map]
  have : ∀ z ∈ ns, (Fr.ren (whl.map backP) ∘ Fr.ren whl) z = id z := fun z hz => by
    refine ren_back (fun b hb => ?_) h.bnd ?_
    · have h1 := gw.kind b hb
      have h2 := gw.lett b hb
      exact ⟨by omega, fun e => by rw [e] at h2; simp at h2⟩
    · have hz := hl z hz
      have hm : ((z.natAbs : Int), ks.getD (z.natAbs - 1) 0) ∈ whl.map (fun p => (p.1, (p.2.natAbs : Int))) := by
        rw [h.eq]
        refine List.mem_map.mpr ⟨z.natAbs - 1, List.mem_range.mpr (by omega), ?_⟩
        have : ((z.natAbs - 1 : Nat) : Int) + 1 = (z.natAbs : Int) := by omega
        rw [this]
      obtain ⟨b, hb, e⟩ := List.mem_map.mp hm
      injection e with e1 e2
      exact ⟨b.2, Fr.told_in gw.nd (by rw [← e1]; exact hb)⟩
  rw [List.map_congr_left this, List.map_id]
end
theorem GoodP.perm {ps qs : List (Int × Int)} (p : ps.Perm qs) (g : GoodP qs) : GoodP ps :=
  ⟨by rw [p.length_eq]; exact g.len, fun b hb => g.kind b (p.mem_iff.mp hb), fun b hb => g.lett b (p.mem_iff.mp hb), (p.map (·.1)).nodup_iff.mpr g.nd⟩
section
variable {P : Program} {w : World} {K : PySem.W.Frag} {mg : Str → Option Value} {base : Heap} {C : Addr}
theorem scWholeR : FnScope nWholeR ["_law_jar_here"] (defScope sWholeR) := ⟨rfl, rfl, rfl, by decide +kernel, rfl, by decide +kernel, by decide +kernel⟩
theorem ok_wholeR {f : Addr} {fd : FuncData} (F : Fun K "_law_whole_right" "_law_whole_right" sWholeR f fd) (T : TxW K mg C) (W : AllW P w K mg base C) (N : LawC P w K mg base) : FnOk P w K mg base CX0 7 f fd ["_law_jar_here"] spWholeR := by
  refine F.ok scWholeR (fun vs H Q E h => ?_) (fun cdv A outer s H vs Q E hr h => ?_)
  · obtain ⟨a, c, n, rfl, _⟩ := h
    rfl
  · obtain ⟨a, c, n, rfl, hH, hn, k⟩ := h
    refine ⟨_, pss_cons (ps_par (i := 1) (j := 2) (by rfl) scWholeR.nd rfl rfl (by decide) rfl rfl (pa_cons (pe_cal N.lets hr (by decide) (by rfl) (pa_cons (pv 0) (pa_cons pe_int (pa_cons pe_int pa_nil)))) (pa_cons (pe_lst pa_nil) pa_nil)) (by rfl))
      (pss_cons (ps_for PassesOwn.never rfl (pi_enum (by rfl) N.enum (pa_cons (pe_cal N.mixed hr (by decide) (by rfl) (pa_cons (pv 0) (pa_cons (pe_listRg rfl (by rfl) N.list (prg_2 (by rfl) N.range pe_int pe_int)) pa_nil))) pa_nil)) (pg_tup (n := 2) rfl (pgs_cons (pg_name (i := 3) scWholeR.nd rfl (Or.inl rfl)) (pgs_cons (pg_name (i := 4) scWholeR.nd rfl (Or.inl rfl)) pgs_nil)))
        (pss_one (ps_expr (pe_bm PySem.F.plainAttrs_list PySem.F.slot_list_append PySem.F.type_list_append mt_append (pv 2) (pa_cons (pe_tup (pa_cons (pe_op op_add (pv 3) pe_int) (pa_cons (pe_op op_mul (pv 4) (pe_op op_sub pe_int (pe_op op_mul pe_int (pe_cal N.draw hr (by decide) (by rfl) (pa_cons (pv 0) (pa_cons pe_int pa_nil)))))) pa_nil))) pa_nil)))))
      (Evl.pss_cut (ps_setLc (i := 5) (own := [("_law_kind", 4), ("_law_letter", 7)]) (g := gTup K 2 (gCons (gName 4) (gCons (gName 7) gNil))) (tt := tYes) rfl scWholeR.nd rfl rfl (sw_true rfl rfl rfl (by decide +kernel)) (pi_list (pv 2)) (blkOk_by (N := nWholeR) (sc := defScope sWholeR) (by decide +kernel))
          (fun _ _ _ _ _ => pg_tup (n := 2) rfl (pgs_cons (pg_name (i := 4) scWholeR.nd rfl (Or.inl rfl)) (pgs_cons (pg_name (i := 7) scWholeR.nd rfl (Or.inl rfl)) pgs_nil))) (fun _ _ _ _ _ => pts_nil)
          (fun _ _ _ _ _ => pe_tup (pa_cons (pe_callB call_abs (by rfl) N.abs (by decide +kernel) (pa_cons (pv 7) pa_nil)) (pa_cons (pe_ifExp (pt_cmpR op_gt (pv 7) pe_int (nomark _)) (pv 4) (pe_un un_neg (pv 4))) pa_nil))))
      (pss_cons (ps_set (i := 6) scWholeR.nd rfl (Or.inl rfl) (pe_cal W.ren hr (by decide) (by rfl) (pa_cons (pe_word W.mkw T hr (by decide) (by rfl) (pa_cons (pv 1) pa_nil)) (pa_cons (pe_cal N.mixed hr (by decide) (by rfl) (pa_cons (pv 0) (pa_cons (pv 2) pa_nil))) pa_nil))))
      (pss_cons (ps_if (pt_cmpR (op_neD hr.units) (pe_callTy call_list_of (by rfl) N.list (by decide +kernel) (pa_cons (pe_fld (pv 6) rfl) pa_nil)) (pe_cal N.putL hr (by decide) (by rfl) (pa_cons (pv 1) (pa_cons (pe_callTy (call_dictP rfl) (by rfl) N.dict (by decide +kernel) (pa_cons (pe_lc (own := [("_law_kind", 4), ("_law_letter", 7)]) (g := gTup K 2 (gCons (gName 4) (gCons (gName 7) gNil))) (tt := tYes) rfl scWholeR.nd (pi_list (pv 2)) (blkOk_by (N := nWholeR) (sc := defScope sWholeR) (by decide +kernel))
          (fun _ _ _ _ _ => pg_tup (n := 2) rfl (pgs_cons (pg_name (i := 4) scWholeR.nd rfl (Or.inl rfl)) (pgs_cons (pg_name (i := 7) scWholeR.nd rfl (Or.inl rfl)) pgs_nil))) (fun _ _ _ _ _ => pts_nil) (fun _ _ _ _ _ => pe_tup (pa_cons (pv 4) (pa_cons (pe_lst (pa_cons (pv 7) pa_nil)) pa_nil)))) pa_nil)) pa_nil))) (nomark _)) (pss_one (ps_ret pe_bl)) pss_nil)
      (pss_one (ps_ret (pe_cmpR (op_eqW W.eq hr (by decide)) (pe_cal W.ren hr (by decide) (by rfl) (pa_cons (pv 6) (pa_cons (pv 5) pa_nil))) (pe_word W.mkw T hr (by decide) (by rfl) (pa_cons (pv 1) pa_nil)) (nomark _)))))))), ?_⟩
    -- forty letters
    refine ⟨_, rfl, a, c, 40, 26, n, rfl, hH, by omega, by omega, by decide, by decide, fun lh H1 ls hlh0 D1 g1 ll hl => ?_⟩
    have hl : Lts ls := hl
    have hlha := hH.ne hlh0
    refine ⟨Nat.zero_le _, fun wh hwh => ⟨_, _, rfl, ?_⟩⟩
    have s2 := same_upd (o := .lst []) hwh
    have gw := upd_same (H := H1) (a := wh) (o := .lst [])
    have wh0 : H wh = none := D1.back hwh
    have hwa := hH.ne wh0
    have hwc := hH.neC wh0
    have D2 := D1.same s2
    have g2 := s2 _ _ g1
    have nlw : lh ≠ wh := ne_of_none g1 hwh
    obtain ⟨H2, e2⟩ : ∃ H2, H2 = L2.upd H1 wh (.lst []) := ⟨_, rfl⟩
    rw [← e2] at gw D2 g2 ⊢
    clear e2 s2 hwh
    -- all kinds, mixed
    refine ⟨_, rfl, 1, 27, rfl, rfl, RgOk.of_le (by decide) (by decide) (by decide) (by decide), fun rg hrg => ?_⟩
    have s3 := same_upd (o := .lst (rgV 1 27)) hrg
    have erg : rgV 1 27 = iv ((List.range 26).map fun (i : Nat) => 1 + (i : Int)) := by
      unfold rgV iv
      rw [List.map_map]
      rfl
    have grg : L2.upd H2 rg (.lst (rgV 1 27)) rg = some (.lst (iv ((List.range 26).map fun (i : Nat) => 1 + (i : Int)))) := by rw [upd_same, erg]
    have D3 := D2.same s3
    have g3 := s3 _ _ g2
    have gw3 := s3 _ _ gw
    obtain ⟨H3, e3⟩ : ∃ H3, H3 = L2.upd H2 rg (.lst (rgV 1 27)) := ⟨_, rfl⟩
    rw [← e3] at grg D3 g3 gw3 ⊢
    refine ⟨a, c, rg, _, n + 80, rfl, D3.1, grg, by rw [List.length_map, List.length_map, List.length_range]; decide, by omega, fun ml H4 ys hml0 D4 g4 hperm => ?_⟩
    obtain ⟨ks, rfl, hks⟩ := perm_iv hperm
    have hkl : ks.length = 26 := by rw [hks.length_eq, List.length_map, List.length_range]
    have hkn : ks.Nodup := hks.nodup_iff.mpr (List.Pairwise.map _ (fun u v n e => n (by omega)) (List.nodup_range (n := 26)))
    have hkr : ∀ z ∈ ks, 1 ≤ z ∧ z ≤ 26 := fun z hz => by
      obtain ⟨i, hi, rfl⟩ := List.mem_map.mp (hks.mem_iff.mp hz)
      have := List.mem_range.mp hi
      omega
    have hmla := D3.1.ne hml0
    have hmlw : ml ≠ wh := (ne_of_none gw3 hml0).symm
    have DD : Drew a c (n + 106) H H4 := (D3.trans D4).mono (by rw [List.length_map, List.length_map, List.length_range]; omega)
    have g4l := D4.2 _ _ hlha g3
    have gw4 := D4.2 _ _ hwa gw3
    refine ⟨ml, _, rfl, SqL.of g4, ?_⟩
    refine for_it (walk_enum (K := K) (a := ml) (xs := iv ks)) (fun i σ H' => ∃ (v3 v4 : Option V) (us : List V) (whl : List (Int × Int)), σ = [some (.ref a), some (.ref lh), some (.ref wh), v3, v4, none, none, none] ∧ Drew a c (n + 106 + i) H H' ∧ H' lh = some (.lst (iv ls)) ∧ H' ml = some (.lst (iv ks)) ∧ H' wh = some (.lst us) ∧ us.length = i ∧ All2 (PrT K H') us whl ∧
        whl.map (fun p => (p.1, (p.2.natAbs : Int))) = (List.range i).map (fun (i : Nat) => ((i : Int) + 1, ks.getD i 0)))
      ⟨none, none, [], [], rfl, DD, g4l, g4, gw4, rfl, .nil, rfl⟩ (fun i σ H1 _ q => ?_) ?_ ?_
    · obtain ⟨_, _, _, _, _, _, _, g, _⟩ := q
      exact SqL.of g
    · rintro i x σ H5 H6 hi ⟨v3, v4, us, whl, rfl, D5, gl5, gm5, gw5, lus, hu, hw⟩ ⟨T0, xi, yi, rfl, hT0, rfl, hx, hy⟩
      have hi26 : i < 26 := by rw [List.length_map, hkl] at hi; exact hi
      obtain rfl := Option.some.inj hx
      obtain ⟨z, hz, rfl⟩ : ∃ z, ks[i]? = some z ∧ yi = V.int z := by
        have hy : (iv ks)[i]? = some yi := hy
        rw [List.getElem?_map] at hy
        cases e : ks[i]? with
        | none => rw [e] at hy; cases hy
        | some z => rw [e] at hy; exact ⟨z, rfl, (Option.some.inj hy).symm⟩
      have hzr := hkr z (List.mem_of_getElem? hz)
      have s6 := same_upd (o := .tup [.int (i : Nat), .int z]) hT0
      refine ⟨T0, _, rfl, SqT.of upd_same, rfl, _, _, rfl, _, _, rfl, rfl, ?_⟩
      have D6 := D5.same s6
      have gl6 := s6 _ _ gl5
      have gm6 := s6 _ _ gm5
      have gw6 := s6 _ _ gw5
      have hu6 := hu.imp fun _ _ r => PrT.same r s6
      obtain ⟨H7, e7⟩ : ∃ H7, H7 = L2.upd H5 T0 (.tup [.int (i : Nat), .int z]) := ⟨_, rfl⟩
      rw [← e7] at D6 gl6 gm6 gw6 hu6 ⊢
      clear e7 s6 gl5 gm5 gw5 hu D5 hT0
      refine ⟨_, rfl, .inl ⟨rfl, _, SqL.of gw6⟩, _, rfl, _, _, rfl, rfl, _, rfl, _, rfl, a, c, 2, n + 106 + i, rfl, D6.1, by omega, by decide, by decide, fun H8 b b0 b1 hH8 hK8 => ?_⟩
      have d8 : Drew a c (n + 106 + (i + 1)) H7 H8 := ⟨hH8, hK8⟩
      have D8 := D6.trans d8
      have gl8 := hK8 _ _ hlha gl6
      have gm8 := hK8 _ _ hmla gm6
      have gw8 := hK8 _ _ hwa gw6
      have hu8 := hu6.imp fun _ _ r => PrT.drew D6.1 d8 r
      refine ⟨_, _, rfl, rfl, .inl ⟨by decide, by omega⟩, _, _, rfl, rfl, _, _, rfl, rfl, .inl ⟨by omega, by omega⟩, ?_⟩
      obtain ⟨lt, elt⟩ : ∃ lt, lt = z * (1 - 2 * b) := ⟨_, rfl⟩
      have hlt : (lt.natAbs : Int) = z := by
        have : b = 0 ∨ b = 1 := by omega
        rcases this with rfl | rfl
        · rw [elt]; simp; omega
        · rw [elt]; simp; omega
      try dsimp only
      rw [← elt]
      refine ⟨by show 2 ≤ sizeLine; decide, fun t ht => ?_⟩
      have st := same_upd (o := .tup [.int ((i : Nat) + 1), .int lt]) ht
      have gw9 := st _ _ gw8
      refine ⟨wh, us, _, rfl, rfl, gw9, Evl.sz_lt (by omega), ?_⟩
      have ta : SqT K (L2.upd H8 t (.tup [.int ((i : Nat) + 1), .int lt])) t [.int ((i : Nat) + 1), .int lt] := SqT.of upd_same
      refine ⟨_, _, us ++ [.ref t], whl ++ [(((i : Nat) : Int) + 1, lt)], rfl, (D8.same st).put wh0 hwa hwc, by rw [upd_ne nlw]; exact st _ _ gl8, by rw [upd_ne hmlw]; exact st _ _ gm8, upd_same, by rw [List.length_append, lus]; rfl, ?_, ?_⟩
      · exact All2.app (hu8.imp fun _ _ r => PrT.put gw9 (r.same st)) (.cons (PrT.put gw9 (p := (((i : Nat) : Int) + 1, lt)) ⟨t, rfl, ta⟩) .nil)
      · rw [List.map_append, hw, List.range_succ, List.map_append]
        congr 1
        show [(((i : Nat) : Int) + 1, ((lt.natAbs : Nat) : Int))] = [(((i : Nat) : Int) + 1, ks.getD i 0)]
        rw [hlt, List.getD_eq_getElem?_getD, hz]
        rfl
    rintro σ H5 ⟨v3, v4, us, whl, rfl, D5, gl5, gm5, gw5, lus, hu, hw⟩
    have el : (iv ks).length = 26 := by rw [List.length_map, hkl]
    rw [el] at hw lus D5
    have wo : WholeOk whl ks := ⟨hkl, hkn, hkr, hw⟩
    have wl := wo.wlen
    clear gm5 hw el
    -- the way back
    refine ⟨fun σ' H' => ∃ (bk : Addr) (us2 : List V), σ' = [some (.ref a), some (.ref lh), some (.ref wh), v3, v4, some (.ref bk), none, none] ∧ Same H5 H' ∧ H' bk = some (.lst us2) ∧ All2 (PrT K H') us2 (whl.map backP), ?_, ?_⟩
    · refine as_lc ?_
      refine ⟨_, rfl, wh, rfl, ⟨_, SqL.of gw5⟩, ?_⟩
      refine lcM (walk_list (K := K) (a := wh) (xs := us)) (whl.map backP) (fun D H v p => PrT K H v p) (fun _ _ _ _ _ h s => h.same s) (fun _ _ _ _ _ _ hD h => PrT.put hD h) (by omega) (by rw [List.length_map]; omega) (fun H2 s2 => SqL.of (s2 _ _ gw5)) ?_ (fun x σ1 H A B k h => gTup_mono k h) ?_
      · intro i y b hx hb D H2 hD ⟨us', hus'⟩ s2 Qy ky
        obtain ⟨b0, hb0, r⟩ := hu.at hx
        rw [List.getElem?_map, hb0] at hb
        obtain rfl := Option.some.inj hb
        obtain ⟨q, rfl, hq⟩ := r.same s2
        refine ⟨q, _, rfl, hq, rfl, _, _, rfl, _, _, rfl, rfl, ?_⟩
        refine ⟨rfl, ?_⟩
        refine ⟨_, rfl, b0.2, rfl, _, rfl, _, _, rfl, rfl, _, rfl, ?_⟩
        refine ite2 (fun hp2 => ?_) (fun hp2 => ?_)
        · have hp2 : 0 < b0.2 := of_decide_eq_true hp2
          refine ⟨_, rfl, by show 2 ≤ sizeLine; decide, fun t ht => ky _ _ (same_upd ht) ⟨t, rfl, ?_⟩⟩
          rw [abs_nat]
          have : backP b0 = ((b0.2.natAbs : Int), b0.1) := by unfold backP; rw [if_pos hp2]
          rw [this]
          exact SqT.of upd_same
        · have hp2 : ¬ 0 < b0.2 := fun z => hp2 (decide_eq_true z)
          refine ⟨_, rfl, _, rfl, by show 2 ≤ sizeLine; decide, fun t ht => ky _ _ (same_upd ht) ⟨t, rfl, ?_⟩⟩
          rw [abs_nat]
          have : backP b0 = ((b0.2.natAbs : Int), -b0.1) := by unfold backP; rw [if_neg hp2]
          rw [this]
          exact SqT.of upd_same
      intro D H2 ws2 hD s2 h2 r2
      refine at_set ?_
      exact ⟨D, ws2, rfl, s2, h2, r2⟩
    rintro σ H6 ⟨bk, us2, rfl, s6, gb6, hu2⟩
    have D6 := D5.same s6
    have gl6 := s6 _ _ gl5
    have gw6 := s6 _ _ gw5
    have hu6 := hu.imp fun _ _ r => PrT.same r s6
    have hub : bk ≠ a := fun z => by
      obtain ⟨cs, i, r, hA, _⟩ := D5.1
      have h1 := s6 _ _ hA
      rw [← z, gb6] at h1
      have h2 : us2 = [V.ref c, .int i, .int r] := by injection h1 with h1; injection h1
      have l2 := hu2.length
      rw [h2, List.length_map, wl] at l2
      cases l2
    clear s6 gl5 gw5 hu D5
    -- what is told
    refine ⟨_, rfl, fun x dx nx ndx _ => make_at nx ndx (.inl (SqL.of gl6)) (by omega) hl fun H7 s7 W7 => ?_⟩
    have D7 := D6.same s7
    refine ⟨_, rfl, _, rfl, a, c, wh, us, n + 132, rfl, D7.1, s7 _ _ gw6, by omega, by omega, fun mx H8 ys hmx D8 g8 hperm2 => ?_⟩
    have D78 : Drew a c (n + 158) H H8 := (D7.trans D8).mono (by omega)
    obtain ⟨prs, hpp, hu8⟩ := All2.perm hperm2 ((hu6.imp fun _ _ r => PrT.same r s7).imp fun _ _ r => PrT.drew D7.1 D8 r)
    have W8 := W7.drew D7.1 D8
    have gp := wo.good.perm hpp
    have k78 : ∀ {b : Addr} {o : HO}, b ≠ a → H6 b = some o → H8 b = some o := fun nb e => D8.2 _ _ nb (s7 _ _ e)
    have hu28 : All2 (PrT K H8) us2 (whl.map backP) := (hu2.imp fun _ _ r => PrT.same r s7).imp fun _ _ r => PrT.drew D7.1 D8 r
    have hu68 : All2 (PrT K H8) us whl := (hu6.imp fun _ _ r => PrT.same r s7).imp fun _ _ r => PrT.drew D7.1 D8 r
    refine ⟨x, mx, ls, prs, rfl, W8, by omega, hl, ⟨ys, .inl (SqL.of g8), hu8.imp fun _ _ r => r.e⟩, gp, fun tw H9 s9 W9 => ?_⟩
    have eren : ls.map (Fr.ren prs) = ls.map (Fr.ren whl) := List.map_congr_left fun z _ => Fr.ren_perm gp.nd (fun b => hpp.mem_iff) wo.good.nd z
    rw [eren] at W9
    have D9 := D78.same s9
    have gl9 := s9 _ _ (k78 hlha gl6)
    have gw9 := s9 _ _ (k78 hwa gw6)
    have gb9 := s9 _ _ (k78 hub gb6)
    have hu9 := hu68.imp fun _ _ r => PrT.same r s9
    have hu29 := hu28.imp fun _ _ r => PrT.same r s9
    clear s9 hu28 hu68 k78 W8 hu8 D78 D8 g8 D7 s7 W7 hu2 hu6 gl6 gw6 gb6 D6
    refine at_set ?_
    try dsimp only
    have lts2 : Lts (ls.map (Fr.ren whl)) := ren_lts wo.good.lett hl
    obtain ⟨dx, tl, tk, kk, w1, w2, _⟩ := id W9
    refine ⟨_, rfl, tw, C, dx, _, _, rfl, w1, T.cl, T.nL, wf_letters, tl, _, rfl, .inr w2.sq, fun l1 hl1 => putx_lc rfl ?_⟩
    have s1 := same_upd (o := .lst (iv (ls.map (Fr.ren whl)))) hl1
    have gt1 := upd_same (H := H9) (a := l1) (o := .lst (iv (ls.map (Fr.ren whl))))
    obtain ⟨HA, eA⟩ : ∃ HA, HA = L2.upd H9 l1 (.lst (iv (ls.map (Fr.ren whl)))) := ⟨_, rfl⟩
    rw [← eA] at s1 gt1 ⊢
    have gwA := s1 _ _ gw9
    have huA := hu9.imp fun _ _ r => PrT.same r s1
    refine ⟨_, rfl, wh, rfl, ⟨_, SqL.of gwA⟩, ?_⟩
    refine lcM (walk_list (K := K) (a := wh) (xs := us)) whl (fun D H v p => PrD K D H v p) (fun _ _ _ _ _ h s => h.same s) (fun _ _ _ _ _ _ hD h => h.put hD) (by omega) (by omega) (fun H2 s2 => SqL.of (s2 _ _ gwA)) ?_ (fun x σ1 H A B k h => gTup_mono k h) ?_
    · intro i y b hx hb D H2 hD ⟨us', hus'⟩ s2 Qy ky
      obtain ⟨b', hb', r⟩ := huA.at hx
      rw [hb] at hb'
      obtain rfl := Option.some.inj hb'
      obtain ⟨q, rfl, hq⟩ := r.same s2
      refine ⟨q, _, rfl, hq, rfl, _, _, rfl, _, _, rfl, rfl, ?_⟩
      refine ⟨rfl, ?_⟩
      refine ⟨_, rfl, _, rfl, by show 1 ≤ sizeLine; decide, fun l hl => ⟨by show 2 ≤ sizeLine; decide, fun t ht => ?_⟩⟩
      have s3 := same_upd (o := .lst [.int b.2]) hl
      have s4 := same_upd (o := .tup [.int b.1, .ref l]) ht
      have gl : L2.upd H2 l (.lst [.int b.2]) l = some (.lst [.int b.2]) := upd_same
      exact ky _ _ (s3.trans s4) ⟨t, l, rfl, SqT.of upd_same, (ne_of_none hus' hl).symm, s4 _ _ gl⟩
    intro D HB ws2 hD s2 h2 r2
    obtain ⟨ps, kvs, rfl, p2, p3, p4⟩ := PrD.split r2
    refine ⟨D, ps, kvs, rfl, SqL.of h2, p2, fun d hd' => ?_⟩
    have sd := same_upd (o := .dK (mergeK [] kvs)) hd'
    have s12 := (s1.trans s2).trans sd
    refine ⟨lh, d, ls, gOf whl, rfl, s12 _ _ gl9, tab_pairs (K := K) (D := D) wo.good.nd p3 (fun k => ⟨(p4 k).1, fun l hl => ?_⟩) upd_same ls, hl, by omega, ?_, fun z _ => by show 1 ≤ 1000; decide, fun du HC hdu sC hC => ?_⟩
    · obtain ⟨r, e1, e2⟩ := (p4 k).2 l hl
      exact ⟨r, e1, sd _ _ e2⟩
    · rw [tab_ren, List.length_map]
      omega
    rw [tab_ren] at hC
    have s2C := (s2.trans sd).trans sC
    refine ⟨_, _, .lst (SqL.of (s2C _ _ gt1)) (dp_iv _), .lst (SqL.of hC) (dp_iv _), PySem.W.ke_shaped_ints _, PySem.W.ke_shaped_ints _, _, rfl, no_ne (by rw [eqvL_ints, decide_eq_true rfl]) ?_⟩
    have s9C := s12.trans sC
    -- and back
    refine ⟨_, rfl, _, rfl, tw, bk, _, whl.map backP, rfl, W9.same s9C, by rw [List.length_map]; omega, lts2, ⟨us2, .inl (SqL.of (s9C _ _ gb9)), hu29.imp fun _ _ r => (PrT.same r s9C).e⟩, wo.bgood, fun y HD sD WD => ?_⟩
    have s9D := s9C.trans sD
    refine ⟨_, rfl, fun x2 dx2 nx2 ndx2 _ => make_at nx2 ndx2 (.inl (SqL.of (s9D _ _ gl9))) (by omega) hl fun HE sE WE => ?_⟩
    rw [wo.back hl] at WD
    refine ⟨y, x2, _, _, rfl, rfl, WD.same sE, WE, ?_⟩
    rw [decide_eq_true rfl]
    exact k HE (D9.same (s9D.trans sE))
end
end W09
set_option Elab.async false
set_option linter.all false
set_option maxRecDepth 100000
set_option maxHeartbeats 1000000
namespace W09
open PySem L2 PySem.Spec PyProof.Rows WR WB
abbrev sLaw : Stmt := top 64
def spLaw (K : PySem.W.Frag) : Sp := fun vs H Q _ => ∃ (a : Addr) (ns : List Int), vs = [.ref a] ∧ SqL K H a (iv ns) ∧ ns.length ≤ 63 ∧ ∀ H', Q (.bl true) H'
abbrev nLaw : List Str := ["_law_script", "_law_jar_here", "_law_lap", "_law_letters_here", "_law_others", "_law_long", "_law_kind", "_law_wide"]
structure LawD (P : Program) (w : World) (K : PySem.W.Frag) (mg : Str → Option Value) (base : Heap) : Prop where
  jar : Cal P w K mg base "_law_jar" 1 ["_law_script"] (spHand K)
  ren : Cal P w K mg base "_law_renamed_right" 7 ["_law_jar_here", "_law_letters_here"] spRenR
  put : Cal P w K mg base "_law_put_right" 7 ["_law_jar_here", "_law_letters_here", "_law_others"] spPutR
  all : Cal P w K mg base "_law_all_right" 7 ["_law_jar_here", "_law_letters_here"] spAllR
  bal : Cal P w K mg base "_law_balance_right" 7 ["_law_jar_here", "_law_letters_here", "_law_others"] spBalR
  whole : Cal P w K mg base "_law_whole_right" 7 ["_law_jar_here"] spWholeR
theorem rep_one {z : V} : ∀ n : Nat, (List.replicate n [z]).flatten = List.replicate n z
  | 0 => rfl
  | n + 1 => by rw [List.replicate_succ, List.replicate_succ, List.flatten_cons, rep_one n]; rfl
theorem bal_500 {kd : Int} (k1 : 1 ≤ kd) (k4 : kd ≤ 4) : Fr.bal (List.replicate 500 kd) = [(kd, 500)] := by
  have : kd = 1 ∨ kd = 2 ∨ kd = 3 ∨ kd = 4 := by omega
  rcases this with rfl | rfl | rfl | rfl <;> decide +kernel
section
variable {P : Program} {w : World} {K : PySem.W.Frag} {mg : Str → Option Value} {base : Heap} {C : Addr}
theorem scLaw : FnScope nLaw ["_law_script"] (defScope sLaw) := ⟨rfl, rfl, rfl, by decide +kernel, rfl, by decide +kernel, by decide +kernel⟩
theorem ok_law {f : Addr} {fd : FuncData} (F : Fun K "law" "law" sLaw f fd) (T : TxW K mg C) (W : AllW P w K mg base C) (N : LawC P w K mg base) (L : LawD P w K mg base) : FnOk P w K mg base CX0 9 f fd ["_law_script"] (spLaw K) := by
  refine F.ok scLaw (fun vs H Q E h => ?_) (fun cdv A outer s H vs Q E hr h => ?_)
  · obtain ⟨a, ns, rfl, _⟩ := h
    rfl
  · obtain ⟨sa, ss, rfl, hS, hlen, k⟩ := h
    refine ⟨_, pss_cons (ps_set (i := 1) scLaw.nd rfl (Or.inl rfl) (pe_cal L.jar hr (by decide) (by rfl) (pa_cons (pv 0) pa_nil)))
      (pss_cons (ps_for PassesOwn.never rfl (pi_range1 (by rfl) N.range (pa_cons pe_int pa_nil)) (pg_name (i := 2) scLaw.nd rfl (Or.inl rfl))
        (pss_cons (ps_set (i := 3) scLaw.nd rfl (Or.inl rfl) (pe_cal N.lets hr (by decide) (by rfl) (pa_cons (pv 1) (pa_cons (pe_cal N.draw hr (by decide) (by rfl) (pa_cons (pv 1) (pa_cons pe_int pa_nil))) (pa_cons (pe_op op_add pe_int (pe_cal N.draw hr (by decide) (by rfl) (pa_cons (pv 1) (pa_cons pe_int pa_nil)))) pa_nil)))))
        (pss_cons (ps_set (i := 4) scLaw.nd rfl (Or.inl rfl) (pe_cal N.lets hr (by decide) (by rfl) (pa_cons (pv 1) (pa_cons (pe_cal N.draw hr (by decide) (by rfl) (pa_cons (pv 1) (pa_cons pe_int pa_nil))) (pa_cons pe_int pa_nil)))))
        (pss_cons (ps_if (PW.pt (pw_or (pt_not (pt_val (pe_cal L.ren hr (by decide) (by rfl) (pa_cons (pv 1) (pa_cons (pv 3) pa_nil))))) (pw_or1 (pt_not (pt_val (pe_cal L.put hr (by decide) (by rfl) (pa_cons (pv 1) (pa_cons (pv 3) (pa_cons (pv 4) pa_nil))))))))) (pss_one (ps_ret pe_bl)) pss_nil)
        (pss_one (ps_if (PW.pt (pw_or (pt_not (pt_val (pe_cal L.all hr (by decide) (by rfl) (pa_cons (pv 1) (pa_cons (pv 3) pa_nil))))) (pw_or1 (pt_not (pt_val (pe_cal L.bal hr (by decide) (by rfl) (pa_cons (pv 1) (pa_cons (pv 3) (pa_cons (pv 4) pa_nil))))))))) (pss_one (ps_ret pe_bl)) pss_nil))))))
      (pss_cons (ps_if (pt_not (pt_val (pe_cal L.whole hr (by decide) (by rfl) (pa_cons (pv 1) pa_nil)))) (pss_one (ps_ret pe_bl)) pss_nil)
      (pss_cons (ps_par (i := 5) (j := 6) (by rfl) scLaw.nd rfl rfl (by decide) rfl rfl (pa_cons (pe_cal N.lets hr (by decide) (by rfl) (pa_cons (pv 1) (pa_cons pe_int (pa_cons pe_int pa_nil)))) (pa_cons (pe_op op_add pe_int (pe_cal N.draw hr (by decide) (by rfl) (pa_cons (pv 1) (pa_cons pe_int pa_nil)))) pa_nil)) (by rfl))
      (pss_cons (ps_set (i := 7) scLaw.nd rfl (Or.inl rfl) (pe_cal N.lets hr (by decide) (by rfl) (pa_cons (pv 1) (pa_cons pe_int (pa_cons pe_int pa_nil)))))
      (pss_cons (ps_if (pt_cmpR (op_neD hr.units) (pe_callTy call_list_of (by rfl) N.list (by decide +kernel) (pa_cons (pe_fld (pe_cal W.put hr (by decide) (by rfl) (pa_cons (pe_word W.mkw T hr (by decide) (by rfl) (pa_cons (pv 5) pa_nil)) (pa_cons pe_int (pa_cons (pe_word W.mkw T hr (by decide) (by rfl) (pa_cons (pv 7) pa_nil)) pa_nil)))) rfl) pa_nil)) (pe_cal N.putL hr (by decide) (by rfl) (pa_cons (pv 5) (pa_cons (pe_disp (pps_cons pe_int (pv 7) pps_nil) (by rfl) (by rfl) (fun z => by cases z) (by decide)) pa_nil))) (nomark _)) (pss_one (ps_ret pe_bl)) pss_nil)
      (pss_one (ps_ret (pe_and (pe_cmpR (op_eqD hr.units) (pe_cal W.bal hr (by decide) (by rfl) (pa_cons (pe_word W.mkw T hr (by decide) (by rfl) (pa_cons (pe_op op_rep (pe_lst (pa_cons (pv 6) pa_nil)) pe_int) pa_nil)) pa_nil)) (pe_tup (pa_cons (pe_tup (pa_cons (pv 6) (pa_cons pe_int pa_nil))) pa_nil)) (nomark _))
          (pe_and (pe_cmpR (op_eqD hr.units) (pe_cal W.bal hr (by decide) (by rfl) (pa_cons (pe_word W.mkw T hr (by decide) (by rfl) (pa_cons (pe_lst pa_nil) pa_nil)) pa_nil)) (pe_tup pa_nil) (nomark _))
          (pe_one (pe_cmpR op_isBl (pe_cal W.isb hr (by decide) (by rfl) (pa_cons (pe_word W.mkw T hr (by decide) (by rfl) (pa_cons (pe_lst pa_nil) pa_nil)) pa_nil)) pe_bl (nomark _)))))))))))), ?_⟩
    refine ⟨_, rfl, sa, ss, rfl, hS, by omega, fun H1 a c s1 ha0 hc0 h1 => ?_⟩
    refine at_set ?_
    try dsimp only
    refine ⟨5, rfl, by decide, by decide, for_range (lo := 0) (n := (5 : Int).toNat) (fun i σ H' => ∃ (v2 v3 v4 : Option V), σ = [some (.ref sa), some (.ref a), v2, v3, v4, none, none, none] ∧ HandAt H' a c (101 * i)) ⟨none, none, none, rfl, h1⟩ ?_ ?_⟩
    · rintro i σ H2 hi ⟨v2, v3, v4, rfl, h2⟩
      have hi5 : i < 5 := hi
      refine ⟨_, rfl, _, rfl, a, c, 13, 101 * i, rfl, h2, by omega, by decide, by decide, fun H3 m m0 m1 h3 k3 => ?_⟩
      obtain ⟨m, rfl⟩ : ∃ m' : Nat, m = (m' : Int) := ⟨m.toNat, by omega⟩
      refine ⟨_, rfl, a, c, 4, 101 * i + 1, rfl, h3, by omega, by decide, by decide, fun H4 kd kd0 kd1 h4 k4 => ?_⟩
      obtain ⟨kd, rfl⟩ : ∃ m' : Nat, kd = (m' : Int) := ⟨kd.toNat, by omega⟩
      refine ⟨_, _, rfl, rfl, a, c, m, 1 + kd, 101 * i + 2, congrArg (fun z => [V.ref a, V.int (m : Int), V.int z]) (by omega), h4, by omega, by omega, by omega, by omega, fun p H5 ns hp0 d5 g5 ln hn => ?_⟩
      refine at_set ?_
      try dsimp only
      have h5 := d5.1.mono (show 101 * i + 2 + 2 * m ≤ 101 * i + 26 by omega)
      have hpa := h4.ne hp0
      refine ⟨_, rfl, _, rfl, a, c, 4, 101 * i + 26, rfl, h5, by omega, by decide, by decide, fun H6 m2 m20 m21 h6 k6 => ?_⟩
      obtain ⟨m2, rfl⟩ : ∃ m' : Nat, m2 = (m' : Int) := ⟨m2.toNat, by omega⟩
      refine ⟨a, c, m2, 4, 101 * i + 27, rfl, h6, by omega, by omega, by decide, by decide, fun q H7 ms hq0 d7 g7 lm hm => ?_⟩
      refine at_set ?_
      try dsimp only
      have h7 := d7.1.mono (show 101 * i + 27 + 2 * m2 ≤ 101 * i + 33 by omega)
      have hqa := h6.ne hq0
      have gp := d7.2 _ _ hpa (k6 _ _ hpa g5)
      have hn4 : ∀ x ∈ ns, 1 ≤ x.natAbs ∧ x.natAbs ≤ 4 := fun x hx => ⟨(hn x hx).1, Nat.le_trans (hn x hx).2 (by omega)⟩
      have hnl : Lts ns := fun x hx => ⟨(hn x hx).1, Nat.le_trans (hn x hx).2 (by omega)⟩
      have hml : Lts ms := fun x hx => ⟨(hm x hx).1, Nat.le_trans (hm x hx).2 (by decide)⟩
      refine ⟨_, rfl, _, rfl, a, c, p, ns, 101 * i + 33, rfl, h7, hpa, gp, by omega, hn4, by omega, fun H8 d8 => ⟨_, rfl, iteF ?_⟩⟩
      refine ⟨_, rfl, _, rfl, _, rfl, a, c, p, q, ns, ms, 101 * i + 63, rfl, d8.1, hpa, hqa, d8.2 _ _ hpa gp, d8.2 _ _ hqa g7, by omega, by omega, hnl, hml, by omega, fun H9 d9 => ⟨_, rfl, iteF ?_⟩⟩
      have gp9 := d9.2 _ _ hpa (d8.2 _ _ hpa gp)
      have gq9 := d9.2 _ _ hqa (d8.2 _ _ hqa g7)
      refine ⟨_, rfl, _, rfl, a, c, p, ns, 101 * i + 64, rfl, d9.1, hpa, gp9, by omega, hn4, by omega, fun HA dA => ⟨_, rfl, iteF ?_⟩⟩
      refine ⟨_, rfl, _, rfl, _, rfl, a, c, p, q, ns, ms, 101 * i + 100, rfl, dA.1, hpa, hqa, dA.2 _ _ hpa gp9, dA.2 _ _ hqa gq9, by omega, by omega, hnl, hml, by omega, fun HB dB => ⟨_, rfl, iteF ?_⟩⟩
      exact ⟨_, _, _, rfl, dB.1.mono (by omega)⟩
    rintro σ H2 ⟨v2, v3, v4, rfl, h2⟩
    have h2 : HandAt H2 a c 505 := h2
    refine ⟨_, rfl, a, c, 505, rfl, h2, by decide, fun H3 d3 => ⟨_, rfl, iteF ?_⟩⟩
    refine ⟨_, rfl, a, c, 25, 1, 663, rfl, d3.1, by decide, by decide, by decide, by decide, fun p H4 ns hp0 d4 g4 ln hn => ?_⟩
    have hpa := d3.1.ne hp0
    refine ⟨_, rfl, a, c, 4, 713, rfl, d4.1, by decide, by decide, by decide, fun H5 dd d0 d1 h5 k5 => ?_⟩
    obtain ⟨kd, ekd⟩ : ∃ kd : Int, kd = 1 + dd := ⟨_, rfl⟩
    have k1 : 1 ≤ kd := by omega
    have k4 : kd ≤ 4 := by omega
    refine ⟨_, _, rfl, rfl, _, _, rfl, ?_⟩
    try dsimp only
    rw [← ekd]
    refine ⟨_, rfl, a, c, 20, 4, 714, rfl, h5, by decide, by decide, by decide, by decide, fun q H6 ms hq0 d6 g6 lm hm => ?_⟩
    refine at_set ?_
    try dsimp only
    have gp := d6.2 _ _ hpa (k5 _ _ hpa g4)
    have hnl : Lts ns := fun x hx => ⟨(hn x hx).1, Nat.le_trans (hn x hx).2 (by decide)⟩
    have hml : Lts ms := fun x hx => ⟨(hm x hx).1, Nat.le_trans (hm x hx).2 (by decide)⟩
    have lsub : (Fr.sub (Fr.putF 1 ms) ns).length ≤ ns.length * 20 := Fr.sub_length fun x _ => by
      have := putF_len (k := 1) (ms := ms) (x := x)
      omega
    -- five hundred letters
    refine ⟨_, rfl, fun x dx nx ndx _ => make_at nx ndx (.inl (SqL.of gp)) (by omega) hnl fun H7 s7 W7 => ?_⟩
    refine ⟨_, rfl, fun y dy ny ndy _ => make_at ny ndy (.inl (SqL.of (s7 _ _ g6))) (by omega) hml fun H8 s8 W8 => ?_⟩
    refine ⟨x, y, 1, ns, ms, rfl, W7.same s8, W8, by decide, by decide, by omega, by omega, by omega, hnl, hml, fun t H9 s9 W9 => ?_⟩
    have s79 := (s7.trans s8).trans s9
    obtain ⟨dx, tl, tk, kk, w1, w2, _⟩ := id W9
    refine ⟨t, C, dx, _, _, rfl, w1, T.cl, T.nL, wf_letters, tl, _, rfl, .inr w2.sq, fun l6 hl6 => ?_⟩
    have s6 := same_upd (o := .lst (iv (Fr.sub (Fr.putF 1 ms) ns))) hl6
    have g6' := upd_same (H := H9) (a := l6) (o := .lst (iv (Fr.sub (Fr.putF 1 ms) ns)))
    obtain ⟨HA, eA⟩ : ∃ HA, HA = L2.upd H9 l6 (.lst (iv (Fr.sub (Fr.putF 1 ms) ns))) := ⟨_, rfl⟩
    rw [← eA] at s6 g6' ⊢
    have s7A := s79.trans s6
    refine ⟨_, rfl, fun d hd => ?_⟩
    have sd := same_upd (o := .dK []) hd
    refine ⟨_, rfl, upd_same, [(Sum.inl 1, .ref q)], rfl, by show 1 ≤ 15; decide, ?_⟩
    have sC : Same HA (L2.upd (L2.upd HA d (.dK [])) d (.dK (mergeK [] [((Sum.inl 1 : Key), V.ref q)]))) := fun b u e => by
      rw [upd_ne (ne_of_none e hd)]
      exact sd _ _ e
    have gd : L2.upd (L2.upd HA d (.dK [])) d (.dK (mergeK [] [((Sum.inl 1 : Key), V.ref q)])) d = some (.dK [(Sum.inl 1, .ref q)]) := upd_same
    refine ⟨p, d, ns, _, rfl, sC _ _ (s7A _ _ gp), tab_one gd (sC _ _ (s7A _ _ g6)) ns, hnl, by omega, ?_, fun z _ => ?_, fun du HB _ sB gB => ?_⟩
    · rw [tab_put (by decide) ms hnl.nz]; omega
    · split
      · omega
      · show 1 ≤ 1000; decide
    rw [tab_put (by decide) ms hnl.nz] at gB
    refine ⟨_, _, .lst (SqL.of ((sC.trans sB) _ _ g6')) (dp_iv _), .lst (SqL.of gB) (dp_iv _), PySem.W.ke_shaped_ints _, PySem.W.ke_shaped_ints _, _, rfl, no_ne (by rw [eqvL_ints, decide_eq_true rfl]) ?_⟩
    -- balances
    refine ⟨_, rfl, by show 1 ≤ sizeLine; decide, fun l1 hl1 => ?_⟩
    refine ⟨l1, _, _, rfl, rfl, upd_same, by decide, by decide, by show 1 * 500 ≤ sizeLine; decide, fun l2 hl2 => ?_⟩
    have erep : (List.replicate (500 : Int).toNat [V.int kd]).flatten = iv (List.replicate 500 kd) := by
      rw [rep_one]
      unfold iv
      rw [List.map_replicate]
      rfl
    have lr : (List.replicate 500 kd).length ≤ 500 := by rw [List.length_replicate]; exact Nat.le_refl _
    have hlr : Lts (List.replicate 500 kd) := fun z hz => by
      rw [List.eq_of_mem_replicate hz]
      omega
    refine fun x2 dx2 nx2 ndx2 _ => make_at nx2 ndx2 (.inl (SqL.of (by rw [upd_same, erep]))) lr hlr fun HC sC2 WC => ?_
    refine ⟨x2, _, rfl, WC, lr, hlr, fun bq HD sD BD => ?_⟩
    rw [bal_500 k1 k4] at BD
    refine ⟨_, rfl, by show 2 ≤ sizeLine; decide, fun t1 ht1 => ⟨by show 1 ≤ sizeLine; decide, fun t2 ht2 => ?_⟩⟩
    have st1 := same_upd (o := .tup [.int kd, .int 500]) ht1
    have st2 := same_upd (o := .tup [.ref t1]) ht2
    have gt1 := st2 _ _ (upd_same (H := HD) (a := t1) (o := .tup [.int kd, .int 500]))
    have B2 : BalAt K (L2.upd (L2.upd HD t1 (.tup [.int kd, .int 500])) t2 (.tup [.ref t1])) t2 [(kd, 500)] := ⟨[.ref t1], SqT.of upd_same, .cons ⟨t1, rfl, SqT.of gt1⟩ .nil⟩
    refine ⟨_, _, (BD.same (st1.trans st2)).dp, B2.dp, shapedPB _, shapedPB _, _, rfl, ?_⟩
    refine iteT' (by rw [eqvPB]; exact decide_eq_true rfl) ?_
    refine ⟨Nat.zero_le _, fun l3 hl3 x3 dx3 nx3 ndx3 _ => make_at (ms := []) nx3 ndx3 (.inl (SqL.of upd_same)) (by simp) (fun _ h => nomatch h) fun HE sE WE => ?_⟩
    refine ⟨x3, [], rfl, WE, by simp, (fun _ h => nomatch h), fun bq3 HF sF BF => ⟨Nat.zero_le _, fun t3 ht3 => ?_⟩⟩
    have st3 := same_upd (o := .tup []) ht3
    refine ⟨_, PB [], (BF.same st3).dp, .tup (SqT.of upd_same) .nil, shapedPB _, shapedPB _, _, rfl, ?_⟩
    refine iteT' (by rw [eqvPB]; exact decide_eq_true (Fr.bal_zero fun k => Fr.cnt_nil k)) ?_
    refine ⟨Nat.zero_le _, fun l4 hl4 x4 dx4 nx4 ndx4 _ => make_at (ms := []) nx4 ndx4 (.inl (SqL.of upd_same)) (by simp) (fun _ h => nomatch h) fun HG sG WG => ?_⟩
    refine ⟨x4, [], rfl, WG, by simp, (fun _ h => nomatch h), fun HH sH => ⟨_, _, rfl, rfl, ?_⟩⟩
    rw [decide_eq_true (Fr.bal_zero fun k => Fr.cnt_nil k)]
    exact k _
end
end W09
set_option Elab.async false
set_option linter.all false
set_option maxRecDepth 100000
set_option maxHeartbeats 1000000
namespace W09
open PySem L2 PySem.Spec PyProof.Rows WR WB
/-! ### what the top has written -/
structure FF (K : PySem.W.Frag) (mg : Str → Option Value) (x : Str) (st : Stmt) : Prop where
  ex : ∃ (f : Addr) (oc : Value) (od : Option Addr) (kV doc pm cdv ct : Value) (an : Option Addr) (osl : Array (Option Value)),
    K.lookup f = some ⟨oc, od, .func (PySem.W.fnOf x x (defArgs st) (defBody st) (defScope st) .none kV doc pm an cdv ct), osl⟩ ∧ PySem.W.codeIn K cdv x = true ∧ PySem.W.keepIn K (.ref f) = true ∧ mg x = some (.ref f)
theorem ff_mk {K : PySem.W.Frag} {mg : Str → Option Value} {h : Heap} {x : Str} {st : Stmt} {f : Addr} {oc : Value} {od an : Option Addr} {kV doc pm cdv ct : Value} {osl : Array (Option Value)} (X : K.In h) (G : h.Ns mainGlobals mg)
    (a : PySem.W.nsIn K mainGlobals x = some (some (.ref f))) (l : K.lookup f = some ⟨oc, od, .func (PySem.W.fnOf x x (defArgs st) (defBody st) (defScope st) .none kV doc pm an cdv ct), osl⟩) (c : PySem.W.codeIn K cdv x = true) (k : PySem.W.keepIn K (.ref f) = true) : FF K mg x st :=
  ⟨f, oc, od, kV, doc, pm, cdv, ct, an, osl, l, c, k, PySem.W.mg_of X G a⟩
/-- a def in the class's body, held by the class -/
structure FM (K : PySem.W.Frag) (C : Addr) (m q : Str) (st : Stmt) : Prop where
  ex : ∃ (f : Addr) (oc : Value) (od : Option Addr) (kV doc pm cdv ct : Value) (an : Option Addr) (osl : Array (Option Value)),
    PySem.W.findIn K (.ref C) m = some (some (.ref f)) ∧ PySem.W.isFn K (.ref f) = true ∧
    K.lookup f = some ⟨oc, od, .func (PySem.W.fnOf m q (defArgs st) (defBody st) (defScope st) .none kV doc pm an cdv ct), osl⟩ ∧ PySem.W.codeIn K cdv q = true ∧ PySem.W.keepIn K (.ref f) = true
theorem fm_mk {K : PySem.W.Frag} {C : Addr} {m q : Str} {st : Stmt} {f : Addr} {oc : Value} {od an : Option Addr} {kV doc pm cdv ct : Value} {osl : Array (Option Value)}
    (a : PySem.W.findIn K (.ref C) m = some (some (.ref f))) (i : PySem.W.isFn K (.ref f) = true) (l : K.lookup f = some ⟨oc, od, .func (PySem.W.fnOf m q (defArgs st) (defBody st) (defScope st) .none kV doc pm an cdv ct), osl⟩) (c : PySem.W.codeIn K cdv q = true) (k : PySem.W.keepIn K (.ref f) = true) : FM K C m q st :=
  ⟨f, oc, od, kV, doc, pm, cdv, ct, an, osl, a, i, l, c, k⟩
section
variable {P : Program} {w : World} {K : PySem.W.Frag} {mg : Str → Option Value} {base : Heap} {x m q : Str} {C : Addr} {st : Stmt} {k : Nat} {ps ks : List Str} {sp : Sp}
theorem FF.cal (F : FF K mg x st) (ok : ∀ f fd, Fun K x x st f fd → FnOk P w K mg base CX0 k f fd ps sp)
    (hb : ∀ (kV doc pm : Value) (an : Option Addr) (cdv ct : Value) (us : List Value), us.length = ps.length → bindArgs (PySem.W.fnOf x x (defArgs st) (defBody st) (defScope st) .none kV doc pm an cdv ct) ⟨us, []⟩ = pure (ps.zip us)) : Cal P w K mg base x k ps sp := by
  obtain ⟨f, oc, od, kV, doc, pm, cdv, ct, an, osl, l, c, kp, m⟩ := F.ex
  exact ⟨f, _, ok f _ (fun_mk l c kp), m, kp, (fun_mk l c kp).binds hb⟩
theorem FF.calK (F : FF K mg x st) (g : List Value → List Value) (gV : List V → List V) (ok : ∀ f fd, Fun K x x st f fd → FnOk P w K mg base CX0 k f fd ps sp)
    (hb : ∀ (kV doc pm : Value) (an : Option Addr) (cdv ct : Value) (ws : List Value), ws.length = ks.length → bindArgs (PySem.W.fnOf x x (defArgs st) (defBody st) (defScope st) .none kV doc pm an cdv ct) ⟨[], ks.zip ws⟩ = pure (ps.zip (g ws)))
    (hr : ∀ {zs : List V} {ws : List Value}, Vals zs ws → Vals (gV zs) (g ws)) : CalK P w K mg base x k ps ks gV sp := by
  obtain ⟨f, oc, od, kV, doc, pm, cdv, ct, an, osl, l, c, kp, m⟩ := F.ex
  refine ⟨f, _, g, ok f _ (fun_mk l c kp), m, kp, ⟨fun s us ws _ h0 h1 => ?_, fun _ r => hr r⟩⟩
  obtain rfl : us = [] := List.length_eq_zero_iff.mp h0
  exact .of_eq (hb kV doc pm an cdv ct ws h1)
theorem FM.meth (F : FM K C m q st) (ok : ∀ f fd, Fun K m q st f fd → FnOk P w K mg base CX0 6 f fd ps sp)
    (hb : ∀ (kV doc pm : Value) (an : Option Addr) (cdv ct : Value) (us : List Value), us.length = ps.length → bindArgs (PySem.W.fnOf m q (defArgs st) (defBody st) (defScope st) .none kV doc pm an cdv ct) ⟨us, []⟩ = pure (ps.zip us)) : MethW P w K mg base C m ps sp := by
  obtain ⟨f, oc, od, kV, doc, pm, cdv, ct, an, osl, a, i, l, c, kp⟩ := F.ex
  exact ⟨f, _, ⟨a, i, kp⟩, ok f _ (fun_mk l c kp), (fun_mk l c kp).binds hb⟩
end
theorem vals_app {a c : List V} {b d : List Value} (h1 : Vals a b) (h2 : Vals c d) : Vals (a ++ c) (b ++ d) := by
  induction h1 with
  | nil => exact h2
  | cons h t ih => exact .cons h ih
theorem vals_rev {a : List V} {b : List Value} (h : Vals a b) : Vals a.reverse b.reverse := by
  induction h with
  | nil => exact .nil
  | cons h t ih =>
    rw [List.reverse_cons, List.reverse_cons]
    exact vals_app ih (.cons h .nil)
/-- a staticmethod in the class's body -/
structure FS (K : PySem.W.Frag) (C : Addr) (m q : Str) (st : Stmt) : Prop where
  ex : ∃ (p f : Addr) (oc : Value) (od : Option Addr) (kV doc pm cdv ct : Value) (an : Option Addr) (osl : Array (Option Value)),
    MStat.SMet K C (.type "type") m p f ∧ K.lookup f = some ⟨oc, od, .func (PySem.W.fnOf m q (defArgs st) (defBody st) (defScope st) .none kV doc pm an cdv ct), osl⟩ ∧ PySem.W.codeIn K cdv q = true
theorem fs_mk {K : PySem.W.Frag} {C : Addr} {m q : Str} {st : Stmt} {p f : Addr} {rest : List Value} {oc : Value} {od an : Option Addr} {kV doc pm cdv ct : Value} {osl : Array (Option Value)}
    (rd : PySem.W.readsIn K C (.type "type") = true) (ga : PySem.W.specialIn K (.ref C) "__getattribute__" = some (some (.builtin "type.__getattribute__")))
    (at_ : PySem.W.findCls K (.ref C) (.type "type") m = some (.get (.builtin "staticmethod.__get__") (.ref p) .none (.ref C))) (rc : PySem.W.recIn K p "staticmethod" = some (.ref f :: rest)) (kp : PySem.W.keepIn K (.ref f) = true)
    (l : K.lookup f = some ⟨oc, od, .func (PySem.W.fnOf m q (defArgs st) (defBody st) (defScope st) .none kV doc pm an cdv ct), osl⟩) (c : PySem.W.codeIn K cdv q = true) : FS K C m q st :=
  ⟨p, f, oc, od, kV, doc, pm, cdv, ct, an, osl, ⟨rd, ga, at_, ⟨rest, rc⟩, kp⟩, l, c⟩
structure Names (mg : Str → Option Value) : Prop where
  isinstance : mg "isinstance" = none
  int : mg "int" = none
  bool : mg "bool" = none
  str : mg "str" = none
  list : mg "list" = none
  tuple : mg "tuple" = none
  all : mg "all" = none
  len : mg "len" = none
  abs : mg "abs" = none
  range : mg "range" = none
  sorted : mg "sorted" = none
  set : mg "set" = none
  dict : mg "dict" = none
  enumerate : mg "enumerate" = none
  repr : mg "repr" = none
  kind : ∃ t, mg "MOST_KIND" = some (.int 26 t)
  most : ∃ t, mg "MOST_LETTERS" = some (.int 500 t)
structure Defs (K : PySem.W.Frag) (mg : Str → Option Value) (C : Addr) : Prop where
  d_sIsInt : FF K mg "is_integer" sIsInt
  d_sWithin : FF K mg "is_within" sWithin
  d_sLetter : FF K mg "is_letter" sLetter
  d_sListed : FF K mg "is_listed" sListed
  d_sTwice : FF K mg "first_twice" sTwice
  d_sCon : FF K mg "contrary_letters" sCon
  d_sShr : FF K mg "shortened_letters" sShr
  d_sRnd : FF K mg "rounded_letters" sRnd
  d_sTurnedL : FF K mg "turned_letters" sTurnedL
  d_sExch : FF K mg "exchange_letters" sExch
  d_sWorths : FF K mg "worths_of" sWorths
  d_sRepl : FF K mg "replaced_letters" sRepl
  d_sBalOf : FF K mg "balance_of" sBalOf
  d_sKinds : FF K mg "kinds_of" sKinds
  d_sNeedI : FF K mg "need_integer" sNeedI
  d_sNeedWi : FF K mg "need_within" sNeedWi
  d_sNeedK : FF K mg "need_kind" sNeedK
  d_sNeedL : FF K mg "need_letter" sNeedL
  d_sNeedW : FF K mg "need_word" sNeedW
  d_sFew : FF K mg "need_few_letters" sFew
  d_sNeedP : FF K mg "need_pairs" sNeedP
  d_sRen : FF K mg "renamed" sRen
  d_sPut : FF K mg "put" sPut
  d_sBal : FF K mg "balance" sBal
  d_sIsBal : FF K mg "is_balanced" sIsBal
  d_sJar : FF K mg "_law_jar" sJar
  d_sDraw : FF K mg "_law_draw" sDraw
  d_sPick : FF K mg "_law_pick" sPick
  d_sLetters : FF K mg "_law_letters" sLetters
  d_sConL : FF K mg "_law_contrary" sConL
  d_sPutL : FF K mg "_law_put" sPutL
  d_sBalL : FF K mg "_law_balance" sBalL
  d_sMixed : FF K mg "_law_mixed" sMixed
  d_sRenR : FF K mg "_law_renamed_right" sRenR
  d_sPutR : FF K mg "_law_put_right" sPutR
  d_sAllR : FF K mg "_law_all_right" sAllR
  d_sBalR : FF K mg "_law_balance_right" sBalR
  d_sWholeR : FF K mg "_law_whole_right" sWholeR
  d_sLaw : FF K mg "law" sLaw
  m_sInit : FM K C "__init__" "Word.__init__" sInit
  m_sEq : FM K C "__eq__" "Word.__eq__" sEq
  m_sContrary : FM K C "contrary" "Word.contrary" sContrary
  m_sShort : FM K C "shortened" "Word.shortened" sShort
  m_sRound : FM K C "shortened_round" "Word.shortened_round" sRound
  m_sTurnedM : FM K C "turned" "Word.turned" sTurnedM
  m_sThen : FM K C "then" "Word.then" sThen
  m_sTimes : FM K C "times" "Word.times" sTimes
/-- what is to be known of the class -/
structure ClsW (K : PySem.W.Frag) (mg : Str → Option Value) (C : Addr) : Prop where
  cl : Cls K C
  nL : NoAttr K C "letters"
  nN : NoAttr K C "length"
  nK : NoAttr K C "kinds"
  nS : NoAttr K C "is_short"
  nR : NoAttr K C "is_short_round"
  ca : PySem.W.findIn K (.ref C) "__class__" = some (some (.builtin "object.__class__"))
  cn : PySem.W.specialIn K (.builtin "object.__class__") "__get__" = some (some (.builtin "getset_descriptor.__get__"))
  ct : PySem.W.takesIn K (.builtin "object.__class__") = some true
  cm : PySem.W.mroIn K C (.type "object") = some true
  ne : PySem.W.findIn K (.ref C) "__ne__" = some (some (.builtin "object.__ne__"))
  mks : PySem.W.makesIn K C = true
  kc : PySem.W.keepIn K (.ref C) = true
  mgW : mg "Word" = some (.ref C)
theorem law_mk {P : Program} {w : World} {K : PySem.W.Frag} {mg : Str → Option Value} {base : Heap} {C : Addr} {fL : Addr} {fdL : FuncData} (N : Names mg) (D : Defs K mg C) (W : ClsW K mg C) (SX : FS K C "exchange" "Word.exchange" sExchM) (FL : Fun K "law" "law" sLaw fL fdL) : FnOk P w K mg base CX0 9 fL fdL ["_law_script"] (spLaw K) := by
  have tA : TxA mg := ⟨N.tuple, N.len⟩
  have tB : TxB mg := ⟨N.sorted, N.abs⟩
  have tC : TxC mg := ⟨N.kind, N.all⟩
  have tI : TxI mg := ⟨N.isinstance, N.int, N.bool, N.str, N.list, N.tuple⟩
  have tL : TxL mg := ⟨N.int, N.len, N.abs⟩
  have tN : TxN mg := ⟨N.range, N.list⟩
  have tS : TxS mg := ⟨N.set, N.dict, N.enumerate, N.repr⟩
  have tW : TxW K mg C := ⟨W.cl, W.nL, W.nN, W.nK, W.nS, W.nR, W.ca, W.cn, W.ct, W.cm, W.mgW, N.most, N.isinstance, N.all⟩
  have cInt : Cal P w K mg base "is_integer" 1 ["value"] spIsInt := D.d_sIsInt.cal (fun f fd F => ok_isInt F tI) (fun _ _ _ _ _ _ us hl => match us, hl with | [_], _ => rfl)
  have cWithin : Cal P w K mg base "is_within" 2 ["value", "least", "most"] spWithin := D.d_sWithin.cal (fun f fd F => ok_within F cInt) (fun _ _ _ _ _ _ us hl => match us, hl with | [_, _, _], _ => rfl)
  have cLetter : Cal P w K mg base "is_letter" 3 ["value"] spLetter := D.d_sLetter.cal (fun f fd F => ok_letter F cWithin tC) (fun _ _ _ _ _ _ us hl => match us, hl with | [_], _ => rfl)
  have cListE : Cal P w K mg base "is_listed" 1 ["value"] (spListE K) := D.d_sListed.cal (fun f fd F => ok_listE F tI) (fun _ _ _ _ _ _ us hl => match us, hl with | [_], _ => rfl)
  have cTwice : Cal P w K mg base "first_twice" 1 ["values"] (spTwice K) := D.d_sTwice.cal (fun f fd F => ok_twice F tS) (fun _ _ _ _ _ _ us hl => match us, hl with | [_], _ => rfl)
  have cFew : Cal P w K mg base "need_few_letters" 1 ["many"] spFew := D.d_sFew.cal (fun f fd F => ok_few F tW) (fun _ _ _ _ _ _ us hl => match us, hl with | [_], _ => rfl)
  have cKinds : Cal P w K mg base "kinds_of" 1 ["letters"] (spKinds K) := D.d_sKinds.cal (fun f fd F => ok_kinds F tA tB) (fun _ _ _ _ _ _ us hl => match us, hl with | [_], _ => rfl)
  have cShr : Cal P w K mg base "shortened_letters" 1 ["letters"] (spShr K) := D.d_sShr.cal (fun f fd F => ok_shr F tA) (fun _ _ _ _ _ _ us hl => match us, hl with | [_], _ => rfl)
  have cRnd : Cal P w K mg base "rounded_letters" 2 ["letters"] (spRnd K) := D.d_sRnd.cal (fun f fd F => ok_rnd F cShr tA) (fun _ _ _ _ _ _ us hl => match us, hl with | [_], _ => rfl)
  have cCon : Cal P w K mg base "contrary_letters" 1 ["letters"] (spCon K) := D.d_sCon.cal (fun f fd F => ok_con F tA) (fun _ _ _ _ _ _ us hl => match us, hl with | [_], _ => rfl)
  have cTurnedL : Cal P w K mg base "turned_letters" 1 ["letters", "by"] (spTurnedL K) := D.d_sTurnedL.cal (fun f fd F => ok_turnedL F tA) (fun _ _ _ _ _ _ us hl => match us, hl with | [_, _], _ => rfl)
  have cExch : Cal P w K mg base "exchange_letters" 2 ["one", "other"] (spExch K) := D.d_sExch.cal (fun f fd F => ok_exch F cCon) (fun _ _ _ _ _ _ us hl => match us, hl with | [_, _], _ => rfl)
  have cWorths : Cal P w K mg base "worths_of" 2 ["kind", "letters"] (spWorths K) := D.d_sWorths.cal (fun f fd F => ok_worths F cCon) (fun _ _ _ _ _ _ us hl => match us, hl with | [_, _], _ => rfl)
  have cRepl : Cal P w K mg base "replaced_letters" 1 ["letters", "worths"] (spRepl K) := D.d_sRepl.cal (fun f fd F => ok_repl F tA) (fun _ _ _ _ _ _ us hl => match us, hl with | [_, _], _ => rfl)
  have cBalOf : Cal P w K mg base "balance_of" 2 ["letters"] (spBalOf K) := D.d_sBalOf.cal (fun f fd F => ok_balOf F tA cKinds) (fun _ _ _ _ _ _ us hl => match us, hl with | [_], _ => rfl)
  have cNeedI : Cal P w K mg base "need_integer" 2 ["value", "part"] spNeedI := D.d_sNeedI.cal (fun f fd F => ok_needI F cInt) (fun _ _ _ _ _ _ us hl => match us, hl with | [_, _], _ => rfl)
  have cNeedWi : Cal P w K mg base "need_within" 3 ["value", "least", "most", "part"] spNeedWi := D.d_sNeedWi.cal (fun f fd F => ok_needWi F cWithin) (fun _ _ _ _ _ _ us hl => match us, hl with | [_, _, _, _], _ => rfl)
  have cNeedK : Cal P w K mg base "need_kind" 4 ["value", "part"] spNeedK := D.d_sNeedK.cal (fun f fd F => ok_needK F tC cNeedWi) (fun _ _ _ _ _ _ us hl => match us, hl with | [_, _], _ => rfl)
  have cNeedL : Cal P w K mg base "need_letter" 4 ["value"] spNeedL := D.d_sNeedL.cal (fun f fd F => ok_needL F cLetter) (fun _ _ _ _ _ _ us hl => match us, hl with | [_], _ => rfl)
  have cNeedW : Cal P w K mg base "need_word" 1 ["value", "part"] (spNeedW K C) := D.d_sNeedW.cal (fun f fd F => ok_needW F tW) (fun _ _ _ _ _ _ us hl => match us, hl with | [_, _], _ => rfl)
  have cNeedP : Cal P w K mg base "need_pairs" 5 ["pairs"] (spNeedP K) := D.d_sNeedP.cal (fun f fd F => ok_needP F tW tC tA cListE cWithin cNeedL cTwice) (fun _ _ _ _ _ _ us hl => match us, hl with | [_], _ => rfl)
  have mW : MkW P w K mg base C := by
    obtain ⟨f, oc, od, kV, doc, pm, cdv, ct, an, osl, a, i, l, c, kp⟩ := D.m_sInit.ex
    exact ⟨f, _, ⟨W.mks, a, i, W.kc⟩, ok_init (fun_mk l c kp) tW tA cListE cLetter cFew cKinds cShr cRnd, (fun_mk l c kp).binds (fun _ _ _ _ _ _ us hl => match us, hl with | [_, _], _ => rfl)⟩
  have eW : EqW P w K mg base C := by
    obtain ⟨f, oc, od, kV, doc, pm, cdv, ct, an, osl, a, i, l, c, kp⟩ := D.m_sEq.ex
    exact ⟨f, _, ok_eq (fun_mk l c kp) tW, a, i, (fun_mk l c kp).binds (fun _ _ _ _ _ _ us hl => match us, hl with | [_, _], _ => rfl)⟩
  have okRen := fun f fd (F : Fun K "renamed" "renamed" sRen f fd) => ok_ren (base := base) (P := P) (w := w) F tW mW cNeedW cNeedP
  have okPut := fun f fd (F : Fun K "put" "put" sPut f fd) => ok_put (base := base) (P := P) (w := w) F tW mW cNeedW cNeedK cWorths cRepl
  have okBal := fun f fd (F : Fun K "balance" "balance" sBal f fd) => ok_bal (base := base) (P := P) (w := w) F tW cNeedW cBalOf
  have cBal : Cal P w K mg base "balance" 3 ["word"] (spBal K C) := D.d_sBal.cal okBal (fun _ _ _ _ _ _ us hl => match us, hl with | [_], _ => rfl)
  have okIsb := fun f fd (F : Fun K "is_balanced" "is_balanced" sIsBal f fd) => ok_isBal (base := base) (P := P) (w := w) F cBal
  have sX : SMw P w K mg base C "exchange" ["one", "other"] (spExchM K C) := by
    obtain ⟨p, f, oc, od, kV, doc, pm, cdv, ct, an, osl, sm, l, c⟩ := SX.ex
    exact ⟨.type "type", p, f, _, sm, ok_exchM (fun_mk l c sm.kp) tW mW cNeedW cExch, (fun_mk l c sm.kp).binds (fun _ _ _ _ _ _ us hl => match us, hl with | [_, _], _ => rfl)⟩
  have aW : AllW P w K mg base C := {
    con := D.m_sContrary.meth (fun f fd F => ok_contrary F tW mW cCon) (fun _ _ _ _ _ _ us hl => match us, hl with | [_], _ => rfl)
    sht := D.m_sShort.meth (fun f fd F => ok_shortened F tW mW cShr) (fun _ _ _ _ _ _ us hl => match us, hl with | [_], _ => rfl)
    rnd := D.m_sRound.meth (fun f fd F => ok_round F tW mW cRnd) (fun _ _ _ _ _ _ us hl => match us, hl with | [_], _ => rfl)
    trd := D.m_sTurnedM.meth (fun f fd F => ok_turned F tW mW cNeedI cTurnedL) (fun _ _ _ _ _ _ us hl => match us, hl with | [_, _], _ => rfl)
    thn := D.m_sThen.meth (fun f fd F => ok_then F tW mW cNeedW) (fun _ _ _ _ _ _ us hl => match us, hl with | [_, _], _ => rfl)
    tms := D.m_sTimes.meth (fun f fd F => ok_times F tW tB mW cNeedI cFew cCon) (fun _ _ _ _ _ _ us hl => match us, hl with | [_, _], _ => rfl)
    exc := sX
    mkw := mW
    eq := eW
    ne := W.ne
    ren := D.d_sRen.cal okRen (fun _ _ _ _ _ _ us hl => match us, hl with | [_, _], _ => rfl)
    renK := D.d_sRen.calK id id okRen (fun _ _ _ _ _ _ us hl => match us, hl with | [_, _], _ => rfl) fun r => r
    put := D.d_sPut.cal okPut (fun _ _ _ _ _ _ us hl => match us, hl with | [_, _, _], _ => rfl)
    putK := D.d_sPut.calK List.reverse List.reverse okPut (fun _ _ _ _ _ _ us hl => match us, hl with | [_, _, _], _ => rfl) fun r => vals_rev r
    bal := cBal
    balK := D.d_sBal.calK id id okBal (fun _ _ _ _ _ _ us hl => match us, hl with | [_], _ => rfl) fun r => r
    isb := D.d_sIsBal.cal okIsb (fun _ _ _ _ _ _ us hl => match us, hl with | [_], _ => rfl)
    isbK := D.d_sIsBal.calK id id okIsb (fun _ _ _ _ _ _ us hl => match us, hl with | [_], _ => rfl) fun r => r }
  have cJar : Cal P w K mg base "_law_jar" 1 ["_law_script"] (spHand K) := D.d_sJar.cal (fun f fd F => ok_hand F tL) (fun _ _ _ _ _ _ us hl => match us, hl with | [_], _ => rfl)
  have cDraw : Cal P w K mg base "_law_draw" 1 ["_law_jar_here", "_law_many"] spTake := D.d_sDraw.cal (fun f fd F => ok_take F tL) (fun _ _ _ _ _ _ us hl => match us, hl with | [_, _], _ => rfl)
  have cConL : Cal P w K mg base "_law_contrary" 1 ["_law_letters_here"] spConL := D.d_sConL.cal (fun f fd F => ok_conL F) (fun _ _ _ _ _ _ us hl => match us, hl with | [_], _ => rfl)
  have nC : LawC P w K mg base := {
    draw := cDraw
    pick := D.d_sPick.cal (fun f fd F => ok_pick F cDraw tL) (fun _ _ _ _ _ _ us hl => match us, hl with | [_, _], _ => rfl)
    lets := D.d_sLetters.cal (fun f fd F => ok_letters F cDraw tN) (fun _ _ _ _ _ _ us hl => match us, hl with | [_, _, _], _ => rfl)
    conL := cConL
    putL := D.d_sPutL.cal (fun f fd F => ok_putL F tL cConL) (fun _ _ _ _ _ _ us hl => match us, hl with | [_, _], _ => rfl)
    balL := D.d_sBalL.cal (fun f fd F => ok_balL F tA tN) (fun _ _ _ _ _ _ us hl => match us, hl with | [_], _ => rfl)
    mixed := D.d_sMixed.cal (fun f fd F => ok_mixed F tA tN cDraw) (fun _ _ _ _ _ _ us hl => match us, hl with | [_, _], _ => rfl)
    abs := N.abs
    len := N.len
    tuple := N.tuple
    list := N.list
    range := N.range
    dict := N.dict
    enum := N.enumerate
    repr := N.repr }
  have nD : LawD P w K mg base := {
    jar := cJar
    ren := D.d_sRenR.cal (fun f fd F => ok_renR F tW aW nC) (fun _ _ _ _ _ _ us hl => match us, hl with | [_, _], _ => rfl)
    put := D.d_sPutR.cal (fun f fd F => ok_putR F tW aW nC) (fun _ _ _ _ _ _ us hl => match us, hl with | [_, _, _], _ => rfl)
    all := D.d_sAllR.cal (fun f fd F => ok_allR F tW aW nC) (fun _ _ _ _ _ _ us hl => match us, hl with | [_, _], _ => rfl)
    bal := D.d_sBalR.cal (fun f fd F => ok_balR F tW aW nC) (fun _ _ _ _ _ _ us hl => match us, hl with | [_, _, _], _ => rfl)
    whole := D.d_sWholeR.cal (fun f fd F => ok_wholeR F tW aW nC) (fun _ _ _ _ _ _ us hl => match us, hl with | [_], _ => rfl) }
  exact ok_law FL tW aW nC nD
theorem at_mk {l : PySem.W.OpenLaw} {w : World} {K : PySem.W.Frag} {h : Heap} {mg : Str → Option Value} {fa C : Addr} (X : K.In h) (G : h.Ns mainGlobals mg) (hfa : mg "law" = some (.ref fa)) (N : Names mg) (D : Defs K mg C) (W : ClsW K mg C) (SX : FS K C "exchange" "Word.exchange" sExchM) :
    ∃ fd : FuncData, (∀ (s : Shared) (v : Value), BindsTo s fd ⟨[v], []⟩ [("_law_script", v)]) ∧ ∀ base : Heap, K.In base → base.Ns mainGlobals mg → FnOk l.prog w K mg base CX0 9 fa fd ["_law_script"] (spLaw K) := by
  obtain ⟨f, oc, od, kV, doc, pm, cdv, ct, an, osl, lL, c, kp, m⟩ := D.d_sLaw.ex
  have e := hfa.symm.trans m
  cases e
  exact ⟨_, fun s v => .of_eq rfl, fun base _ _ => law_mk N D W SX (fun_mk lL c kp)⟩
theorem walk {l : PySem.W.OpenLaw} {q : Program} {loose : List Str} {XP : (Str → Option Value) → Heap → Prop} {YP : World → Heap → Prop} {d : DefRec} {K : Params → PySem.W.Frag} (hn : l.most = some 63) (hdf : d.params.defaults = [])
    (hY : ∀ (w : World) (h : Heap), YP w h → (K w.params).In h)
    (F : ∀ (w : World) (mg : Str → Option Value) (fa : Addr) (h : Heap), (K w.params).In h → h.Ns mainGlobals mg → mg d.name = some (.ref fa) →
      ∃ fd : FuncData, (∀ (s : Shared) (u : Value), BindsTo s fd ⟨[u], []⟩ [("_law_script", u)]) ∧ ∀ base : Heap, (K w.params).In base → base.Ns mainGlobals mg → FnOk l.prog w (K w.params) mg base CX0 9 fa fd ["_law_script"] (spLaw (K w.params))) :
    PySem.W.WalkO q loose XP YP l.row.toRowW d [] (fun f vs => PySem.call f vs) :=
  L2.walk_of (n := 63) (k := 9) (x := "_law_script") (CX := fun _ => CX0) (sp := fun w => spLaw (K w.params)) hn (by decide) hdf ⟨rfl, by decide, by decide⟩ hY F (fun _ _ a ns hl _ hS => ⟨a, ns, rfl, hS, hl, fun _ => rfl⟩) fun _ _ _ _ _ z => z
end W09
set_option Elab.async false
set_option linter.all false
set_option maxRecDepth 100000
set_option maxHeartbeats 4000000
namespace W09
open PySem L2 PySem.Spec PyProof.Rows WR WB
theorem names_mk {K : PySem.W.Frag} {h : Heap} {mg : Str → Option Value} {u0 u1 : Tok} (X : K.In h) (G : h.Ns mainGlobals mg)
    (n0 : PySem.W.nsIn K mainGlobals "isinstance" = some none) (n1 : PySem.W.nsIn K mainGlobals "int" = some none) (n2 : PySem.W.nsIn K mainGlobals "bool" = some none) (n3 : PySem.W.nsIn K mainGlobals "str" = some none) (n4 : PySem.W.nsIn K mainGlobals "list" = some none) (n5 : PySem.W.nsIn K mainGlobals "tuple" = some none) (n6 : PySem.W.nsIn K mainGlobals "all" = some none) (n7 : PySem.W.nsIn K mainGlobals "len" = some none) (n8 : PySem.W.nsIn K mainGlobals "abs" = some none) (n9 : PySem.W.nsIn K mainGlobals "range" = some none) (n10 : PySem.W.nsIn K mainGlobals "sorted" = some none) (n11 : PySem.W.nsIn K mainGlobals "set" = some none) (n12 : PySem.W.nsIn K mainGlobals "dict" = some none) (n13 : PySem.W.nsIn K mainGlobals "enumerate" = some none) (n14 : PySem.W.nsIn K mainGlobals "repr" = some none) (g0 : PySem.W.nsIn K mainGlobals "MOST_KIND" = some (some (.int 26 u0))) (g1 : PySem.W.nsIn K mainGlobals "MOST_LETTERS" = some (some (.int 500 u1))) : Names mg :=
  ⟨PySem.W.mg_none_of X G n0, PySem.W.mg_none_of X G n1, PySem.W.mg_none_of X G n2, PySem.W.mg_none_of X G n3, PySem.W.mg_none_of X G n4, PySem.W.mg_none_of X G n5, PySem.W.mg_none_of X G n6, PySem.W.mg_none_of X G n7, PySem.W.mg_none_of X G n8, PySem.W.mg_none_of X G n9, PySem.W.mg_none_of X G n10, PySem.W.mg_none_of X G n11, PySem.W.mg_none_of X G n12, PySem.W.mg_none_of X G n13, PySem.W.mg_none_of X G n14, ⟨_, PySem.W.mg_of X G g0⟩, ⟨_, PySem.W.mg_of X G g1⟩⟩
theorem cls_mk {K : PySem.W.Frag} {h : Heap} {mg : Str → Option Value} {C : Addr} (X : K.In h) (G : h.Ns mainGlobals mg)
    (aC : PySem.W.nsIn K mainGlobals "Word" = some (some (.ref C)))
    (pg : PySem.W.plainGet K C Str.empty = true) (hd : PySem.W.hasDictIn K C = true) (po : PySem.W.plainOver K C = true) (sa : PySem.W.findIn K (.ref C) "__setattr__" = some (some (.builtin "object.__setattr__")))
    (nL : PySem.W.findIn K (.ref C) "letters" = some none) (nN : PySem.W.findIn K (.ref C) "length" = some none) (nK : PySem.W.findIn K (.ref C) "kinds" = some none) (nS : PySem.W.findIn K (.ref C) "is_short" = some none) (nR : PySem.W.findIn K (.ref C) "is_short_round" = some none)
    (ca : PySem.W.findIn K (.ref C) "__class__" = some (some (.builtin "object.__class__")))
    (cn : PySem.W.specialIn K (.builtin "object.__class__") "__get__" = some (some (.builtin "getset_descriptor.__get__")))
    (ct : PySem.W.takesIn K (.builtin "object.__class__") = some true)
    (cm : PySem.W.mroIn K C (.type "object") = some true)
    (ne : PySem.W.findIn K (.ref C) "__ne__" = some (some (.builtin "object.__ne__")))
    (mk : PySem.W.makesIn K C = true) (kc : PySem.W.keepIn K (.ref C) = true) : ClsW K mg C :=
  ⟨⟨pg, hd, po, sa⟩, nL, nN, nK, nS, nR, ca, cn, ct, cm, ne, mk, kc, PySem.W.mg_of X G aC⟩
end W09

open PySem PySem.W PyProof.Rows in
set_option maxRecDepth 100000 in
set_option maxHeartbeats 0 in
theorem PySem.Challenge.cw_handlerims_k09_letters_and_words_put_for_holds : PySem.Challenge.rw_handlerims_k09_letters_and_words_put_for.Holds := by
  w_on; o_law; k_head; (case hw => w_witness2)
  k_fill
  refine W09.walk (l := PySem.Challenge.rw_handlerims_k09_letters_and_words_put_for) rfl rfl (fun w h Y => PySem.W.kIn_of Y) ?F
  case F =>
    intro w mg fa h KX G hmg
    have hN : W09.Names mg := by
      refine' W09.names_mk KX G ?q_n0 ?q_n1 ?q_n2 ?q_n3 ?q_n4 ?q_n5 ?q_n6 ?q_n7 ?q_n8 ?q_n9 ?q_n10 ?q_n11 ?q_n12 ?q_n13 ?q_n14 ?q_g0 ?q_g1
      (case q_n0 => k_is)
      (case q_n1 => k_is)
      (case q_n2 => k_is)
      (case q_n3 => k_is)
      (case q_n4 => k_is)
      (case q_n5 => k_is)
      (case q_n6 => k_is)
      (case q_n7 => k_is)
      (case q_n8 => k_is)
      (case q_n9 => k_is)
      (case q_n10 => k_is)
      (case q_n11 => k_is)
      (case q_n12 => k_is)
      (case q_n13 => k_is)
      (case q_n14 => k_is)
      (case q_g0 => k_is)
      (case q_g1 => k_is)
    refine' W09.at_mk KX G hmg hN ?q_D ?q_W (W09.fs_mk ?q_srd ?q_sga ?q_sat ?q_src ?q_skp ?q_sl ?q_sc)
    case q_W =>
      refine' W09.cls_mk KX G ?q_aC ?q_pg ?q_hd ?q_po ?q_sa ?q_nL ?q_nN ?q_nK ?q_nS ?q_nR ?q_ca ?q_cn ?q_ct ?q_cm ?q_ne ?q_mk ?q_kc
      (case q_aC => k_is)
      (case q_pg => k_is)
      (case q_hd => k_is)
      (case q_po => k_is)
      (case q_sa => k_is)
      (case q_nL => k_is)
      (case q_nN => k_is)
      (case q_nK => k_is)
      (case q_nS => k_is)
      (case q_nR => k_is)
      (case q_ca => k_is)
      (case q_cn => k_is)
      (case q_ct => k_is)
      (case q_cm => k_is)
      (case q_ne => k_is)
      (case q_mk => k_is)
      (case q_kc => k_is)
    case q_D =>
      refine' { d_sIsInt := W09.ff_mk KX G ?q_a0 ?q_l0 ?q_c0 ?q_k0, d_sWithin := W09.ff_mk KX G ?q_a1 ?q_l1 ?q_c1 ?q_k1, d_sLetter := W09.ff_mk KX G ?q_a2 ?q_l2 ?q_c2 ?q_k2, d_sListed := W09.ff_mk KX G ?q_a3 ?q_l3 ?q_c3 ?q_k3, d_sTwice := W09.ff_mk KX G ?q_a4 ?q_l4 ?q_c4 ?q_k4, d_sCon := W09.ff_mk KX G ?q_a5 ?q_l5 ?q_c5 ?q_k5, d_sShr := W09.ff_mk KX G ?q_a6 ?q_l6 ?q_c6 ?q_k6, d_sRnd := W09.ff_mk KX G ?q_a7 ?q_l7 ?q_c7 ?q_k7, d_sTurnedL := W09.ff_mk KX G ?q_a8 ?q_l8 ?q_c8 ?q_k8, d_sExch := W09.ff_mk KX G ?q_a9 ?q_l9 ?q_c9 ?q_k9, d_sWorths := W09.ff_mk KX G ?q_a10 ?q_l10 ?q_c10 ?q_k10, d_sRepl := W09.ff_mk KX G ?q_a11 ?q_l11 ?q_c11 ?q_k11, d_sBalOf := W09.ff_mk KX G ?q_a12 ?q_l12 ?q_c12 ?q_k12, d_sKinds := W09.ff_mk KX G ?q_a13 ?q_l13 ?q_c13 ?q_k13, d_sNeedI := W09.ff_mk KX G ?q_a14 ?q_l14 ?q_c14 ?q_k14, d_sNeedWi := W09.ff_mk KX G ?q_a15 ?q_l15 ?q_c15 ?q_k15, d_sNeedK := W09.ff_mk KX G ?q_a16 ?q_l16 ?q_c16 ?q_k16, d_sNeedL := W09.ff_mk KX G ?q_a17 ?q_l17 ?q_c17 ?q_k17, d_sNeedW := W09.ff_mk KX G ?q_a18 ?q_l18 ?q_c18 ?q_k18, d_sFew := W09.ff_mk KX G ?q_a19 ?q_l19 ?q_c19 ?q_k19, d_sNeedP := W09.ff_mk KX G ?q_a20 ?q_l20 ?q_c20 ?q_k20, d_sRen := W09.ff_mk KX G ?q_a21 ?q_l21 ?q_c21 ?q_k21, d_sPut := W09.ff_mk KX G ?q_a22 ?q_l22 ?q_c22 ?q_k22, d_sBal := W09.ff_mk KX G ?q_a23 ?q_l23 ?q_c23 ?q_k23, d_sIsBal := W09.ff_mk KX G ?q_a24 ?q_l24 ?q_c24 ?q_k24, d_sJar := W09.ff_mk KX G ?q_a25 ?q_l25 ?q_c25 ?q_k25, d_sDraw := W09.ff_mk KX G ?q_a26 ?q_l26 ?q_c26 ?q_k26, d_sPick := W09.ff_mk KX G ?q_a27 ?q_l27 ?q_c27 ?q_k27, d_sLetters := W09.ff_mk KX G ?q_a28 ?q_l28 ?q_c28 ?q_k28, d_sConL := W09.ff_mk KX G ?q_a29 ?q_l29 ?q_c29 ?q_k29, d_sPutL := W09.ff_mk KX G ?q_a30 ?q_l30 ?q_c30 ?q_k30, d_sBalL := W09.ff_mk KX G ?q_a31 ?q_l31 ?q_c31 ?q_k31, d_sMixed := W09.ff_mk KX G ?q_a32 ?q_l32 ?q_c32 ?q_k32, d_sRenR := W09.ff_mk KX G ?q_a33 ?q_l33 ?q_c33 ?q_k33, d_sPutR := W09.ff_mk KX G ?q_a34 ?q_l34 ?q_c34 ?q_k34, d_sAllR := W09.ff_mk KX G ?q_a35 ?q_l35 ?q_c35 ?q_k35, d_sBalR := W09.ff_mk KX G ?q_a36 ?q_l36 ?q_c36 ?q_k36, d_sWholeR := W09.ff_mk KX G ?q_a37 ?q_l37 ?q_c37 ?q_k37, d_sLaw := W09.ff_mk KX G ?q_a38 ?q_l38 ?q_c38 ?q_k38, m_sInit := W09.fm_mk ?q_ma0 ?q_mi0 ?q_ml0 ?q_mc0 ?q_mk0, m_sEq := W09.fm_mk ?q_ma1 ?q_mi1 ?q_ml1 ?q_mc1 ?q_mk1, m_sContrary := W09.fm_mk ?q_ma2 ?q_mi2 ?q_ml2 ?q_mc2 ?q_mk2, m_sShort := W09.fm_mk ?q_ma3 ?q_mi3 ?q_ml3 ?q_mc3 ?q_mk3, m_sRound := W09.fm_mk ?q_ma4 ?q_mi4 ?q_ml4 ?q_mc4 ?q_mk4, m_sTurnedM := W09.fm_mk ?q_ma5 ?q_mi5 ?q_ml5 ?q_mc5 ?q_mk5, m_sThen := W09.fm_mk ?q_ma6 ?q_mi6 ?q_ml6 ?q_mc6 ?q_mk6, m_sTimes := W09.fm_mk ?q_ma7 ?q_mi7 ?q_ml7 ?q_mc7 ?q_mk7 }
      (case q_a0 => k_is); (case q_l0 => k_is); (case q_c0 => k_is); (case q_k0 => k_is)
      (case q_a1 => k_is); (case q_l1 => k_is); (case q_c1 => k_is); (case q_k1 => k_is)
      (case q_a2 => k_is); (case q_l2 => k_is); (case q_c2 => k_is); (case q_k2 => k_is)
      (case q_a3 => k_is); (case q_l3 => k_is); (case q_c3 => k_is); (case q_k3 => k_is)
      (case q_a4 => k_is); (case q_l4 => k_is); (case q_c4 => k_is); (case q_k4 => k_is)
      (case q_a5 => k_is); (case q_l5 => k_is); (case q_c5 => k_is); (case q_k5 => k_is)
      (case q_a6 => k_is); (case q_l6 => k_is); (case q_c6 => k_is); (case q_k6 => k_is)
      (case q_a7 => k_is); (case q_l7 => k_is); (case q_c7 => k_is); (case q_k7 => k_is)
      (case q_a8 => k_is); (case q_l8 => k_is); (case q_c8 => k_is); (case q_k8 => k_is)
      (case q_a9 => k_is); (case q_l9 => k_is); (case q_c9 => k_is); (case q_k9 => k_is)
      (case q_a10 => k_is); (case q_l10 => k_is); (case q_c10 => k_is); (case q_k10 => k_is)
      (case q_a11 => k_is); (case q_l11 => k_is); (case q_c11 => k_is); (case q_k11 => k_is)
      (case q_a12 => k_is); (case q_l12 => k_is); (case q_c12 => k_is); (case q_k12 => k_is)
      (case q_a13 => k_is); (case q_l13 => k_is); (case q_c13 => k_is); (case q_k13 => k_is)
      (case q_a14 => k_is); (case q_l14 => k_is); (case q_c14 => k_is); (case q_k14 => k_is)
      (case q_a15 => k_is); (case q_l15 => k_is); (case q_c15 => k_is); (case q_k15 => k_is)
      (case q_a16 => k_is); (case q_l16 => k_is); (case q_c16 => k_is); (case q_k16 => k_is)
      (case q_a17 => k_is); (case q_l17 => k_is); (case q_c17 => k_is); (case q_k17 => k_is)
      (case q_a18 => k_is); (case q_l18 => k_is); (case q_c18 => k_is); (case q_k18 => k_is)
      (case q_a19 => k_is); (case q_l19 => k_is); (case q_c19 => k_is); (case q_k19 => k_is)
      (case q_a20 => k_is); (case q_l20 => k_is); (case q_c20 => k_is); (case q_k20 => k_is)
      (case q_a21 => k_is); (case q_l21 => k_is); (case q_c21 => k_is); (case q_k21 => k_is)
      (case q_a22 => k_is); (case q_l22 => k_is); (case q_c22 => k_is); (case q_k22 => k_is)
      (case q_a23 => k_is); (case q_l23 => k_is); (case q_c23 => k_is); (case q_k23 => k_is)
      (case q_a24 => k_is); (case q_l24 => k_is); (case q_c24 => k_is); (case q_k24 => k_is)
      (case q_a25 => k_is); (case q_l25 => k_is); (case q_c25 => k_is); (case q_k25 => k_is)
      (case q_a26 => k_is); (case q_l26 => k_is); (case q_c26 => k_is); (case q_k26 => k_is)
      (case q_a27 => k_is); (case q_l27 => k_is); (case q_c27 => k_is); (case q_k27 => k_is)
      (case q_a28 => k_is); (case q_l28 => k_is); (case q_c28 => k_is); (case q_k28 => k_is)
      (case q_a29 => k_is); (case q_l29 => k_is); (case q_c29 => k_is); (case q_k29 => k_is)
      (case q_a30 => k_is); (case q_l30 => k_is); (case q_c30 => k_is); (case q_k30 => k_is)
      (case q_a31 => k_is); (case q_l31 => k_is); (case q_c31 => k_is); (case q_k31 => k_is)
      (case q_a32 => k_is); (case q_l32 => k_is); (case q_c32 => k_is); (case q_k32 => k_is)
      (case q_a33 => k_is); (case q_l33 => k_is); (case q_c33 => k_is); (case q_k33 => k_is)
      (case q_a34 => k_is); (case q_l34 => k_is); (case q_c34 => k_is); (case q_k34 => k_is)
      (case q_a35 => k_is); (case q_l35 => k_is); (case q_c35 => k_is); (case q_k35 => k_is)
      (case q_a36 => k_is); (case q_l36 => k_is); (case q_c36 => k_is); (case q_k36 => k_is)
      (case q_a37 => k_is); (case q_l37 => k_is); (case q_c37 => k_is); (case q_k37 => k_is)
      (case q_a38 => k_is); (case q_l38 => k_is); (case q_c38 => k_is); (case q_k38 => k_is)
      (case q_ma0 => k_is); (case q_mi0 => k_is); (case q_ml0 => k_is); (case q_mc0 => k_is); (case q_mk0 => k_is)
      (case q_ma1 => k_is); (case q_mi1 => k_is); (case q_ml1 => k_is); (case q_mc1 => k_is); (case q_mk1 => k_is)
      (case q_ma2 => k_is); (case q_mi2 => k_is); (case q_ml2 => k_is); (case q_mc2 => k_is); (case q_mk2 => k_is)
      (case q_ma3 => k_is); (case q_mi3 => k_is); (case q_ml3 => k_is); (case q_mc3 => k_is); (case q_mk3 => k_is)
      (case q_ma4 => k_is); (case q_mi4 => k_is); (case q_ml4 => k_is); (case q_mc4 => k_is); (case q_mk4 => k_is)
      (case q_ma5 => k_is); (case q_mi5 => k_is); (case q_ml5 => k_is); (case q_mc5 => k_is); (case q_mk5 => k_is)
      (case q_ma6 => k_is); (case q_mi6 => k_is); (case q_ml6 => k_is); (case q_mc6 => k_is); (case q_mk6 => k_is)
      (case q_ma7 => k_is); (case q_mi7 => k_is); (case q_ml7 => k_is); (case q_mc7 => k_is); (case q_mk7 => k_is)
    (case q_srd => k_is); (case q_sga => k_is); (case q_sat => k_is); (case q_src => k_is); (case q_skp => k_is); (case q_sl => k_is); (case q_sc => k_is)
